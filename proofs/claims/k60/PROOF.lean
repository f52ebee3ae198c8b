import PyProof.Rows.All
import HandS.ForMost
import HandS.TupSets
import HandS.ForExc
import HandS.Conv
import HandS.TupAny
import PyProof.ListStr
import PyProof.StrOps2
import HandS.IsInst
import HandS.Codes
import KE.GoesMore
import KE.GoesEnum
import HandS.SortRule
import HandS.ExcInit
import HandS.ExcIs
import HandS.ExcField
import HandS.HotCalls
import KE.KExcIs
import HandS.Deep
import HandS.Star
import HandS.TupLe
import PyProof.P3In
import PyProof.SetRoads
import HandS.SetFor
import HandS.Strs
import HandS.Rev
import HandS.Dict
import HandS.Ends
import PyProof.ReprRoads
import PyProof.ReprLen
import KE.KDictPairs
import HandS.DictTup
import HandS.ListItems
import PySem.Challenge.RW_edgesaway_k60_finished
/-! The mirror's own words: data without addresses, the slots of a def, what an expression, a statement, a def comes to. Core Lean alone. -/
namespace Ml
inductive Dv where
  | non | bl (b : Bool) | int (i : Int) | str (s : List Nat) | tup (ds : List Dv) | lst (ds : List Dv) | scr (ns : List Int) | dct (ks vs : List Dv) | exc (c f : List Nat) (d : Dv)
/-- an object that may be changed: a list -/
inductive Ob where
  | lst (ds : List Dv)
  /-- a set of tuples of ints -/
  | set (ks : List (List Int))
  /-- a dict; its keys are ints and texts, or tuples of them -/
  | dct (t : Bool) (ks vs : List Dv)
inductive Slt where
  | un | fz (d : Dv) | ow (j : Option Nat) (o : Ob)
abbrev Loc := List Slt
abbrev Err := List Nat × List Dv
inductive Rs (α : Type) where
  | ok (a : α) (e : Loc) | er (x : Err) (e : Loc) | ud
abbrev ME (α : Type) := Loc → Rs α
def Rs.bind {α β : Type} (r : Rs α) (f : α → Loc → Rs β) : Rs β := match r with
  | .ok a e => f a e
  | .er x e => .er x e
  | .ud => .ud
def Rs.of {α : Type} (o : Option α) (e : Loc) : Rs α := match o with
  | some a => .ok a e
  | none => .ud
@[simp] theorem Rs.bind_ok {α β : Type} (a : α) (e : Loc) (f : α → Loc → Rs β) : (Rs.ok a e).bind f = f a e := rfl
@[simp] theorem Rs.bind_ud {α β : Type} (f : α → Loc → Rs β) : (Rs.ud : Rs α).bind f = .ud := rfl
@[simp] theorem Rs.bind_er {α β : Type} (x : Err) (e : Loc) (f : α → Loc → Rs β) : (Rs.er x e : Rs α).bind f = .er x e := rfl
@[simp] theorem Rs.of_some {α : Type} (a : α) (e : Loc) : Rs.of (some a) e = .ok a e := rfl
@[simp] theorem Rs.of_none {α : Type} (e : Loc) : Rs.of (none : Option α) e = .ud := rfl

def lim : Nat := 16000000

/-! ### expressions -/
def mVar (i : Nat) : ME Dv := fun e => match e[i]? with
  | some (.fz d) => .ok d e
  | _ => .ud
def mC (d : Dv) : ME Dv := fun e => .ok d e
def mO1 (f : Dv → Option Dv) (ma : ME Dv) : ME Dv := fun e => (ma e).bind fun a e => .of (f a) e
def mO2 (f : Dv → Dv → Option Dv) (ma mb : ME Dv) : ME Dv := fun e => (ma e).bind fun a e => (mb e).bind fun b e => .of (f a b) e
/-- an op whose answer is a new list -/
def mN1 (f : Dv → Option (List Dv)) (ma : ME Dv) : ME Ob := fun e => (ma e).bind fun a e => .of ((f a).map Ob.lst) e
def mN2 (f : Dv → Dv → Option (List Dv)) (ma mb : ME Dv) : ME Ob := fun e => (ma e).bind fun a e => (mb e).bind fun b e => .of ((f a b).map Ob.lst) e
/-- a text's method with an argument -/
def mM1 (f : List Nat → Dv → Option Dv) (ma mb : ME Dv) : ME Dv := fun e => (ma e).bind fun a e => match a with
  | .str s => (mb e).bind fun b e => .of (f s b) e
  | _ => .ud
def mM1N (f : List Nat → Dv → Option (List Dv)) (ma mb : ME Dv) : ME Ob := fun e => (ma e).bind fun a e => match a with
  | .str s => (mb e).bind fun b e => .of ((f s b).map Ob.lst) e
  | _ => .ud
/-- what it is from now on, never changed any more -/
def Ob.toD : Ob → Option Dv
  | .lst ds => some (.lst ds)
  | _ => none
def mFz (m : ME Ob) : ME Dv := fun e => (m e).bind fun o e => .of o.toD e
def mArgs : List (ME Dv) → ME (List Dv)
  | [] => fun e => .ok [] e
  | m :: ms => fun e => (m e).bind fun d e => (mArgs ms e).bind fun ds e => .ok (d :: ds) e
def mTup (ms : List (ME Dv)) : ME Dv := fun e => (mArgs ms e).bind fun ds e => if ds.length ≤ 1000 then .ok (.tup ds) e else .ud
def mLst (ms : List (ME Dv)) : ME Ob := fun e => (mArgs ms e).bind fun ds e => if ds.length ≤ 1000 then .ok (.lst ds) e else .ud
/-- an owned list as an operand, read when the op is done -/
def mOwn (i : Nat) (f : List Dv → Option Dv) : ME Dv := fun e => match e[i]? with
  | some (.ow _ (.lst ds)) => .of (f ds) e
  | _ => .ud
def mOwn2 (i : Nat) (f : List Dv → Dv → Option Dv) (mb : ME Dv) : ME Dv := fun e => match e[i]? with
  | some (.ow _ _) => (mb e).bind fun b e => mOwn i (fun ds => f ds b) e
  | _ => .ud
def mTest (m : ME Dv) : ME Bool := fun e => (m e).bind fun d e => match d with
  | .bl b => .ok b e
  | _ => .ud
/-- the truth of a value -/
def truthD : Dv → Option Bool
  | .bl b => some b
  | .non => some false
  | .int i => some (i != 0)
  | .str s => if s.length ≤ lim then some (s.length != 0) else none
  | .tup ds => some (!ds.isEmpty)
  | .lst ds => some (!ds.isEmpty)
  | .scr _ => none
  | .dct _ _ => none
  | .exc _ _ _ => none
def mTruth (m : ME Dv) : ME Bool := fun e => (m e).bind fun d e => .of (truthD d) e
def mOwnTruth (i : Nat) : ME Bool := fun e => match e[i]? with
  | some (.ow _ (.lst ds)) => .ok (!ds.isEmpty) e
  | _ => .ud
def mAnd (a b : ME Bool) : ME Bool := fun e => (a e).bind fun x e => if x = true then b e else .ok false e
def mOr (a b : ME Bool) : ME Bool := fun e => (a e).bind fun x e => if x = true then .ok true e else b e
def mNot (a : ME Bool) : ME Bool := fun e => (a e).bind fun x e => .ok (!x) e
def mAndV (a b : ME Dv) : ME Dv := fun e => (mTest a e).bind fun x e => if x = true then b e else .ok (.bl false) e
def mOrV (a b : ME Dv) : ME Dv := fun e => (mTest a e).bind fun x e => if x = true then .ok (.bl true) e else b e
def mNotV (a : ME Dv) : ME Dv := fun e => (mTest a e).bind fun x e => .ok (.bl (!x)) e
def mIte (t : ME Bool) (a b : ME Dv) : ME Dv := fun e => (t e).bind fun x e => if x = true then a e else b e

/-! ### targets -/
abbrev MG := Dv → Loc → Option Loc
def free : Option Slt → Bool
  | some .un => true
  | some (.fz _) => true
  | some (.ow none _) => true
  | _ => false
def gN (i : Nat) : MG := fun d e => if free e[i]? = true then some (e.set i (.fz d)) else none
def gTs : List MG → List Dv → Loc → Option Loc
  | [], [], e => some e
  | g :: gs, d :: ds, e => (g d e).bind fun e => gTs gs ds e
  | _, _, _ => none
def gT (gs : List MG) : MG := fun d e => match d with
  | .tup ds => gTs gs ds e
  | _ => none

/-! ### calls -/
def isOw : Option Slt → Bool
  | some (.ow _ _) => true
  | _ => false
/-- an owned list -/
def isLs : Option Slt → Bool
  | some (.ow _ (.lst _)) => true
  | _ => false
inductive Fres where
  | ok (s : Slt) (outs : List Ob) | er (x : Err) (outs : List Ob) | ud
abbrev Fn := List Slt → Fres
inductive MA where
  | val (m : ME Dv) | own (i : Nat)
inductive AV where
  | val (d : Dv) | own (i : Nat)
def mAs : List MA → ME (List AV)
  | [] => fun e => .ok [] e
  | .val m :: ms => fun e => (m e).bind fun d e => (mAs ms e).bind fun ds e => .ok (.val d :: ds) e
  | .own i :: ms => fun e => if isOw e[i]? = true then (mAs ms e).bind fun ds e => .ok (.own i :: ds) e else .ud
/-- what a callee is handed -/
def resolve : List AV → Loc → Option (List Slt)
  | [], _ => some []
  | .val d :: as, e => (resolve as e).map fun r => .fz d :: r
  | .own i :: as, e => match e[i]? with
    | some (.ow _ o) => (resolve as e).map fun r => .ow none o :: r
    | _ => none
def owns : List AV → List Nat
  | [] => []
  | .val _ :: as => owns as
  | .own i :: as => i :: owns as
def putO : Option Slt → Ob → Slt
  | some (.ow j _), o => .ow j o
  | _, o => .ow none o
def wback : List Nat → List Ob → Loc → Option Loc
  | [], [], e => some e
  | i :: is, o :: os, e => wback is os (e.set i (putO e[i]? o))
  | _, _, _ => none
def mCall (F : Fn) (as : List MA) : ME Slt := fun e => (mAs as e).bind fun vs e =>
  if (owns vs).Nodup then
    match resolve vs e with
    | none => .ud
    | some ss => match F ss with
      | .ok s outs => (Rs.of (wback (owns vs) outs e) e).bind fun e' _ => .ok s e'
      | .er x outs => (Rs.of (wback (owns vs) outs e) e).bind fun e' _ => .er x e'
      | .ud => .ud
  else .ud
def mCallD (F : Fn) (as : List MA) : ME Dv := fun e => (mCall F as e).bind fun s e => match s with
  | .fz d => .ok d e
  | _ => .ud
def mCallO (F : Fn) (as : List MA) : ME Ob := fun e => (mCall F as e).bind fun s e => match s with
  | .ow none o => .ok o e
  | _ => .ud

/-! ### statements -/
inductive Sr where
  | nx (e : Loc) | rt (s : Slt) (e : Loc) | bk (e : Loc) | ct (e : Loc) | er (x : Err) (e : Loc) | ud
abbrev MS := Loc → Sr
def Rs.go {α : Type} (r : Rs α) (f : α → Loc → Sr) : Sr := match r with
  | .ok a e => f a e
  | .er x e => .er x e
  | .ud => .ud
@[simp] theorem Rs.go_ok {α : Type} (a : α) (e : Loc) (f : α → Loc → Sr) : (Rs.ok a e).go f = f a e := rfl
@[simp] theorem Rs.go_ud {α : Type} (f : α → Loc → Sr) : (Rs.ud : Rs α).go f = .ud := rfl
def Sr.then (r : Sr) (f : MS) : Sr := match r with
  | .nx e => f e
  | r => r
@[simp] theorem Sr.then_nx (e : Loc) (f : MS) : (Sr.nx e).then f = f e := rfl
@[simp] theorem Sr.then_rt (s : Slt) (e : Loc) (f : MS) : (Sr.rt s e).then f = .rt s e := rfl
@[simp] theorem Sr.then_bk (e : Loc) (f : MS) : (Sr.bk e).then f = .bk e := rfl
@[simp] theorem Sr.then_ct (e : Loc) (f : MS) : (Sr.ct e).then f = .ct e := rfl
@[simp] theorem Sr.then_er (x : Err) (e : Loc) (f : MS) : (Sr.er x e).then f = .er x e := rfl
@[simp] theorem Sr.then_ud (f : MS) : (Sr.ud).then f = .ud := rfl
def nxO (o : Option Loc) : Sr := match o with
  | some e => .nx e
  | none => .ud
def sNil : MS := fun e => .nx e
def sSeq (a b : MS) : MS := fun e => (a e).then b
def sBrk : MS := fun e => .bk e
def sCnt : MS := fun e => .ct e
def sSet (m : ME Dv) (g : MG) : MS := fun e => (m e).go fun d e => nxO (g d e)
def sSetO (i : Nat) (m : ME Ob) : MS := fun e => (m e).go fun o e => if free e[i]? = true then .nx (e.set i (.ow none o)) else .ud
def sAug (i : Nat) (f : Dv → Dv → Option Dv) (m : ME Dv) : MS := fun e => match e[i]? with
  | some (.fz d) => (m e).go fun b e => match f d b with
    | some c => .nx (e.set i (.fz c))
    | none => .ud
  | _ => .ud
def sApp (i : Nat) (m : ME Dv) : MS := fun e => if isLs e[i]? = true then (m e).go fun d e => match e[i]? with
    | some (.ow j (.lst ds)) => if ds.length < lim then .nx (e.set i (.ow j (.lst (ds ++ [d])))) else .ud
    | _ => .ud
  else .ud
def ixn (n : Nat) (i : Int) : Option Nat := if 0 ≤ i then (if i < n then some i.toNat else none) else if -(n : Int) ≤ i then some (i + n).toNat else none
def getI {α : Type} (ds : List α) (k : Int) : Option α := (ixn ds.length k).bind fun n => ds[n]?
/-- x[k] = e -/
def sPut (i : Nat) (mk m : ME Dv) : MS := fun e => (m e).go fun d e => if isOw e[i]? = true then (mk e).go fun k e => match e[i]?, k with
    | some (.ow j (.lst ds)), .int k => match ixn ds.length k with
      | some n => .nx (e.set i (.ow j (.lst (ds.set n d))))
      | none => .ud
    | _, _ => .ud
  else .ud
/-- x[k] op= e -/
def sPutAug (i : Nat) (mk : ME Dv) (f : Dv → Dv → Option Dv) (m : ME Dv) : MS := fun e => if isOw e[i]? = true then (mk e).go fun k e => match e[i]?, k with
    | some (.ow _ (.lst ds)), .int k => match getI ds k with
      | some a => (m e).go fun b e => match f a b, e[i]? with
        | some c, some (.ow j (.lst ds')) => match ixn ds'.length k with
          | some n => .nx (e.set i (.ow j (.lst (ds'.set n c))))
          | none => .ud
        | _, _ => .ud
      | none => .ud
    | _, _ => .ud
  else .ud
def sDrop (m : ME Dv) : MS := fun e => (m e).go fun _ e => .nx e
def sIf (t : ME Bool) (a b : MS) : MS := fun e => (t e).go fun x e => if x = true then a e else b e
def sRet (m : ME Dv) : MS := fun e => (m e).go fun d e => .rt (.fz d) e
def sRetO (m : ME Ob) : MS := fun e => (m e).go fun o e => .rt (.ow none o) e
/-- return x, x an owned list of this def's own -/
def sRetV (i : Nat) : MS := fun e => match e[i]? with
  | some (.ow none o) => .rt (.ow none o) e
  | _ => .ud
def loop (g : MG) (b : MS) : List Dv → MS
  | [], e => .nx e
  | d :: ds, e => match g d e with
    | none => .ud
    | some e => match b e with
      | .nx e => loop g b ds e
      | .ct e => loop g b ds e
      | .bk e => .nx e
      | r => r
def sFor (mi : ME (List Dv)) (g : MG) (b : MS) : MS := fun e => (mi e).go fun ds e => loop g b ds e

/-! ### what is walked -/
def itD : Dv → Option (List Dv)
  | .lst ds => some ds
  | .tup ds => some ds
  | .str s => some (s.map fun c => .str [c])
  | _ => none
def itL : Dv → Option (List Dv)
  | .lst ds => some ds
  | _ => none
def itT : Dv → Option (List Dv)
  | .tup ds => some ds
  | _ => none
def itS : Dv → Option (List Dv)
  | .str s => some (s.map fun c => .str [c])
  | _ => none
def big : Int := 4000000000000000000
def itR (lo hi : Int) : Option (List Dv) := if -big ≤ lo ∧ lo ≤ big ∧ -big ≤ hi ∧ hi ≤ big then some ((List.range (hi - lo).toNat).map fun (k : Nat) => Dv.int (lo + (k : Int))) else none
def mIt (f : Dv → Option (List Dv)) (m : ME Dv) : ME (List Dv) := fun e => (m e).bind fun d e => .of (f d) e
def mRg1 (m : ME Dv) : ME (List Dv) := fun e => (m e).bind fun d e => match d with
  | .int n => .of (itR 0 n) e
  | _ => .ud
def mRg2 (a b : ME Dv) : ME (List Dv) := fun e => (a e).bind fun x e => (b e).bind fun y e => match x, y with
  | .int x, .int y => .of (itR x y) e
  | _, _ => .ud
/-- an owned list of this def's, walked, and never changed from now on -/
def mItF (i : Nat) : ME (List Dv) := fun e => match e[i]? with
  | some (.ow none (.lst ds)) => .ok ds (e.set i (.fz (.lst ds)))
  | _ => .ud

/-! ### comprehensions -/
def wipeE (e : Loc) : List Nat → Loc
  | [] => e
  | v :: vs => (wipeE e vs).set v .un
/-- the block's own names as they stood ahead -/
def backE (e0 e : Loc) : List Nat → Loc
  | [] => e
  | v :: vs => (backE e0 e vs).set v (e0[v]?.getD .un)
def noOw (e : Loc) (vs : List Nat) : Bool := vs.all fun v => match e[v]? with
  | some .un => true
  | some (.fz _) => true
  | _ => false
def lcGo (g : MG) (t : ME Bool) (m : ME Dv) (vs : List Nat) : List Dv → List Dv → Loc → Option (List Dv × Loc)
  | [], acc, e => some (acc, e)
  | d :: ds, acc, e => match g d e with
    | none => none
    | some e => match t e with
      | .ok true e => match m e with
        | .ok y e => if acc.length < lim then lcGo g t m vs ds (acc ++ [y]) (wipeE e vs) else none
        | _ => none
      | .ok false e => lcGo g t m vs ds acc (wipeE e vs)
      | _ => none
def mLc (mi : ME (List Dv)) (g : MG) (t : ME Bool) (m : ME Dv) (vs : List Nat) : ME Ob := fun e => (mi e).bind fun ds e =>
  if noOw e vs = true then match lcGo g t m vs ds [] (wipeE e vs) with
    | some (acc, e') => .ok (.lst acc) (backE e e' vs)
    | none => .ud
  else .ud
def mYes : ME Bool := fun e => .ok true e

/-! ### defs -/
def initE : Nat → List Slt → Loc
  | _, [] => []
  | k, .ow _ o :: r => .ow (some k) o :: initE (k + 1) r
  | k, s :: r => s :: initE k r
def outsE : Nat → List Slt → Loc → Option (List Ob)
  | _, [], _ => some []
  | k, .ow _ _ :: r, .ow (some k') o :: e => if k = k' then (outsE (k + 1) r e).map fun os => o :: os else none
  | _, .ow _ _ :: _, _ => none
  | k, _ :: r, _ :: e => outsE k r e
  | _, _ :: _, [] => none
def isArg : Slt → Bool
  | .un => false
  | .ow (some _) _ => false
  | _ => true
def mkFn (np nl : Nat) (b : MS) : Fn := fun as =>
  if as.length = np ∧ as.all isArg = true then
    match b (initE 0 as ++ List.replicate nl .un) with
    | .nx e => match outsE 0 as e with
      | some os => .ok (.fz .non) os
      | none => .ud
    | .rt s e => match outsE 0 as e with
      | some os => .ok s os
      | none => .ud
    | .er x e => match outsE 0 as e with
      | some os => .er x os
      | none => .ud
    | _ => .ud
  else .ud

/-! ### the operations on data -/
def oAdd : Dv → Dv → Option Dv
  | .int a, .int b => some (.int (a + b))
  | .str a, .str b => if a.length + b.length ≤ lim then some (.str (a ++ b)) else none
  | _, _ => none
def oAddI : Dv → Dv → Option Dv
  | .int a, .int b => some (.int (a + b))
  | _, _ => none
def oAddS : Dv → Dv → Option Dv
  | .str a, .str b => if a.length + b.length ≤ lim then some (.str (a ++ b)) else none
  | _, _ => none
def oSub : Dv → Dv → Option Dv
  | .int a, .int b => some (.int (a - b))
  | _, _ => none
def oMul : Dv → Dv → Option Dv
  | .int a, .int b => if (a.natAbs < 2 ^ 62 ∨ b.natAbs < 2 ^ 62) then some (.int (a * b)) else none
  | _, _ => none
def oDiv : Dv → Dv → Option Dv
  | .int a, .int b => if b ≠ 0 ∧ b.natAbs < 1073741824 then some (.int (a.fdiv b)) else none
  | _, _ => none
def oMod : Dv → Dv → Option Dv
  | .int a, .int b => if b ≠ 0 then some (.int (a.fmod b)) else none
  | _, _ => none
def oPow : Dv → Dv → Option Dv
  | .int a, .int b => if 0 ≤ b ∧ b ≤ 1000000 ∧ a.natAbs < 2 ^ 62 then some (.int (a ^ b.toNat)) else none
  | _, _ => none
def oShl : Dv → Dv → Option Dv
  | .int a, .int b => if 0 ≤ b ∧ b ≤ 1000000 ∧ a.natAbs < 2 ^ 62 then some (.int (a * 2 ^ b.toNat)) else none
  | _, _ => none
def oNeg : Dv → Option Dv
  | .int a => some (.int (-a))
  | _ => none
def oLt : Dv → Dv → Option Dv
  | .int a, .int b => some (.bl (decide (a < b)))
  | _, _ => none
def oLe : Dv → Dv → Option Dv
  | .int a, .int b => some (.bl (decide (a ≤ b)))
  | _, _ => none
def oGt : Dv → Dv → Option Dv
  | .int a, .int b => some (.bl (decide (b < a)))
  | _, _ => none
def oGe : Dv → Dv → Option Dv
  | .int a, .int b => some (.bl (decide (b ≤ a)))
  | _, _ => none
/-- == of plain things of one kind (and of None) -/
def eqS : Dv → Dv → Option Bool
  | .int a, .int b => some (decide (a = b))
  | .str a, .str b => some (decide (a = b))
  | .bl a, .bl b => some (decide (a = b))
  | .non, .non => some true
  | .non, .int _ => some false
  | .non, .str _ => some false
  | .int _, .non => some false
  | .str _, .non => some false
  | .str _, .int _ => some false
  | .int _, .str _ => some false
  | _, _ => none
def oEq (a b : Dv) : Option Dv := (eqS a b).map .bl
def oNe (a b : Dv) : Option Dv := (eqS a b).map fun x => .bl (!x)
/-- one sign in a text -/
def oInS : Dv → Dv → Option Dv
  | .str [c], .str s => some (.bl (decide (c ∈ s)))
  | _, _ => none
def oNiS : Dv → Dv → Option Dv
  | .str [c], .str s => some (.bl (!decide (c ∈ s)))
  | _, _ => none
def oIx : Dv → Dv → Option Dv
  | .lst ds, .int k => getI ds k
  | .tup ds, .int k => getI ds k
  | .scr ns, .int k => (getI ns k).map .int
  | .str s, .int k => if s.length ≤ lim then (getI s k).map fun c => .str [c] else none
  | _, _ => none
def oIxL : Dv → Dv → Option Dv
  | .lst ds, .int k => getI ds k
  | .scr ns, .int k => (getI ns k).map .int
  | _, _ => none
def oIxT : Dv → Dv → Option Dv
  | .tup ds, .int k => getI ds k
  | _, _ => none
def oIxS : Dv → Dv → Option Dv
  | .str s, .int k => if s.length ≤ lim then (getI s k).map fun c => .str [c] else none
  | _, _ => none
def wIx (ds : List Dv) : Dv → Option Dv
  | .int k => getI ds k
  | _ => none
def oLenS : Dv → Option Dv
  | .str s => if s.length ≤ lim then some (.int s.length) else none
  | _ => none
def oLenQ : Dv → Option Dv
  | .lst ds => some (.int ds.length)
  | .tup ds => some (.int ds.length)
  | .scr ns => some (.int ns.length)
  | _ => none
def oLen : Dv → Option Dv
  | .str s => if s.length ≤ lim then some (.int s.length) else none
  | .lst ds => some (.int ds.length)
  | .tup ds => some (.int ds.length)
  | .scr ns => some (.int ns.length)
  | _ => none
def wLen (ds : List Dv) : Option Dv := some (.int ds.length)
def oAbs : Dv → Option Dv
  | .int a => some (.int (if a < 0 then -a else a))
  | _ => none
def oInt : Dv → Option Dv
  | .int a => some (.int a)
  | .bl b => some (.int (if b then 1 else 0))
  | _ => none
def oTup : Dv → Option Dv
  | .lst ds => some (.tup ds)
  | .tup ds => some (.tup ds)
  | _ => none
def wTup (ds : List Dv) : Option Dv := some (.tup ds)
def oIsT : Dv → Option Dv
  | .tup _ => some (.bl true)
  | .lst _ => some (.bl false)
  | .int _ => some (.bl false)
  | .str _ => some (.bl false)
  | .non => some (.bl false)
  | .bl _ => some (.bl false)
  | _ => none
def oIsS : Dv → Option Dv
  | .str _ => some (.bl true)
  | .int _ => some (.bl false)
  | .non => some (.bl false)
  | .bl _ => some (.bl false)
  | .tup _ => some (.bl false)
  | .lst _ => some (.bl false)
  | _ => none
def boolsOf : List Dv → Option (List Bool)
  | [] => some []
  | .bl b :: r => (boolsOf r).map fun x => b :: x
  | _ :: _ => none
def oAll : Dv → Option Dv
  | .lst ds => (boolsOf ds).map fun bs => .bl (bs.all id)
  | _ => none
def strsOf : List Dv → Option (List (List Nat))
  | [] => some []
  | .str b :: r => (strsOf r).map fun x => b :: x
  | _ :: _ => none
def joinN (sep : List Nat) : List (List Nat) → List Nat
  | [] => []
  | [a] => a
  | a :: b :: r => a ++ (sep ++ joinN sep (b :: r))
def oJoin (s : List Nat) : Dv → Option Dv
  | .lst ds => (strsOf ds).bind fun xs => if (xs.map List.length).sum + xs.length * s.length ≤ lim then some (.str (joinN s xs)) else none
  | _ => none
/-- split at one sign -/
def splitN (c : Nat) : List Nat → List Nat → List (List Nat)
  | acc, [] => [acc]
  | acc, x :: r => if x = c then acc :: splitN c [] r else splitN c (acc ++ [x]) r
def oSplit (s : List Nat) : Dv → Option (List Dv)
  | .str [c] => if c < 128 ∧ s.length + 2 ≤ lim then some ((splitN c [] s).map .str) else none
  | _ => none
def sIx (n : Nat) (dflt : Nat) : Option Int → Nat
  | none => dflt
  | some i => if i < 0 then (i + (n : Int)).toNat else min i.toNat n
def cutN {α : Type} (s : List α) (lo hi : Option Int) : List α := (s.drop (sIx s.length 0 lo)).take (sIx s.length s.length hi - sIx s.length 0 lo)
/-- a slice's ends -/
def partD : Option Dv → Option (Option Int)
  | none => some none
  | some (.int k) => some (some k)
  | _ => none
def slS : Dv → Option Int → Option Int → Option Dv
  | .str s, lo, hi => if s.length ≤ lim then some (.str (cutN s lo hi)) else none
  | _, _, _ => none
def slL : Dv → Option Int → Option Int → Option (List Dv)
  | .lst ds, lo, hi => some (cutN ds lo hi)
  | _, _, _ => none
def mPart : Option (ME Dv) → ME (Option Int)
  | none => fun e => .ok none e
  | some m => fun e => (m e).bind fun d e => match d with
    | .int k => .ok (some k) e
    | _ => .ud
def mSl (f : Dv → Option Int → Option Int → Option Dv) (m : ME Dv) (lo hi : Option (ME Dv)) : ME Dv := fun e => (m e).bind fun d e => (mPart lo e).bind fun a e => (mPart hi e).bind fun b e => .of (f d a b) e
def mSlN (f : Dv → Option Int → Option Int → Option (List Dv)) (m : ME Dv) (lo hi : Option (ME Dv)) : ME Ob := fun e => (m e).bind fun d e => (mPart lo e).bind fun a e => (mPart hi e).bind fun b e => .of ((f d a b).map Ob.lst) e
def listS : Dv → Option (List Dv)
  | .str s => if s.length ≤ lim then some (s.map fun c => .str [c]) else none
  | _ => none
def oRepS : Dv → Dv → Option Dv
  | .str s, .int k => if s.length * k.toNat ≤ lim ∧ k.natAbs < 2 ^ 60 then some (.str (List.replicate k.toNat s).flatten) else none
  | _, _ => none
def oCat : Dv → Dv → Option (List Dv)
  | .lst a, .lst b => if a.length + b.length ≤ lim then some (a ++ b) else none
  | _, _ => none
/-- a number in decimal -/
def oStr : Dv → Option Dv
  | .int i => if i.natAbs < 2 ^ 900 then some (.str ((toString i).toList.map Char.toNat)) else none
  | _ => none
/-- the slots behind the first row of a law -/
def lawE (ns : List Int) (nl : Nat) : Loc := .un :: .ow none (.lst [.scr ns, .int 0, .int 0, .int 7]) :: List.replicate nl .un
end Ml

set_option linter.all false
set_option maxRecDepth 100000
set_option maxHeartbeats 1000000
/-! A def's reading against its mirror: what stands in the slots and in the heap, and one rule for each construct. -/
namespace Ml
open L2
open PySem (Addr Str sizeLine)

abbrev sOf (s : List Nat) : Str := ⟨s.toArray⟩

/-- what stands still through a call: the script's place; the exception that is handled, its class, its dict -/
structure Sc where
  a : Addr
  x : Option (Addr × Addr × Addr)
  P : PySem.Program
  w : PySem.World
/-- .., this program, this world -/
abbrev scOf (sc : Sc) (P : PySem.Program) (w : PySem.World) : Sc := ⟨sc.a, sc.x, P, w⟩
/-- a dict's key -/
def keyK : Dv → Option L2.Key
  | .int i => some (Sum.inl i)
  | .str s => some (Sum.inr (sOf s))
  | _ => none
def keysK : List Dv → Option (List L2.Key)
  | [] => some []
  | d :: ds => match keyK d, keysK ds with
    | some k, some ks => some (k :: ks)
    | _, _ => none
def keyT : Dv → Option (List L2.Key)
  | .tup ds => keysK ds
  | _ => none
def keysT : List Dv → Option (List (List L2.Key))
  | [] => some []
  | d :: ds => match keyT d, keysT ds with
    | some k, some ks => some (k :: ks)
    | _, _ => none
/-- a dict that is never changed any more -/
def DctAt (Hs : Hp) (a : Addr) (ks : List Dv) (xs : List V) : Prop :=
  (∃ o kvs, Hs a = some (.frz o (.dK kvs)) ∧ keysK ks = some (kvs.map (·.1)) ∧ xs = kvs.map (·.2)) ∨ ∃ o kvs, Hs a = some (.frz o (.dT kvs)) ∧ keysT ks = some (kvs.map (·.1)) ∧ xs = kvs.map (·.2)
/-- a tuple without attributes of its own -/
def PlT (K : PySem.W.Frag) (H : Hp) (a : Addr) (xs : List V) : Prop :=
  (∃ o : PySem.Obj, H a = some (.frz o (.tup xs)) ∧ o.cls = .type "tuple" ∧ o.dict = none) ∨
  ∃ (o : PySem.Obj) (its : Array PySem.Value) (n : Nat), K.lookup a = some o ∧ o.cls = .type "tuple" ∧ o.dict = none ∧ o.data = .seq its n ∧ its.size ≤ sizeLine ∧ Vals xs its.toList
theorem PlT.sq {K : PySem.W.Frag} {H : Hp} {a : Addr} {xs : List V} (h : PlT K H a xs) : SqT K H a xs := by
  rcases h with ⟨o, h, _⟩ | ⟨o, its, n, h1, h2, _, h3, h4, h5⟩
  · exact .inl (.inr ⟨o, h⟩)
  · exact .inr ⟨o, its, n, h1, h2, h3, h4, h5⟩
theorem PlT.of {K : PySem.W.Frag} {H : Hp} {a : Addr} {xs : List V} {o : PySem.Obj} (h : H a = some (.frz o (.tup xs))) (c : o.cls = .type "tuple") (d : o.dict = none) : PlT K H a xs := .inl ⟨o, h, c, d⟩
section
variable (K : PySem.W.Frag) (sc : Sc)
mutual
def Rep (Hs : Hp) : Dv → V → Prop
  | .non, v => v = .non
  | .bl b, v => v = .bl b
  | .int i, v => v = .int i
  | .str s, v => v = .str (sOf s)
  | .tup ds, v => ∃ a xs, v = .ref a ∧ PlT K Hs a xs ∧ Reps Hs ds xs
  | .lst ds, v => ∃ a xs, v = .ref a ∧ Hs a = some (.lst xs) ∧ Reps Hs ds xs
  | .scr ns, v => v = .ref sc.a ∧ Hs sc.a = some (.lst (ns.map V.int))
  | .dct ks ds, v => ∃ a xs, v = .ref a ∧ DctAt Hs a ks xs ∧ Reps Hs ds xs
  | .exc c f d, v => ∃ a C dd w, sc.x = some (a, C, dd) ∧ v = .ref a ∧ PySem.W.nsIn K PySem.mainGlobals (sOf c) = some (some (.ref C)) ∧ Hs dd = some (.xd [(sOf f, w)]) ∧ Rep Hs d w
def Reps (Hs : Hp) : List Dv → List V → Prop
  | [], vs => vs = []
  | d :: ds, vs => ∃ v r, vs = v :: r ∧ Rep Hs d v ∧ Reps Hs ds r
end
end

/-- what was tracked is tracked as it was -/
abbrev Le (H H' : Hp) : Prop := ∀ a o, H a = some o → H' a = some o
theorem Le.rfl' {H : Hp} : Le H H := fun _ _ h => h
theorem Le.trans {H H1 H2 : Hp} (a : Le H H1) (b : Le H1 H2) : Le H H2 := fun x o h => b x o (a x o h)
theorem le_none {H H' : Hp} (h : Le H H') {a : Addr} (e : H' a = none) : H a = none := by
  cases q : H a with
  | none => rfl
  | some o => rw [h a o q] at e; cases e
theorem Le.new {H : Hp} {p : Addr} {o : HO} (h : H p = none) : Le H (upd H p o) := fun a u e => by
  rw [upd_ne (ne_of_none e h)]; exact e
theorem dctAt_le {H H' : Hp} {a : Addr} {ks : List Dv} {xs : List V} (e : Le H H') (h : DctAt H a ks xs) : DctAt H' a ks xs := by
  rcases h with ⟨o, kvs, h1, h2⟩ | ⟨o, kvs, h1, h2⟩
  · exact .inl ⟨o, kvs, e _ _ h1, h2⟩
  · exact .inr ⟨o, kvs, e _ _ h1, h2⟩
theorem plt_le {K : PySem.W.Frag} {H H' : Hp} {a : Addr} {xs : List V} (e : Le H H') (h : PlT K H a xs) : PlT K H' a xs := by
  rcases h with ⟨o, h, c⟩ | h
  · exact .inl ⟨o, e _ _ h, c⟩
  · exact .inr h
theorem sqt_le {K : PySem.W.Frag} {H H' : Hp} {a : Addr} {xs : List V} (e : Le H H') (h : SqT K H a xs) : SqT K H' a xs := by
  rcases h with (h | ⟨o, h⟩) | h
  · exact .inl (.inl (e _ _ h))
  · exact .inl (.inr ⟨o, e _ _ h⟩)
  · exact .inr h

section
variable {K : PySem.W.Frag} {sc : Sc}
mutual
theorem rep_le {H H' : Hp} (h : Le H H') : ∀ {d : Dv} {v : V}, Rep K sc H d v → Rep K sc H' d v
  | .non, _, r => by simpa only [Rep] using r
  | .bl _, _, r => by simpa only [Rep] using r
  | .int _, _, r => by simpa only [Rep] using r
  | .str _, _, r => by simpa only [Rep] using r
  | .tup ds, v, r => by
    simp only [Rep] at r ⊢
    obtain ⟨a, xs, e, q, rs⟩ := r
    exact ⟨a, xs, e, plt_le h q, reps_le h rs⟩
  | .lst ds, v, r => by
    simp only [Rep] at r ⊢
    obtain ⟨a, xs, e, q, rs⟩ := r
    exact ⟨a, xs, e, h _ _ q, reps_le h rs⟩
  | .scr ns, v, r => by
    simp only [Rep] at r ⊢
    exact ⟨r.1, h _ _ r.2⟩
  | .dct ks ds, v, r => by
    simp only [Rep] at r ⊢
    obtain ⟨a, xs, e, q, rs⟩ := r
    exact ⟨a, xs, e, dctAt_le h q, reps_le h rs⟩
  | .exc c f d, v, r => by
    simp only [Rep] at r ⊢
    obtain ⟨a, C, dd, w, e1, e2, e3, e4, r⟩ := r
    exact ⟨a, C, dd, w, e1, e2, e3, h _ _ e4, rep_le h r⟩
theorem reps_le {H H' : Hp} (h : Le H H') : ∀ {ds : List Dv} {vs : List V}, Reps K sc H ds vs → Reps K sc H' ds vs
  | [], _, r => by simpa only [Reps] using r
  | d :: ds, vs, r => by
    simp only [Reps] at r ⊢
    obtain ⟨v, q, e, r1, r2⟩ := r
    exact ⟨v, q, e, rep_le h r1, reps_le h r2⟩
end
variable {H : Hp}
theorem reps_nil : Reps K sc H [] [] := by simp only [Reps]
theorem reps_cons {d : Dv} {ds : List Dv} {v : V} {vs : List V} (a : Rep K sc H d v) (b : Reps K sc H ds vs) : Reps K sc H (d :: ds) (v :: vs) := by
  simp only [Reps]; exact ⟨v, vs, rfl, a, b⟩
theorem reps_len : ∀ {ds : List Dv} {vs : List V}, Reps K sc H ds vs → vs.length = ds.length
  | [], vs, r => by simp only [Reps] at r; subst r; rfl
  | d :: ds, vs, r => by
    simp only [Reps] at r
    obtain ⟨v, q, rfl, _, r2⟩ := r
    simp [reps_len r2]
theorem reps_get : ∀ {ds : List Dv} {vs : List V} {i : Nat} {d : Dv}, Reps K sc H ds vs → ds[i]? = some d → ∃ v, vs[i]? = some v ∧ Rep K sc H d v
  | [], _, _, _, _, e => by simp at e
  | d :: ds, vs, i, d', r, e => by
    simp only [Reps] at r
    obtain ⟨v, q, rfl, r1, r2⟩ := r
    cases i with
    | zero => simp at e; subst e; exact ⟨v, rfl, r1⟩
    | succ i =>
      obtain ⟨w, e1, e2⟩ := reps_get (i := i) (d := d') r2 (by simpa using e)
      exact ⟨w, by simpa using e1, e2⟩
theorem reps_app : ∀ {ds ds' : List Dv} {vs vs' : List V}, Reps K sc H ds vs → Reps K sc H ds' vs' → Reps K sc H (ds ++ ds') (vs ++ vs')
  | [], _, vs, _, r, s => by simp only [Reps] at r; subst r; exact s
  | d :: ds, ds', vs, vs', r, s => by
    simp only [Reps] at r
    obtain ⟨v, q, rfl, r1, r2⟩ := r
    exact reps_cons r1 (reps_app r2 s)
theorem reps_set : ∀ {ds : List Dv} {vs : List V} {i : Nat} {d : Dv} {v : V}, Reps K sc H ds vs → Rep K sc H d v → Reps K sc H (ds.set i d) (vs.set i v)
  | [], vs, _, _, _, r, _ => by simp only [Reps] at r; subst r; exact reps_nil
  | d :: ds, vs, i, d', v', r, s => by
    simp only [Reps] at r
    obtain ⟨v, q, rfl, r1, r2⟩ := r
    cases i with
    | zero => exact reps_cons s r2
    | succ i => exact reps_cons r1 (reps_set r2 s)
theorem reps_strs : ∀ {l : List (List Nat)}, Reps K sc H (l.map Dv.str) (l.map fun s => V.str (sOf s))
  | [] => reps_nil
  | a :: l => reps_cons (by simp only [Rep]) reps_strs
theorem reps_ints : ∀ {l : List Int}, Reps K sc H (l.map Dv.int) (l.map V.int)
  | [] => reps_nil
  | a :: l => reps_cons (by simp only [Rep]) reps_ints
end

/-- what an owned object is -/
def OwnAt (K : PySem.W.Frag) (sc : Sc) (Hs H : Hp) (p : Addr) : Ob → Prop
  | .lst ds => ∃ xs, H p = some (.lst xs) ∧ Reps K sc Hs ds xs
  | .set ks => ∃ L : List (Addr × List Int), H p = some (L2.SetTO sc.P sc.w p L) ∧ (∀ q ∈ L, PlT K Hs q.1 (q.2.map V.int)) ∧ (L.map (·.2)).Perm ks
  | .dct false ks vs => ∃ kvs : List (L2.Key × V), H p = some (.dK kvs) ∧ keysK ks = some (kvs.map (·.1)) ∧ Reps K sc Hs vs (kvs.map (·.2))
  | .dct true ks vs => ∃ kvs : List (List L2.Key × V), H p = some (.dT kvs) ∧ keysT ks = some (kvs.map (·.1)) ∧ Reps K sc Hs vs (kvs.map (·.2))
theorem OwnAt.some {K sc Hs H p o} (h : OwnAt K sc Hs H p o) : H p ≠ none := by
  cases o with
  | lst ds => obtain ⟨xs, e, _⟩ := h; rw [e]; exact fun z => nomatch z
  | set ks => obtain ⟨L, e, _⟩ := h; rw [e]; exact fun z => nomatch z
  | dct t ks vs => cases t with
    | false => obtain ⟨kvs, e, _⟩ := h; rw [e]; exact fun z => nomatch z
    | true => obtain ⟨kvs, e, _⟩ := h; rw [e]; exact fun z => nomatch z
theorem OwnAt.mono {K sc Hs Hs' H H' p o} (h : OwnAt K sc Hs H p o) (l : Le Hs Hs') (e : H' p = H p) : OwnAt K sc Hs' H' p o := by
  cases o with
  | lst ds => obtain ⟨xs, e1, r⟩ := h; exact ⟨xs, e.trans e1, reps_le l r⟩
  | set ks => obtain ⟨L, e1, r, q⟩ := h; exact ⟨L, e.trans e1, fun y hy => plt_le l (r y hy), q⟩
  | dct t ks vs => cases t with
    | false => obtain ⟨kvs, e1, q, r⟩ := h; exact ⟨kvs, e.trans e1, q, reps_le l r⟩
    | true => obtain ⟨kvs, e1, q, r⟩ := h; exact ⟨kvs, e.trans e1, q, reps_le l r⟩

/-- a call's own things: the heap and what was laid at its start, the addresses of the lists that it may change, what is wanted of an error -/
structure Cc where
  K : PySem.W.Frag
  sc : Sc
  H0 : Hp
  P : List Addr
  Hs0 : Hp
  E : WX
  RE : Err → PySem.Value → Option Addr → Hp → Hp → Prop

def JOk (C : Cc) (p : Addr) : Option Nat → Prop
  | none => C.H0 p = none
  | some k => C.P[k]? = some p
def SlotOk (C : Cc) (Hs H : Hp) : Slt → Option (Option V) → Prop
  | .un, _ => True
  | .fz d, x => ∃ v, x = some (some v) ∧ Rep C.K C.sc Hs d v
  | .ow j o, x => ∃ p, x = some (some (.ref p)) ∧ Hs p = none ∧ OwnAt C.K C.sc Hs H p o ∧ JOk C p j

structure StOk (C : Cc) (Z : Hp) (Hs : Hp) (e : Loc) (σ : L2.St) (H : Hp) : Prop where
  len : σ.length = e.length
  le : Le Hs H
  slot : ∀ (i : Nat) s, e[i]? = some s → SlotOk C Hs H s σ[i]?
  sep : ∀ (i i' : Nat) j j' o o' p, e[i]? = some (.ow j o) → e[i']? = some (.ow j' o') → σ[i]? = some (some (.ref p)) → σ[i']? = some (some (.ref p)) → i = i'
  frame : ∀ a o, C.H0 a = some o → a ∉ C.P → H a = some o
  dom : ∀ a, C.H0 a ≠ none → H a ≠ none
  news : ∀ a, Hs a ≠ none → C.Hs0 a ≠ none ∨ C.H0 a = none
  par : ∀ p, p ∈ C.P → C.H0 p ≠ none
  hid : ∀ a o, Z a = some o → H a = some o ∧ Hs a = none
  hids : ∀ (i : Nat) j o p, e[i]? = some (.ow j o) → σ[i]? = some (some (.ref p)) → Z p = none

structure Post (Hs H Hs' H' : Hp) : Prop where
  le : Le Hs Hs'
  dom : ∀ a, H a ≠ none → H' a ≠ none
theorem Post.refl {Hs H : Hp} : Post Hs H Hs H := ⟨Le.rfl', fun _ h => h⟩
theorem Post.trans {Hs H Hs1 H1 Hs2 H2 : Hp} (a : Post Hs H Hs1 H1) (b : Post Hs1 H1 Hs2 H2) : Post Hs H Hs2 H2 := ⟨a.le.trans b.le, fun x h => b.dom x (a.dom x h)⟩
theorem dom_upd {H : Hp} {p : Addr} {o : HO} : ∀ a, H a ≠ none → upd H p o a ≠ none := fun a h => by
  by_cases e : a = p
  · subst e; rw [upd_same]; exact fun z => nomatch z
  · rw [upd_ne e]; exact h
theorem Post.new {Hs H : Hp} {p : Addr} {o : HO} (h : Hs p = none) : Post Hs H (upd Hs p o) (upd H p o) := ⟨Le.new h, dom_upd⟩
theorem Post.newO {Hs H : Hp} {p : Addr} {o : HO} : Post Hs H Hs (upd H p o) := ⟨Le.rfl', dom_upd⟩

section
variable {C : Cc} {Z Hs H Hs' H' : Hp} {e : Loc} {σ : L2.St}
theorem StOk.hs_none (k : StOk C Z Hs e σ H) {p : Addr} (h : H p = none) : Hs p = none := le_none k.le h
theorem StOk.h0_none (k : StOk C Z Hs e σ H) {p : Addr} (h : H p = none) : C.H0 p = none := by
  cases q : C.H0 p with
  | none => rfl
  | some o => exact absurd h (k.dom p (by rw [q]; exact fun z => nomatch z))
theorem StOk.z_none (k : StOk C Z Hs e σ H) {p : Addr} (h : H p = none) : Z p = none := by
  cases q : Z p with
  | none => rfl
  | some o => rw [(k.hid p o q).1] at h; cases h
theorem StOk.own (k : StOk C Z Hs e σ H) {i : Nat} {j : Option Nat} {o : Ob} (h : e[i]? = some (.ow j o)) :
    ∃ p, σ[i]? = some (some (.ref p)) ∧ Hs p = none ∧ OwnAt C.K C.sc Hs H p o ∧ JOk C p j := k.slot i _ h
theorem StOk.fz (k : StOk C Z Hs e σ H) {i : Nat} {d : Dv} (h : e[i]? = some (.fz d)) : ∃ v, σ[i]? = some (some v) ∧ Rep C.K C.sc Hs d v := k.slot i _ h
/-- an owned object's address may be changed: it is not framed -/
theorem StOk.unframed (k : StOk C Z Hs e σ H) {i : Nat} {j : Option Nat} {o : Ob} {p : Addr} (h : e[i]? = some (.ow j o)) (hp : σ[i]? = some (some (.ref p))) : ∀ u, C.H0 p = some u → p ∈ C.P := by
  obtain ⟨q, e1, _, _, z⟩ := k.own h
  rw [hp] at e1; cases e1
  intro u hu
  cases j with
  | none => have z : C.H0 p = none := z; rw [hu] at z; cases z
  | some n => exact List.mem_of_getElem? z
/-- the heap grows by things that are laid -/
theorem StOk.grow (k : StOk C Z Hs e σ H) (l : Le Hs Hs') (l' : Le H H') (ls : Le Hs' H') (n : ∀ a, Hs' a ≠ none → Hs a ≠ none ∨ H a = none) : StOk C Z Hs' e σ H' where
  len := k.len
  le := ls
  slot := fun i s hs => by
    have q := k.slot i s hs
    cases s with
    | un => trivial
    | fz d => obtain ⟨v, e1, r⟩ := q; exact ⟨v, e1, rep_le l r⟩
    | ow j o =>
      obtain ⟨p, e1, e2, e3, e4⟩ := q
      have hp : Hs' p = none := by
        cases z : Hs' p with
        | none => rfl
        | some u =>
          rcases n p (by rw [z]; exact fun q => nomatch q) with h | h
          · exact absurd e2 h
          · exact absurd h e3.some
      refine ⟨p, e1, hp, e3.mono l ?_, e4⟩
      cases z : H p with
      | none => exact absurd z e3.some
      | some u => exact l' p u z
  sep := k.sep
  frame := fun a o h h' => l' _ _ (k.frame a o h h')
  dom := fun a h => by
    have := k.dom a h
    cases z : H a with
    | none => exact absurd z this
    | some u => rw [l' a u z]; exact fun q => nomatch q
  news := fun a h => by
    rcases n a h with h | h
    · exact k.news a h
    · exact .inr (k.h0_none h)
  par := k.par
  hid := fun a o h => ⟨l' _ _ (k.hid a o h).1, by
    cases z : Hs' a with
    | none => rfl
    | some u =>
      rcases n a (by rw [z]; exact fun q => nomatch q) with h' | h'
      · exact absurd (k.hid a o h).2 h'
      · rw [(k.hid a o h).1] at h'; cases h'⟩
  hids := k.hids
theorem StOk.new (k : StOk C Z Hs e σ H) {p : Addr} {o : HO} (h : H p = none) : StOk C Z (upd Hs p o) e σ (upd H p o) :=
  k.grow (Le.new (k.hs_none h)) (Le.new h) (fun a u q => by
    by_cases z : a = p
    · subst z; rw [upd_same] at q ⊢; exact q
    · rw [upd_ne z] at q ⊢; exact k.le a u q) fun a q => by
    by_cases z : a = p
    · subst z; exact .inr h
    · rw [upd_ne z] at q; exact .inl q
theorem StOk.newO (k : StOk C Z Hs e σ H) {p : Addr} {o : HO} (h : H p = none) : StOk C Z Hs e σ (upd H p o) :=
  k.grow Le.rfl' (Le.new h) (fun a u q => Le.new h a u (k.le a u q)) fun a q => .inl q
/-- an object that is not owned by a slot is laid from now on -/
theorem StOk.freeze (k : StOk C Z Hs e σ H) {p : Addr} {o : HO} (h : H p = some o) (h0 : C.H0 p = none) (hn : Hs p = none) (hz : Z p = none) (hs : ∀ (i : Nat) j u, e[i]? = some (.ow j u) → σ[i]? ≠ some (some (.ref p))) : StOk C Z (upd Hs p o) e σ H where
  len := k.len
  le := fun a u q => by
    by_cases z : a = p
    · subst z; rw [upd_same] at q; rw [h]; exact q
    · rw [upd_ne z] at q; exact k.le a u q
  slot := fun i s hs' => by
    have q := k.slot i s hs'
    cases s with
    | un => trivial
    | fz d => obtain ⟨v, e1, r⟩ := q; exact ⟨v, e1, rep_le (Le.new hn) r⟩
    | ow j u =>
      obtain ⟨a, e1, e2, e3, e4⟩ := q
      have z : a ≠ p := fun z => hs i j u hs' (by rw [e1, z])
      exact ⟨a, e1, by rw [upd_ne z]; exact e2, e3.mono (Le.new hn) rfl, e4⟩
  sep := k.sep
  frame := k.frame
  dom := k.dom
  news := fun a q => by
    by_cases z : a = p
    · subst z; exact .inr h0
    · rw [upd_ne z] at q; exact k.news a q
  par := k.par
  hid := fun a u q => ⟨(k.hid a u q).1, by
    rw [upd_ne (ne_of_none q hz)]
    exact (k.hid a u q).2⟩
  hids := k.hids
/-- a slot is filled with data -/
theorem StOk.setF (k : StOk C Z Hs e σ H) {i : Nat} {d : Dv} {v : V} (r : Rep C.K C.sc Hs d v) : StOk C Z Hs (e.set i (.fz d)) (σ.set i (some v)) H where
  len := by rw [List.length_set, List.length_set]; exact k.len
  le := k.le
  slot := fun i' s hs => by
    by_cases z : i = i'
    · subst z
      have hi : i < e.length := by
        have := (List.getElem?_eq_some_iff.mp hs).1; rw [List.length_set] at this; exact this
      rw [List.getElem?_set_self hi] at hs
      cases hs
      rw [List.getElem?_set_self (by rw [k.len]; exact hi)]
      exact ⟨v, rfl, r⟩
    · rw [List.getElem?_set_ne z] at hs ⊢
      exact k.slot i' s hs
  sep := fun a b j j' o o' p h1 h2 h3 h4 => by
    have f : ∀ {c : Nat} {j o}, (e.set i (.fz d))[c]? = some (Slt.ow j o) → c ≠ i := fun {c j o} h z => by
      subst z
      have hi : c < e.length := by
        have := (List.getElem?_eq_some_iff.mp h).1; rw [List.length_set] at this; exact this
      rw [List.getElem?_set_self hi] at h; cases h
    have z1 := f h1; have z2 := f h2
    rw [List.getElem?_set_ne (Ne.symm z1)] at h1 h3
    rw [List.getElem?_set_ne (Ne.symm z2)] at h2 h4
    exact k.sep a b j j' o o' p h1 h2 h3 h4
  frame := k.frame
  dom := k.dom
  news := k.news
  par := k.par
  hid := k.hid
  hids := fun c j o p h h' => by
    have z : c ≠ i := fun z => by
      subst z
      have hi : c < e.length := by
        have := (List.getElem?_eq_some_iff.mp h).1; rw [List.length_set] at this; exact this
      rw [List.getElem?_set_self hi] at h; cases h
    rw [List.getElem?_set_ne (Ne.symm z)] at h h'
    exact k.hids c j o p h h'
/-- a slot is emptied -/
theorem StOk.setU (k : StOk C Z Hs e σ H) {i : Nat} {x : Option V} : StOk C Z Hs (e.set i .un) (σ.set i x) H where
  len := by rw [List.length_set, List.length_set]; exact k.len
  le := k.le
  slot := fun i' s hs => by
    by_cases z : i = i'
    · subst z
      have hi : i < e.length := by
        have := (List.getElem?_eq_some_iff.mp hs).1; rw [List.length_set] at this; exact this
      rw [List.getElem?_set_self hi] at hs
      cases hs
      trivial
    · rw [List.getElem?_set_ne z] at hs ⊢
      exact k.slot i' s hs
  sep := fun a b j j' o o' p h1 h2 h3 h4 => by
    have f : ∀ {c : Nat} {j o}, (e.set i .un)[c]? = some (Slt.ow j o) → c ≠ i := fun {c j o} h z => by
      subst z
      have hi : c < e.length := by
        have := (List.getElem?_eq_some_iff.mp h).1; rw [List.length_set] at this; exact this
      rw [List.getElem?_set_self hi] at h; cases h
    have z1 := f h1; have z2 := f h2
    rw [List.getElem?_set_ne (Ne.symm z1)] at h1 h3
    rw [List.getElem?_set_ne (Ne.symm z2)] at h2 h4
    exact k.sep a b j j' o o' p h1 h2 h3 h4
  frame := k.frame
  dom := k.dom
  news := k.news
  par := k.par
  hid := k.hid
  hids := fun c j o p h h' => by
    have z : c ≠ i := fun z => by
      subst z
      have hi : c < e.length := by
        have := (List.getElem?_eq_some_iff.mp h).1; rw [List.length_set] at this; exact this
      rw [List.getElem?_set_self hi] at h; cases h
    rw [List.getElem?_set_ne (Ne.symm z)] at h h'
    exact k.hids c j o p h h'
/-- a slot is given an object of its own -/
theorem StOk.setO (k : StOk C Z Hs e σ H) {i : Nat} {p : Addr} {o : Ob} (h0 : C.H0 p = none) (hz : Z p = none) (hn : Hs p = none) (ho : OwnAt C.K C.sc Hs H p o) (hs : ∀ (i : Nat) j u, e[i]? = some (.ow j u) → σ[i]? ≠ some (some (.ref p))) :
    StOk C Z Hs (e.set i (.ow none o)) (σ.set i (some (.ref p))) H where
  len := by rw [List.length_set, List.length_set]; exact k.len
  le := k.le
  slot := fun i' s hs' => by
    by_cases z : i = i'
    · subst z
      have hi : i < e.length := by
        have := (List.getElem?_eq_some_iff.mp hs').1; rw [List.length_set] at this; exact this
      rw [List.getElem?_set_self hi] at hs'
      cases hs'
      rw [List.getElem?_set_self (by rw [k.len]; exact hi)]
      exact ⟨p, rfl, hn, ho, h0⟩
    · rw [List.getElem?_set_ne z] at hs' ⊢
      exact k.slot i' s hs'
  sep := fun a b j j' u u' q h1 h2 h3 h4 => by
    by_cases z1 : i = a
    · by_cases z2 : i = b
      · exact z1.symm.trans z2
      · rw [List.getElem?_set_ne z2] at h2 h4
        have hi : i < e.length := by
          have := (List.getElem?_eq_some_iff.mp h1).1; rw [List.length_set] at this; omega
        subst z1
        rw [List.getElem?_set_self (by rw [k.len]; exact hi)] at h3
        cases h3
        exact absurd h4 (hs b j' u' h2)
    · rw [List.getElem?_set_ne z1] at h1 h3
      by_cases z2 : i = b
      · have hi : i < e.length := by
          have := (List.getElem?_eq_some_iff.mp h2).1; rw [List.length_set] at this; omega
        subst z2
        rw [List.getElem?_set_self (by rw [k.len]; exact hi)] at h4
        cases h4
        exact absurd h3 (hs a j u h1)
      · rw [List.getElem?_set_ne z2] at h2 h4
        exact k.sep a b j j' u u' q h1 h2 h3 h4
  frame := k.frame
  dom := k.dom
  news := k.news
  par := k.par
  hid := k.hid
  hids := fun c j u q h h' => by
    by_cases z : i = c
    · have hi : i < e.length := by
        have := (List.getElem?_eq_some_iff.mp h).1; rw [List.length_set] at this; omega
      subst z
      rw [List.getElem?_set_self (by rw [k.len]; exact hi)] at h'
      cases h'
      exact hz
    · rw [List.getElem?_set_ne z] at h h'
      exact k.hids c j u q h h'
/-- an owned object is changed -/
theorem StOk.mut (k : StOk C Z Hs e σ H) {i : Nat} {j : Option Nat} {o o' : Ob} {p : Addr} {u : HO} (he : e[i]? = some (.ow j o)) (hp : σ[i]? = some (some (.ref p))) (ho : OwnAt C.K C.sc Hs (upd H p u) p o') :
    StOk C Z Hs (e.set i (.ow j o')) σ (upd H p u) where
  len := by rw [List.length_set]; exact k.len
  le := fun a v q => by
    obtain ⟨p', e1, e2, _⟩ := k.own he
    rw [hp] at e1; cases e1
    rw [upd_ne (ne_of_none q e2)]
    exact k.le a v q
  slot := fun i' s hs => by
    obtain ⟨p', e1, e2, e3, e4⟩ := k.own he
    rw [hp] at e1; cases e1
    by_cases z : i = i'
    · subst z
      have hi : i < e.length := (List.getElem?_eq_some_iff.mp he).1
      rw [List.getElem?_set_self hi] at hs
      cases hs
      exact ⟨p, hp, e2, ho, e4⟩
    · rw [List.getElem?_set_ne z] at hs
      have q := k.slot i' s hs
      cases s with
      | un => trivial
      | fz d => exact q
      | ow j' o2 =>
        obtain ⟨p2, f1, f2, f3, f4⟩ := q
        have ne : p2 ≠ p := fun z2 => z (k.sep i i' j j' o o2 p he hs hp (by rw [f1, z2]))
        exact ⟨p2, f1, f2, f3.mono Le.rfl' (upd_ne ne), f4⟩
  sep := fun a b j1 j2 o1 o2 q h1 h2 h3 h4 => by
    have f : ∀ {c : Nat} {j' o''}, (e.set i (.ow j o'))[c]? = some (Slt.ow j' o'') → ∃ j2 o2, e[c]? = some (.ow j2 o2) := fun {c j' o''} h => by
      by_cases z : i = c
      · exact ⟨j, o, z ▸ he⟩
      · rw [List.getElem?_set_ne z] at h; exact ⟨_, _, h⟩
    obtain ⟨_, _, g1⟩ := f h1
    obtain ⟨_, _, g2⟩ := f h2
    exact k.sep a b _ _ _ _ q g1 g2 h3 h4
  frame := fun a v h h' => by
    have ne : a ≠ p := fun z => h' (z ▸ k.unframed he hp v (z ▸ h))
    rw [upd_ne ne]
    exact k.frame a v h h'
  dom := fun a h => dom_upd a (k.dom a h)
  news := k.news
  par := k.par
  hid := fun a v q => by
    have ne : a ≠ p := ne_of_none q (k.hids i j o p he hp)
    rw [upd_ne ne]
    exact k.hid a v q
  hids := fun c j1 o1 q h h' => by
    by_cases z : i = c
    · subst z
      rw [hp] at h'; cases h'
      exact k.hids i j o p he hp
    · rw [List.getElem?_set_ne z] at h
      exact k.hids c j1 o1 q h h'
/-- less is hidden -/
theorem StOk.zle {Z1 : Hp} (k : StOk C Z Hs e σ H) (h : Le Z1 Z) : StOk C Z1 Hs e σ H :=
  ⟨k.len, k.le, k.slot, k.sep, k.frame, k.dom, k.news, k.par, fun a o q => k.hid a o (h a o q), fun i j o p h1 h2 => le_none h (k.hids i j o p h1 h2)⟩
/-- an object that no slot owns is hidden -/
theorem StOk.hide (k : StOk C Z Hs e σ H) {p : Addr} {o : HO} (h : H p = some o) (hn : Hs p = none) (hs : ∀ (i : Nat) j u, e[i]? = some (.ow j u) → σ[i]? ≠ some (some (.ref p))) : StOk C (upd Z p o) Hs e σ H :=
  ⟨k.len, k.le, k.slot, k.sep, k.frame, k.dom, k.news, k.par, fun a u q => by
    by_cases z : a = p
    · subst z; rw [upd_same] at q; cases q; exact ⟨h, hn⟩
    · rw [upd_ne z] at q; exact k.hid a u q, fun i j u q h1 h2 => by
    have z : q ≠ p := fun z => hs i j u h1 (z ▸ h2)
    rw [upd_ne z]
    exact k.hids i j u q h1 h2⟩
/-- a hidden object is changed -/
theorem StOk.hmut {D : Addr} {o o' : HO} (k : StOk C (upd Z D o) Hs e σ H) (h0 : C.H0 D = none) : StOk C (upd Z D o') Hs e σ (upd H D o') where
  len := k.len
  le := fun a v q => by
    have ne : a ≠ D := ne_of_none q (k.hid D o upd_same).2
    rw [upd_ne ne]; exact k.le a v q
  slot := fun i s hs => by
    have q := k.slot i s hs
    cases s with
    | un => trivial
    | fz d => exact q
    | ow j u =>
      obtain ⟨p, e1, e2, e3, e4⟩ := q
      have ne : p ≠ D := fun z => by
        have := k.hids i j u p hs e1
        rw [z, upd_same] at this; cases this
      exact ⟨p, e1, e2, e3.mono Le.rfl' (upd_ne ne), e4⟩
  sep := k.sep
  frame := fun a v h h' => by
    rw [upd_ne (ne_of_none h h0)]; exact k.frame a v h h'
  dom := fun a h => dom_upd a (k.dom a h)
  news := k.news
  par := k.par
  hid := fun a v q => by
    by_cases z : a = D
    · subst z; rw [upd_same] at q ⊢; exact ⟨q, (k.hid a o upd_same).2⟩
    · rw [upd_ne z] at q ⊢
      exact k.hid a v (by rw [upd_ne z]; exact q)
  hids := fun i j u p h1 h2 => by
    have q := k.hids i j u p h1 h2
    by_cases z : p = D
    · subst z; rw [upd_same] at q; cases q
    · rw [upd_ne z] at q ⊢; exact q
theorem StOk.fresh (k : StOk C Z Hs e σ H) {p : Addr} (h : H p = none) : ∀ (i : Nat) j u, e[i]? = some (.ow j u) → σ[i]? ≠ some (some (.ref p)) := fun i j u he hp => by
  obtain ⟨p', e1, _, e3, _⟩ := k.own he
  rw [hp] at e1; cases e1
  exact e3.some h
end

/-! ### what is wanted of what an expression comes to -/
def WE {α β : Type} (C : Cc) (Z : Hp) (σ : L2.St) (Hs H : Hp) (rel : α → Loc → β → Hp → Hp → Prop) (r : Rs α) (Q : β → Hp → Prop) : Prop := match r with
  | .ok a e' => ∀ b Hs' H', Post Hs H Hs' H' → StOk C Z Hs' e' σ H' → rel a e' b Hs' H' → Q b H'
  | .er x e' => ∀ Hs' H' c od, Post Hs H Hs' H' → StOk C Z Hs' e' σ H' → C.RE x c od Hs' H' → C.E c od σ H'
  | .ud => False
theorem we_mono {α β : Type} {C : Cc} {Z : Hp} {σ : L2.St} {Hs H Hs1 H1 : Hp} {rel : α → Loc → β → Hp → Hp → Prop} {r : Rs α} {Q : β → Hp → Prop} (p : Post Hs H Hs1 H1) (h : WE C Z σ Hs H rel r Q) : WE C Z σ Hs1 H1 rel r Q := by
  cases r with
  | ok a e' => exact fun b Hs' H' p' => h b Hs' H' (p.trans p')
  | er x e' => exact fun Hs' H' c od p' => h Hs' H' c od (p.trans p')
  | ud => exact h
theorem we_bind {α β γ δ : Type} {C : Cc} {Z : Hp} {σ : L2.St} {Hs H : Hp} {r1 : α → Loc → β → Hp → Hp → Prop} {r2 : γ → Loc → δ → Hp → Hp → Prop} {r : Rs α} {f : α → Loc → Rs γ} {Q : δ → Hp → Prop} {R : β → Hp → Prop}
    (k : ∀ a e1 b Hs1 H1, Post Hs H Hs1 H1 → StOk C Z Hs1 e1 σ H1 → r1 a e1 b Hs1 H1 → WE C Z σ Hs1 H1 r2 (f a e1) Q → R b H1) (h : WE C Z σ Hs H r2 (r.bind f) Q) : WE C Z σ Hs H r1 r R := by
  cases r with
  | ok a e' => exact fun b Hs' H' p' s q => k a e' b Hs' H' p' s q (we_mono p' h)
  | er x e' => exact h
  | ud => exact h
theorem we_of {α β : Type} {C : Cc} {Z : Hp} {σ : L2.St} {Hs H : Hp} {rel : α → Loc → β → Hp → Hp → Prop} {o : Option α} {e : Loc} {Q : β → Hp → Prop} (h : WE C Z σ Hs H rel (Rs.of o e) Q) : ∃ a, o = some a ∧ WE C Z σ Hs H rel (.ok a e) Q := by
  cases o with
  | none => exact h.elim
  | some a => exact ⟨a, rfl, h⟩

def rD (C : Cc) : Dv → Loc → V → Hp → Hp → Prop := fun d _ v Hs' _ => Rep C.K C.sc Hs' d v
def rDs (C : Cc) : List Dv → Loc → List V → Hp → Hp → Prop := fun d _ v Hs' _ => Reps C.K C.sc Hs' d v
def rB : Bool → Loc → Bool → Hp → Hp → Prop := fun b _ b' _ _ => b = b'
def rO (C : Cc) (Z : Hp) (σ : L2.St) : Ob → Loc → V → Hp → Hp → Prop := fun o e v Hs' H' => ∃ p, v = .ref p ∧ Hs' p = none ∧ (C.H0 p = none ∧ Z p = none) ∧ OwnAt C.K C.sc Hs' H' p o ∧ ∀ (i : Nat) j u, e[i]? = some (.ow j u) → σ[i]? ≠ some (some (.ref p))

/-- the reading t is at least the mirror m -/
def SE (C : Cc) (t : TE) (m : ME Dv) : Prop := ∀ Z Hs e σ H, StOk C Z Hs e σ H → ∀ Q, WE C Z σ Hs H (rD C) (m e) Q → t σ H Q
def SEO (C : Cc) (t : TE) (m : ME Ob) : Prop := ∀ Z Hs e σ H, StOk C Z Hs e σ H → ∀ Q, WE C Z σ Hs H (rO C Z σ) (m e) Q → t σ H Q
def ST (C : Cc) (t : TT) (m : ME Bool) : Prop := ∀ Z Hs e σ H, StOk C Z Hs e σ H → ∀ Q, WE C Z σ Hs H rB (m e) Q → t σ H Q
def SA (C : Cc) (t : TA) (m : ME (List Dv)) : Prop := ∀ Z Hs e σ H, StOk C Z Hs e σ H → ∀ Q, WE C Z σ Hs H (rDs C) (m e) Q → t σ H Q

theorem we_ok {α β : Type} {C : Cc} {Z : Hp} {σ : L2.St} {Hs H : Hp} {rel : α → Loc → β → Hp → Hp → Prop} {a : α} {e : Loc} {Q : β → Hp → Prop} (h : WE C Z σ Hs H rel (.ok a e) Q) {b : β} (k : StOk C Z Hs e σ H) (r : rel a e b Hs H) : Q b H := h b Hs H Post.refl k r
/-- a new thing is laid -/
theorem we_new {α : Type} {C : Cc} {Z : Hp} {σ : L2.St} {Hs H : Hp} {rel : α → Loc → V → Hp → Hp → Prop} {a : α} {e : Loc} {Q : V → Hp → Prop} (h : WE C Z σ Hs H rel (.ok a e) Q) (k : StOk C Z Hs e σ H) {p : Addr} {o : HO} (hp : H p = none)
    (r : rel a e (.ref p) (upd Hs p o) (upd H p o)) : Q (.ref p) (upd H p o) := h _ _ _ (Post.new (k.hs_none hp)) (k.new hp) r
/-- a new list of one's own -/
theorem we_newO {C : Cc} {Z : Hp} {σ : L2.St} {Hs H : Hp} {ds : List Dv} {xs : List V} {e : Loc} {Q : V → Hp → Prop} (h : WE C Z σ Hs H (rO C Z σ) (.ok (.lst ds) e) Q) (k : StOk C Z Hs e σ H) {p : Addr} (hp : H p = none) (r : Reps C.K C.sc Hs ds xs) : Q (.ref p) (upd H p (.lst xs)) :=
  h _ _ _ Post.newO (k.newO hp) ⟨p, rfl, k.hs_none hp, ⟨k.h0_none hp, k.z_none hp⟩, ⟨xs, upd_same, r⟩, k.fresh hp⟩
end Ml

set_option linter.all false
set_option maxRecDepth 100000
set_option maxHeartbeats 1000000
/-! New tuples: they have no attributes of their own. -/
namespace Ml
open PySem PySem.Spec PyProof.Rows L2
/-- .. behind a new tuple -/
abbrev NewT (xs : List V) (H : Hp) (Q : VK) : Prop := ∀ (p : Addr) (o : Obj), H p = none → o.cls = .type "tuple" → o.dict = none → Q (.ref p) (upd H p (.frz o (.tup xs)))
theorem newT_ok {X : Cx} {pins : List (Addr × Obj)} {σ : L2.St} {H : Hp} {s : Shared} {Q : VK} {xs : List V} {us : List Value} {tk : Nat} (I : Inv X pins σ H s) (rv : Vals xs us) (hz : xs.length ≤ sizeLine) (q : NewT xs H Q) :
    EP X pins σ Q (.ref s.heap.objs.size) { s with heap := s.heap.push { cls := .type "tuple", data := .seq us.toArray }, toks := tk } := by
  refine ⟨.ref s.heap.objs.size, upd H s.heap.objs.size (.frz { cls := .type "tuple", data := .seq us.toArray } (.tup xs)), I.laid (t' := tk) (fun b o e => Heap.get?_push_of_some _ e) (Nat.le_refl _) ?_, rfl, q _ _ (I.hok.fresh (Nat.le_refl _)) rfl rfl⟩
  exact ⟨Heap.get?_push_size _ rfl, hz, us, rv, ⟨_, Heap.get?_push_size _ rfl, rfl, _, rfl⟩⟩
def tTupP (t : TA) : TE := fun σ H Q => t σ H fun xs H1 => xs.length ≤ sizeLine ∧ NewT xs H1 Q
section
variable {X : Cx} {es : List Expr} {pos : Pos} {t : TA}
theorem pe_tupP {x1} (h : PA X es t) : PE X (.Tuple es x1 pos) (tTupP t) := by
  refine ⟨fun pins s σ H Q I hq => ?_⟩
  refine wpAny_Tuple_spliced (thn (h.run pos pins s σ H _ I hq) fun us s1 ⟨xs, H1, I1, r, z, q⟩ => ⟨by rw [← r.length]; exact z, ?_⟩)
  exact newT_ok (tk := s1.toks) I1 r z q
/-- tuple(x): of a list a new one, of a tuple itself -/
def rTupP (K : PySem.W.Frag) : List V → Hp → VK → Prop := fun xs H Q => ∃ p ys, xs = [V.ref p] ∧ ((SqL K H p ys ∧ NewT ys H Q) ∨ (SqT K H p ys ∧ Q (.ref p) H))
theorem call_tupleP : CallR X (.type "tuple") (rTupP X.K) := by
  intro pins s σ H xs us Q I r h
  obtain ⟨p, ys, rfl, h⟩ := h
  rw [Vals.ref1 r]
  rcases h with ⟨hq, q⟩ | ⟨hq, q⟩
  · obtain ⟨its, r', pl, hz⟩ := I.list hq
    have hlen := r'.length
    refine call_tuple_list pl.isList (fun h' kp => ?_) (by simp only [List.size_toArray] <;> omega)
    have I1 : Inv X pins σ H { s with heap := h' } := I.kept (t' := s.toks) kp
    exact newT_ok (tk := s.toks) I1 r' hz q
  · obtain ⟨its, r', pl, hz⟩ := I.tuple hq
    exact call_tuple_same pl ⟨.ref p, H, I, rfl, q⟩
def rCatTP (K : PySem.W.Frag) : R2 := fun x y H Q => ∃ a b xs ys, x = .ref a ∧ y = .ref b ∧ SqT K H a xs ∧ SqT K H b ys ∧ xs ≠ [] ∧ xs.length + ys.length ≤ sizeLine ∧
  (ys = [] → Q (.ref a) H) ∧ (ys ≠ [] → NewT (xs ++ ys) H Q)
theorem op_catTP : OpR X (binaryOp .Add) (rCatTP X.K) := by
  intro pins s σ H x y v u Q I rx ry h
  obtain ⟨a, b, xs, ys, rfl, rfl, ha, hb, hx, hz, q1, q2⟩ := h
  cases rx
  cases ry
  obtain ⟨its, r1, p1, _⟩ := I.tuple ha
  obtain ⟨its2, r2, p2, _⟩ := I.tuple hb
  refine HT.cat_tup p1 p2 (fun z => hx (r1.nil_iff.mp z)) (fun z => ⟨.ref a, H, I, rfl, q1 (r2.nil_iff.mp z)⟩) (fun z => ?_) (by rw [← r1.length, ← r2.length]; exact hz)
  exact newT_ok (tk := s.toks) I (r1.append r2) (by rw [List.length_append]; exact hz) (q2 fun w => z (r2.nil_iff.mpr w))
def rSlTP (K : PySem.W.Frag) : V → Option Int → Option Int → Hp → VK → Prop := fun x lo hi H Q => ∃ a xs, x = .ref a ∧ SqT K H a xs ∧
  ¬ (HT.sIx xs.length 0 lo = 0 ∧ HT.sIx xs.length xs.length hi = xs.length) ∧ NewT (cutV xs lo hi) H Q
theorem sl_tupP : SlR X (rSlTP X.K) := by
  intro pins s σ H x v vl vu lo hi sl Q I rx hs pl pu h
  obtain ⟨a, xs, rfl, hx, hw, q⟩ := h
  cases rx
  obtain ⟨its, r, ht, hz⟩ := I.tuple hx
  have hlen : its.toArray.size = xs.length := by rw [List.size_toArray]; exact r.length.symm
  refine ⟨"tuple", _, PyProof.Rows.slot_tuple_getitem.lookup, ht.typeIs, ?_⟩
  refine HT.getItem_tuple_cut ht hs pl pu (by rw [hlen]; exact hw) ?_ (by rw [hlen]; exact hz)
  rw [hlen]
  exact newT_ok (tk := s.toks) I ((r.drop (HT.sIx xs.length 0 lo)).take (HT.sIx xs.length xs.length hi - HT.sIx xs.length 0 lo)) (Nat.le_trans (cutV_length xs lo hi) hz) q
def rSlAP (K : PySem.W.Frag) : V → Option Int → Option Int → Hp → VK → Prop := fun x lo hi H Q => ∃ a xs, x = .ref a ∧ SqT K H a xs ∧
  (HT.sIx xs.length 0 lo = 0 ∧ HT.sIx xs.length xs.length hi = xs.length → Q (.ref a) H) ∧ (¬ (HT.sIx xs.length 0 lo = 0 ∧ HT.sIx xs.length xs.length hi = xs.length) → NewT (cutV xs lo hi) H Q)
theorem sl_tupAP : SlR X (rSlAP X.K) := by
  intro pins s σ H x v vl vu lo hi sl Q I rx hs pl pu h
  obtain ⟨a, xs, rfl, hx, q1, q2⟩ := h
  by_cases hw : HT.sIx xs.length 0 lo = 0 ∧ HT.sIx xs.length xs.length hi = xs.length
  · exact sl_tupA pins s σ H _ v vl vu lo hi sl Q I rx hs pl pu ⟨a, xs, rfl, hx, q1, fun z => absurd hw z⟩
  · exact sl_tupP pins s σ H _ v vl vu lo hi sl Q I rx hs pl pu ⟨a, xs, rfl, hx, hw, q2 hw⟩
def tTupRgP (te : L2.St → Hp → (Int → Int → Hp → Prop) → Prop) : TE := fun σ H Q => te σ H fun a b H1 => RgOk a b ∧ NewT (rgV a b) H1 Q
theorem pe_tupRgP {e : Expr} {te : L2.St → Hp → (Int → Int → Hp → Prop) → Prop} {p pos : Pos} (hc : X.calm = true) (hg : Gl X "tuple") (hm : X.mg "tuple" = none) (he : PRg X e te) (na : starEach [e] X.env = (false, eval e X.env) :: starEach [] X.env := by rfl) : PE X (.Call (.Name "tuple" p) [e] [] pos) (tTupRgP te) := by
  refine ⟨fun pins s σ H Q I h => ?_⟩
  refine Call_ (ld_blt I hg hm boot_tuple (PyProof.Rows.callWith_type1 (args_cons (thn (he pins s σ H _ I h) fun x s1 ⟨r, a, b, t, u, v, H1, ex, hr, I1, ok, q⟩ => args_nil ?_) na) na))
  subst ex
  obtain ⟨b1, b2, b3, b4, b5⟩ := ok
  refine call_tuple_range (n := (b - a).toNat) (I1.ok.hd hc) hr (small_one b1 b2 b3 b4) (rangeSize_nat a b) b5 fun h' tk acc hk hi => ?_
  have I2 : Inv X pins σ H1 { s1 with heap := h', toks := tk } := I1.kept hk
  have := newT_ok (tk := tk) I2 (vals_rg hi) (by rw [rgV_length, sizeLine_eq]; omega) q
  rwa [Array.toArray_toList] at this
end
section
variable {C : Cc} {Z Hs H : Hp} {σ : L2.St} {e : Loc}
theorem we_newT {ds : List Dv} {xs : List V} {Q : V → Hp → Prop} (w : WE C Z σ Hs H (rD C) (.ok (.tup ds) e) Q) (k : StOk C Z Hs e σ H) (r : Reps C.K C.sc Hs ds xs) : NewT xs H Q := fun p o hp hc hd =>
  we_new w k hp (by
    simp only [rD, Rep]
    exact ⟨p, xs, rfl, PlT.of upd_same hc hd, reps_le (Le.new (k.hs_none hp)) r⟩)
end
end Ml

set_option linter.all false
set_option maxRecDepth 100000
set_option maxHeartbeats 1000000
namespace Ml
open L2
open PySem (Addr Str sizeLine)
section
variable {C : Cc}

theorem slen (s : List Nat) : (sOf s).length = s.length := by simp [Str.length]
theorem lim_line {n : Nat} (h : n ≤ lim) : n ≤ sizeLine := Nat.le_trans h (by decide)
theorem lim_lt {n : Nat} (h : n < lim) : n < sizeLine := Nat.lt_of_lt_of_le h (by decide)
theorem sapp (a b : List Nat) : sOf a ++ sOf b = sOf (a ++ b) := TL.ext_tl (by rw [TL.tl_append])

/-! ### names and constants -/
theorem se_var {i : Nat} : SE C (tVar i) (mVar i) := fun Z Hs e σ H k Q w => by
  unfold mVar at w
  split at w
  · rename_i d hd
    obtain ⟨v, e1, r⟩ := k.fz hd
    exact ⟨v, e1, we_ok w k r⟩
  · exact w.elim
theorem se_k {v : V} {d : Dv} (h : ∀ Hs, Rep C.K C.sc Hs d v) : SE C (tC v) (mC d) := fun Z Hs e σ H k Q w => we_ok w k (h Hs)
theorem se_i {i : Int} : SE C (tC (.int i)) (mC (.int i)) := se_k fun _ => by simp only [Rep]
theorem se_b {b : Bool} : SE C (tC (.bl b)) (mC (.bl b)) := se_k fun _ => by simp only [Rep]
theorem se_n : SE C (tC .non) (mC .non) := se_k fun _ => by simp only [Rep]
theorem se_s {x : Str} {s : List Nat} (h : x = sOf s) : SE C (tC (.str x)) (mC (.str s)) := se_k fun _ => by simp only [Rep]; rw [h]

/-! ### operations -/
def R1 (C : Cc) (r : V → Hp → VK → Prop) (f : Dv → Option Dv) : Prop := ∀ Z Hs e σ H, StOk C Z Hs e σ H → ∀ x a c Q, Rep C.K C.sc Hs a x → f a = some c → WE C Z σ Hs H (rD C) (.ok c e) Q → r x H Q
def RV (C : Cc) (r : L2.R2) (f : Dv → Dv → Option Dv) : Prop := ∀ Z Hs e σ H, StOk C Z Hs e σ H → ∀ x y a b c Q, Rep C.K C.sc Hs a x → Rep C.K C.sc Hs b y → f a b = some c → WE C Z σ Hs H (rD C) (.ok c e) Q → r x y H Q
/-- the first operand a list that may be changed -/
def RW (C : Cc) (r : L2.R2) (f : List Dv → Dv → Option Dv) : Prop := ∀ Z Hs e σ H, StOk C Z Hs e σ H → ∀ p xs ds y b c Q, H p = some (.lst xs) → Reps C.K C.sc Hs ds xs → Rep C.K C.sc Hs b y → f ds b = some c → WE C Z σ Hs H (rD C) (.ok c e) Q → r (.ref p) y H Q
def RW1 (C : Cc) (r : V → Hp → VK → Prop) (f : List Dv → Option Dv) : Prop := ∀ Z Hs e σ H, StOk C Z Hs e σ H → ∀ p xs ds c Q, H p = some (.lst xs) → Reps C.K C.sc Hs ds xs → f ds = some c → WE C Z σ Hs H (rD C) (.ok c e) Q → r (.ref p) H Q
def RC1 (C : Cc) (r : List V → Hp → VK → Prop) (f : Dv → Option Dv) : Prop := R1 C (fun x => r [x]) f
def RCW (C : Cc) (r : List V → Hp → VK → Prop) (f : List Dv → Option Dv) : Prop := RW1 C (fun x => r [x]) f
def RN1 (C : Cc) (r : V → Hp → VK → Prop) (f : Dv → Option (List Dv)) : Prop := ∀ Z Hs e σ H, StOk C Z Hs e σ H → ∀ x a c Q, Rep C.K C.sc Hs a x → f a = some c → WE C Z σ Hs H (rO C Z σ) (.ok (.lst c) e) Q → r x H Q
def RCN (C : Cc) (r : List V → Hp → VK → Prop) (f : Dv → Option (List Dv)) : Prop := RN1 C (fun x => r [x]) f
def RN2 (C : Cc) (r : L2.R2) (f : Dv → Dv → Option (List Dv)) : Prop := ∀ Z Hs e σ H, StOk C Z Hs e σ H → ∀ x y a b c Q, Rep C.K C.sc Hs a x → Rep C.K C.sc Hs b y → f a b = some c → WE C Z σ Hs H (rO C Z σ) (.ok (.lst c) e) Q → r x y H Q

variable {ta tb te : TE} {ma mb me : ME Dv}
theorem se_op1 {r : V → Hp → VK → Prop} {f : Dv → Option Dv} (hr : R1 C r f) (ha : SE C ta ma) : SE C (tUn r ta) (mO1 f ma) := fun Z Hs e σ H k Q w =>
  ha Z Hs e σ H k _ (we_bind (fun a e1 x Hs1 H1 _ k1 r1 w1 => by
    obtain ⟨c, hc, w2⟩ := we_of w1
    exact hr Z Hs1 e1 σ H1 k1 x a c Q r1 hc w2) w)
theorem se_op {r : L2.R2} {f : Dv → Dv → Option Dv} (hr : RV C r f) (ha : SE C ta ma) (hb : SE C tb mb) : SE C (tOp r ta tb) (mO2 f ma mb) := fun Z Hs e σ H k Q w =>
  ha Z Hs e σ H k _ (we_bind (fun a e1 x Hs1 H1 _ k1 r1 w1 => hb Z Hs1 e1 σ H1 k1 _ (we_bind (fun b e2 y Hs2 H2 p2 k2 r2 w2 => by
    obtain ⟨c, hc, w3⟩ := we_of w2
    exact hr Z Hs2 e2 σ H2 k2 x y a b c Q (rep_le p2.le r1) r2 hc w3) w1)) w)
theorem seo_op {r : L2.R2} {f : Dv → Dv → Option (List Dv)} (hr : RN2 C r f) (ha : SE C ta ma) (hb : SE C tb mb) : SEO C (tOp r ta tb) (mN2 f ma mb) := fun Z Hs e σ H k Q w =>
  ha Z Hs e σ H k _ (we_bind (fun a e1 x Hs1 H1 _ k1 r1 w1 => hb Z Hs1 e1 σ H1 k1 _ (we_bind (fun b e2 y Hs2 H2 p2 k2 r2 w2 => by
    obtain ⟨o, ho, w3⟩ := we_of w2
    obtain ⟨c, hc, rfl⟩ := Option.map_eq_some_iff.mp ho
    exact hr Z Hs2 e2 σ H2 k2 x y a b c Q (rep_le p2.le r1) r2 hc w3) w1)) w)

/-- the first operand an owned list's name -/
theorem se_opO {r : L2.R2} {f : List Dv → Dv → Option Dv} {i : Nat} (hr : RW C r f) (hb : SE C tb mb) : SE C (tOp r (tVar i) tb) (mOwn2 i f mb) := fun Z Hs e σ H k Q w => by
  unfold mOwn2 at w
  split at w
  · rename_i j o he
    obtain ⟨p, e1, _⟩ := k.own he
    refine ⟨_, e1, hb Z Hs e σ H k _ (we_bind (fun b e2 y Hs2 H2 p2 k2 r2 w2 => ?_) w)⟩
    unfold mOwn at w2
    split at w2
    · rename_i j2 ds he2
      obtain ⟨p', e1', _, ⟨xs, hx, rx⟩, _⟩ := k2.own he2
      rw [e1] at e1'; cases e1'
      obtain ⟨c, hc, w3⟩ := we_of w2
      exact hr Z Hs2 e2 σ H2 k2 p xs ds y b c Q hx rx r2 hc w3
    · exact w2.elim
  · exact w.elim
theorem we_mown {Z : Hp} {σ : L2.St} {Hs H : Hp} {e : Loc} {i : Nat} {f : List Dv → Option Dv} {Q : V → Hp → Prop} (k : StOk C Z Hs e σ H) (w : WE C Z σ Hs H (rD C) (mOwn i f e) Q) :
    ∃ p xs ds c, σ[i]? = some (some (.ref p)) ∧ H p = some (.lst xs) ∧ Reps C.K C.sc Hs ds xs ∧ f ds = some c ∧ WE C Z σ Hs H (rD C) (.ok c e) Q := by
  unfold mOwn at w
  split at w
  · rename_i j ds he
    obtain ⟨p, e1, _, ⟨xs, hx, rx⟩, _⟩ := k.own he
    obtain ⟨c, hc, w3⟩ := we_of w
    exact ⟨p, xs, ds, c, e1, hx, rx, hc, w3⟩
  · exact w.elim
/-- a call of a builtin with one value -/
theorem se_cb1 {r : List V → Hp → VK → Prop} {f : Dv → Option Dv} (hr : RC1 C r f) (ha : SE C ta ma) : SE C (tCB r (tCons ta tNil)) (mO1 f ma) := fun Z Hs e σ H k Q w =>
  ha Z Hs e σ H k _ (we_bind (fun a e1 x Hs1 H1 _ k1 r1 w1 => by
    obtain ⟨c, hc, w2⟩ := we_of w1
    exact hr Z Hs1 e1 σ H1 k1 x a c Q r1 hc w2) w)
theorem se_cb1O {r : List V → Hp → VK → Prop} {f : List Dv → Option Dv} {i : Nat} (hr : RCW C r f) : SE C (tCB r (tCons (tVar i) tNil)) (mOwn i f) := fun Z Hs e σ H k Q w => by
  obtain ⟨p, xs, ds, c, e1, hx, rx, hc, w3⟩ := we_mown k w
  exact ⟨_, e1, hr Z Hs e σ H k p xs ds c Q hx rx hc w3⟩
theorem seo_cb1 {r : List V → Hp → VK → Prop} {f : Dv → Option (List Dv)} (hr : RCN C r f) (ha : SE C ta ma) : SEO C (tCB r (tCons ta tNil)) (mN1 f ma) := fun Z Hs e σ H k Q w =>
  ha Z Hs e σ H k _ (we_bind (fun a e1 x Hs1 H1 _ k1 r1 w1 => by
    obtain ⟨o, ho, w2⟩ := we_of w1
    obtain ⟨c, hc, rfl⟩ := Option.map_eq_some_iff.mp ho
    exact hr Z Hs1 e1 σ H1 k1 x a c Q r1 hc w2) w)
theorem se_cb2 {r : List V → Hp → VK → Prop} {f : Dv → Dv → Option Dv} (hr : RV C (fun x y => r [x, y]) f) (ha : SE C ta ma) (hb : SE C tb mb) : SE C (tCB r (tCons ta (tCons tb tNil))) (mO2 f ma mb) := fun Z Hs e σ H k Q w =>
  ha Z Hs e σ H k _ (we_bind (fun a e1 x Hs1 H1 _ k1 r1 w1 => hb Z Hs1 e1 σ H1 k1 _ (we_bind (fun b e2 y Hs2 H2 p2 k2 r2 w2 => by
    obtain ⟨c, hc, w3⟩ := we_of w2
    exact hr Z Hs2 e2 σ H2 k2 x y a b c Q (rep_le p2.le r1) r2 hc w3) w1)) w)

/-! ### new things -/
theorem se_fz {t : TE} {m : ME Ob} (h : SEO C t m) : SE C t (mFz m) := fun Z Hs e σ H k Q w =>
  h Z Hs e σ H k _ (we_bind (fun o e1 v Hs1 H1 _ k1 r1 w1 => by
    obtain ⟨p, rfl, h1, ⟨h2, hz⟩, ho, hf⟩ := r1
    obtain ⟨dd, hd, w2⟩ := we_of w1
    cases o with
    | set ks => cases hd
    | dct t ks vs => cases hd
    | lst ds =>
      cases hd
      obtain ⟨xs, hx, rx⟩ := ho
      refine w2 _ (upd Hs1 p (.lst xs)) H1 ⟨Le.new h1, fun _ z => z⟩ (k1.freeze hx h2 h1 hz hf) ?_
      show Rep C.K C.sc _ (.lst ds) _
      simp only [Rep]
      exact ⟨p, xs, rfl, upd_same, reps_le (Le.new h1) rx⟩) w)
theorem sa_nil : SA C tNil (mArgs []) := fun Z Hs e σ H k Q w => we_ok w k reps_nil
theorem sa_cons {tr : TA} {ms : List (ME Dv)} (ha : SE C ta ma) (hr : SA C tr (mArgs ms)) : SA C (tCons ta tr) (mArgs (ma :: ms)) := fun Z Hs e σ H k Q w =>
  ha Z Hs e σ H k _ (we_bind (fun a e1 x Hs1 H1 _ k1 r1 w1 => hr Z Hs1 e1 σ H1 k1 _ (we_bind (fun b e2 y Hs2 H2 p2 k2 r2 w2 => we_ok w2 k2 (reps_cons (rep_le p2.le r1) r2)) w1)) w)

theorem se_tup {t : TA} {ms : List (ME Dv)} (h : SA C t (mArgs ms)) : SE C (tTupP t) (mTup ms) := fun Z Hs e σ H k Q w =>
  h Z Hs e σ H k _ (we_bind (fun ds e1 xs Hs1 H1 _ k1 r1 w1 => by
    split at w1
    · rename_i hl
      exact ⟨by rw [reps_len r1]; exact Nat.le_trans hl (by decide), we_newT w1 k1 r1⟩
    · exact w1.elim) w)
theorem seo_lst {t : TA} {ms : List (ME Dv)} (h : SA C t (mArgs ms)) : SEO C (tLst t) (mLst ms) := fun Z Hs e σ H k Q w =>
  h Z Hs e σ H k _ (we_bind (fun ds e1 xs Hs1 H1 _ k1 r1 w1 => by
    split at w1
    · rename_i hl
      exact ⟨by rw [reps_len r1]; exact Nat.le_trans hl (by decide), fun p hp => we_newO w1 k1 hp r1⟩
    · exact w1.elim) w)

/-! ### tests -/
theorem st_test (h : SE C te me) : ST C (tTest te) (mTest me) := fun Z Hs e σ H k Q w =>
  h Z Hs e σ H k _ (we_bind (fun a e1 x Hs1 H1 _ k1 r1 w1 => by
    cases a with
    | bl b =>
      have r : x = .bl b := by simpa only [rD, Rep] using r1
      subst r
      exact ⟨b, rfl, we_ok w1 k1 rfl⟩
    | _ => exact w1.elim) w)
theorem st_B (h : SE C te me) : ST C (tB te) (mTest me) := st_test h
variable {tt tu : TT} {mt mu : ME Bool}
theorem st_and (h : ST C tt mt) (h' : ST C tu mu) : ST C (tAnd tt tu) (mAnd mt mu) := fun Z Hs e σ H k Q w =>
  h Z Hs e σ H k _ (we_bind (fun a e1 x Hs1 H1 _ k1 r1 w1 => by
    have r1 : a = x := r1
    subst r1
    cases a with
    | true => exact h' Z Hs1 e1 σ H1 k1 Q w1
    | false => exact we_ok w1 k1 rfl) w)
theorem st_or (h : ST C tt mt) (h' : ST C tu mu) : ST C (tOr tt tu) (mOr mt mu) := fun Z Hs e σ H k Q w =>
  h Z Hs e σ H k _ (we_bind (fun a e1 x Hs1 H1 _ k1 r1 w1 => by
    have r1 : a = x := r1
    subst r1
    cases a with
    | true => exact we_ok w1 k1 rfl
    | false => exact h' Z Hs1 e1 σ H1 k1 Q w1) w)
theorem st_not (h : ST C tt mt) : ST C (tNot tt) (mNot mt) := fun Z Hs e σ H k Q w =>
  h Z Hs e σ H k _ (we_bind (fun a e1 x Hs1 H1 _ k1 r1 w1 => by
    have r1 : a = x := r1
    subst r1
    exact we_ok w1 k1 rfl) w)
theorem st_yes : ST C tYes mYes := fun Z Hs e σ H k Q w => we_ok w k rfl
theorem se_andV (ha : SE C ta ma) (hb : SE C tb mb) : SE C (tAndV ta tb) (mAndV ma mb) := fun Z Hs e σ H k Q w =>
  ha Z Hs e σ H k _ (we_bind (r2 := rB) (fun a e1 x Hs1 H1 _ k1 r1 w1 => by
    cases a with
    | bl b =>
      have r : x = .bl b := by simpa only [rD, Rep] using r1
      subst r
      have w2 := w1 b Hs1 H1 Post.refl k1 rfl
      exact ⟨b, rfl, w2⟩
    | _ => exact w1.elim) (Q := fun b H1 => if b = true then tb σ H1 Q else Q (.bl false) H1) (we_bind (r1 := rB) (r2 := rD C) (fun x e1 y Hs1 H1 _ k1 r1 w1 => by
    have r1 : x = y := r1
    subst r1
    cases x with
    | true => exact hb Z Hs1 e1 σ H1 k1 Q w1
    | false => exact we_ok w1 k1 (show Rep C.K C.sc _ (.bl false) _ by simp only [Rep])) w))
theorem se_orV (ha : SE C ta ma) (hb : SE C tb mb) : SE C (tOrV ta tb) (mOrV ma mb) := fun Z Hs e σ H k Q w =>
  ha Z Hs e σ H k _ (we_bind (r2 := rB) (fun a e1 x Hs1 H1 _ k1 r1 w1 => by
    cases a with
    | bl b =>
      have r : x = .bl b := by simpa only [rD, Rep] using r1
      subst r
      have w2 := w1 b Hs1 H1 Post.refl k1 rfl
      exact ⟨b, rfl, w2⟩
    | _ => exact w1.elim) (Q := fun b H1 => if b = true then Q (.bl true) H1 else tb σ H1 Q) (we_bind (r1 := rB) (r2 := rD C) (fun x e1 y Hs1 H1 _ k1 r1 w1 => by
    have r1 : x = y := r1
    subst r1
    cases x with
    | true => exact we_ok w1 k1 (show Rep C.K C.sc _ (.bl true) _ by simp only [Rep])
    | false => exact hb Z Hs1 e1 σ H1 k1 Q w1) w))
theorem se_notV (ha : SE C ta ma) : SE C (tNotV ta) (mNotV ma) := fun Z Hs e σ H k Q w =>
  ha Z Hs e σ H k _ (we_bind (r2 := rB) (fun a e1 x Hs1 H1 _ k1 r1 w1 => by
    cases a with
    | bl b =>
      have r : x = .bl b := by simpa only [rD, Rep] using r1
      subst r
      have w2 := w1 b Hs1 H1 Post.refl k1 rfl
      exact ⟨b, rfl, w2⟩
    | _ => exact w1.elim) (Q := fun b H1 => Q (.bl (!b)) H1) (we_bind (r1 := rB) (r2 := rD C) (fun x e1 y Hs1 H1 _ k1 r1 w1 => by
    have r1 : x = y := r1
    subst r1
    exact we_ok w1 k1 (show Rep C.K C.sc _ (.bl (!x)) _ by simp only [Rep])) w))
theorem se_ite (h : ST C tt mt) (ha : SE C ta ma) (hb : SE C tb mb) : SE C (tIf tt ta tb) (mIte mt ma mb) := fun Z Hs e σ H k Q w =>
  h Z Hs e σ H k _ (we_bind (fun a e1 x Hs1 H1 _ k1 r1 w1 => by
    have r1 : a = x := r1
    subst r1
    cases a with
    | true => exact ha Z Hs1 e1 σ H1 k1 Q w1
    | false => exact hb Z Hs1 e1 σ H1 k1 Q w1) w)
theorem truv {K : PySem.W.Frag} {sc : Sc} {Hs H : Hp} {d : Dv} {x : V} {b : Bool} (l : Le Hs H) (r : Rep K sc Hs d x) (h : truthD d = some b) : TruV K x H b := by
  cases d with
  | bl c => simp only [Rep] at r; subst r; cases h; rfl
  | non => simp only [Rep] at r; subst r; cases h; rfl
  | int i => simp only [Rep] at r; subst r; cases h; rfl
  | str s =>
    simp only [Rep] at r; subst r
    simp only [truthD] at h
    split at h
    · rename_i hl
      cases h
      refine ⟨by rw [slen]; exact lim_line hl, ?_⟩
      rw [slen]
      cases s <;> simp <;> omega
    · cases h
  | tup ds =>
    simp only [Rep] at r
    obtain ⟨a, xs, rfl, hq, rs⟩ := r
    cases h
    refine .inr (.inl ⟨xs, sqt_le l hq.sq, ?_⟩)
    have := reps_len rs
    cases ds <;> cases xs <;> simp_all
  | lst ds =>
    simp only [Rep] at r
    obtain ⟨a, xs, rfl, hq, rs⟩ := r
    cases h
    refine .inl ⟨xs, SqL.of (l _ _ hq), ?_⟩
    have := reps_len rs
    cases ds <;> cases xs <;> simp_all
  | scr ns => cases h
  | dct ks vs => cases h
  | exc c f d => cases h
theorem st_truth {K : PySem.W.Frag} (hK : C.K = K) (h : SE C te me) : ST C (fun σ H Q => te σ H fun x H' => ∃ k, TruV K x H' k ∧ Q k H') (mTruth me) := fun Z Hs e σ H k Q w =>
  h Z Hs e σ H k _ (we_bind (fun a e1 x Hs1 H1 _ k1 r1 w1 => by
    subst hK
    obtain ⟨b, hb, w2⟩ := we_of w1
    exact ⟨b, truv k1.le r1 hb, we_ok w2 k1 rfl⟩) w)
theorem st_truthO {K : PySem.W.Frag} {i : Nat} : ST C (fun σ H Q => tVar i σ H fun x H' => ∃ k, TruV K x H' k ∧ Q k H') (mOwnTruth i) := fun Z Hs e σ H k Q w => by
  unfold mOwnTruth at w
  split at w
  · rename_i j ds he
    obtain ⟨p, e1, _, ⟨xs, hx, rx⟩, _⟩ := k.own he
    refine ⟨_, e1, !ds.isEmpty, .inl ⟨xs, SqL.of hx, ?_⟩, we_ok w k rfl⟩
    have := reps_len rx
    cases ds <;> cases xs <;> simp_all
  · exact w.elim
end
end Ml

set_option linter.all false
set_option maxRecDepth 100000
set_option maxHeartbeats 1000000
namespace Ml
open L2
open PySem (Addr Str sizeLine)

/-- the slots that a statement does not store to -/
def Kp (A : List Nat) (σ σ' : L2.St) : Prop := σ'.length = σ.length ∧ ∀ j, j ∉ A → σ'[j]? = σ[j]?
theorem Kp.refl {A : List Nat} {σ : L2.St} : Kp A σ σ := ⟨rfl, fun _ _ => rfl⟩
theorem Kp.trans {A B : List Nat} {σ σ1 σ2 : L2.St} (a : Kp A σ σ1) (b : Kp B σ1 σ2) : Kp (A ++ B) σ σ2 := ⟨b.1.trans a.1, fun j h =>
  (b.2 j fun z => h (List.mem_append_right _ z)).trans (a.2 j fun z => h (List.mem_append_left _ z))⟩
theorem Kp.sub {A B : List Nat} {σ σ' : L2.St} (h : Kp A σ σ') (s : ∀ j, j ∈ A → j ∈ B) : Kp B σ σ' := ⟨h.1, fun j z => h.2 j fun q => z (s j q)⟩

def RetOk (C : Cc) (Hs H : Hp) : Slt → V → Prop
  | .fz d, v => Rep C.K C.sc Hs d v
  | .ow none o, v => ∃ p, v = .ref p ∧ Hs p = none ∧ C.H0 p = none ∧ OwnAt C.K C.sc Hs H p o
  | _, _ => False
def WS (C : Cc) (Z : Hp) (A : List Nat) (σ : L2.St) (Hs H : Hp) (r : Sr) (Dn : Ends) : Prop := match r with
  | .nx e' => ∀ Hs' σ' H', Post Hs H Hs' H' → StOk C Z Hs' e' σ' H' → Kp A σ σ' → Dn.nx σ' H'
  | .ct e' => ∀ Hs' σ' H', Post Hs H Hs' H' → StOk C Z Hs' e' σ' H' → Kp A σ σ' → Dn.ct σ' H'
  | .bk e' => ∀ Hs' σ' H', Post Hs H Hs' H' → StOk C Z Hs' e' σ' H' → Kp A σ σ' → Dn.bk σ' H'
  | .rt s e' => ∀ v Hs' σ' H', Post Hs H Hs' H' → StOk C Z Hs' e' σ' H' → RetOk C Hs' H' s v → Dn.rt v H'
  | .er x e' => ∀ Hs' σ' H' c od, Post Hs H Hs' H' → StOk C Z Hs' e' σ' H' → C.RE x c od Hs' H' → C.E c od σ' H'
  | .ud => False
def SS (C : Cc) (A : List Nat) (t : TS) (m : MS) : Prop := ∀ Z Hs e σ H, StOk C Z Hs e σ H → ∀ Dn, WS C Z A σ Hs H (m e) Dn → t Dn σ H

theorem ws_step {C : Cc} {Z : Hp} {A B : List Nat} {σ σ1 : L2.St} {Hs H Hs1 H1 : Hp} {r : Sr} {Dn : Ends} (p : Post Hs H Hs1 H1) (kp : ∀ σ2, Kp B σ1 σ2 → Kp A σ σ2) (h : WS C Z A σ Hs H r Dn) : WS C Z B σ1 Hs1 H1 r Dn := by
  cases r with
  | nx e => exact fun Hs' σ' H' p' k q => h Hs' σ' H' (p.trans p') k (kp _ q)
  | ct e => exact fun Hs' σ' H' p' k q => h Hs' σ' H' (p.trans p') k (kp _ q)
  | bk e => exact fun Hs' σ' H' p' k q => h Hs' σ' H' (p.trans p') k (kp _ q)
  | rt s e => exact fun v Hs' σ' H' p' k q => h v Hs' σ' H' (p.trans p') k q
  | er x e => exact fun Hs' σ' H' c od p' k q => h Hs' σ' H' c od (p.trans p') k q
  | ud => exact h
theorem we_go {α β : Type} {C : Cc} {Z : Hp} {A : List Nat} {σ : L2.St} {Hs H : Hp} {rel : α → Loc → β → Hp → Hp → Prop} {r : Rs α} {f : α → Loc → Sr} {Dn : Ends} {P : β → Hp → Prop}
    (k : ∀ a e1 b Hs1 H1, Post Hs H Hs1 H1 → StOk C Z Hs1 e1 σ H1 → rel a e1 b Hs1 H1 → WS C Z A σ Hs1 H1 (f a e1) Dn → P b H1) (h : WS C Z A σ Hs H (r.go f) Dn) : WE C Z σ Hs H rel r P := by
  cases r with
  | ok a e' => exact fun b Hs' H' p' s q => k a e' b Hs' H' p' s q (ws_step p' (fun _ z => z) h)
  | er x e' => exact fun Hs' H' c od p' s q => h Hs' σ H' c od p' s q
  | ud => exact h

section
variable {C : Cc} {A B : List Nat} {t u : TS} {m n : MS} {te ti : TE} {me mi : ME Dv}
theorem ss_mono (h : SS C A t m) (s : ∀ j, j ∈ A → j ∈ B) : SS C B t m := fun Z Hs e σ H k Dn w => h Z Hs e σ H k Dn (ws_step Post.refl (fun _ z => z.sub s) w)
theorem ss_nil : SS C [] tNext sNil := fun Z Hs e σ H k Dn w => w Hs σ H Post.refl k Kp.refl
theorem ss_brk : SS C [] tBreak sBrk := fun Z Hs e σ H k Dn w => w Hs σ H Post.refl k Kp.refl
theorem ss_cnt : SS C [] tCont sCnt := fun Z Hs e σ H k Dn w => w Hs σ H Post.refl k Kp.refl
theorem ss_seq (h : SS C A t m) (h' : SS C B u n) : SS C (A ++ B) (tSeq t u) (sSeq m n) := fun Z Hs e σ H k Dn w => by
  refine h Z Hs e σ H k { Dn with nx := u Dn } ?_
  have w : WS C Z (A ++ B) σ Hs H ((m e).then n) Dn := w
  cases q : m e with
  | nx e1 =>
    rw [q] at w
    exact fun Hs' σ' H' p' k' kp => h' Z Hs' e1 σ' H' k' Dn (ws_step p' (fun _ z => kp.trans z) w)
  | ct e1 => rw [q] at w; exact ws_step Post.refl (fun _ z => z.sub fun j => List.mem_append_left _) w
  | bk e1 => rw [q] at w; exact ws_step Post.refl (fun _ z => z.sub fun j => List.mem_append_left _) w
  | rt s e1 => rw [q] at w; exact w
  | er x e1 => rw [q] at w; exact w
  | ud => rw [q] at w; exact w
theorem ss_if {tt : TT} {mt : ME Bool} (hc : ST C tt mt) (h : SS C A t m) (h' : SS C B u n) : SS C (A ++ B) (tIfS tt t u) (sIf mt m n) := fun Z Hs e σ H k Dn w =>
  hc Z Hs e σ H k _ (we_go (fun a e1 x Hs1 H1 p1 k1 r1 w1 => by
    have r1 : a = x := r1
    subst r1
    cases a with
    | true => exact h Z Hs1 e1 σ H1 k1 Dn (ws_step Post.refl (fun _ z => z.sub fun j => List.mem_append_left _) w1)
    | false => exact h' Z Hs1 e1 σ H1 k1 Dn (ws_step Post.refl (fun _ z => z.sub fun j => List.mem_append_right _) w1)) w)

/-! ### targets -/
def SG (C : Cc) (A : List Nat) (g : TG) (mg : MG) : Prop := ∀ Z Hs e σ H, StOk C Z Hs e σ H → ∀ d v e', Rep C.K C.sc Hs d v → mg d e = some e' → ∀ Q, (∀ σ', StOk C Z Hs e' σ' H → Kp A σ σ' → Q σ' H) → g v σ H Q
def SGs (C : Cc) (A : List Nat) (g : TGs) (mg : List MG) : Prop := ∀ Z Hs e σ H, StOk C Z Hs e σ H → ∀ ds vs e', Reps C.K C.sc Hs ds vs → gTs mg ds e = some e' → ∀ Q, (∀ σ', StOk C Z Hs e' σ' H → Kp A σ σ' → Q σ' H) → g vs σ H Q
theorem kp_set {σ : L2.St} {i : Nat} {x : Option V} : Kp [i] σ (σ.set i x) := ⟨List.length_set .., fun j h => by
  rw [List.getElem?_set_ne (fun z => h (by rw [z]; exact List.mem_singleton.mpr rfl))]⟩
theorem sg_name {i : Nat} : SG C [i] (gName i) (gN i) := fun Z Hs e σ H k d v e' r h Q q => by
  unfold gN at h
  split at h
  · cases h
    exact q _ (k.setF r) kp_set
  · cases h
theorem sgs_nil : SGs C [] gNil [] := fun Z Hs e σ H k ds vs e' r h Q q => by
  cases ds with
  | nil => simp only [Reps] at r; subst r; cases h; exact ⟨rfl, q σ k Kp.refl⟩
  | cons d ds => cases h
theorem sgs_cons {g : TG} {mg : MG} {gs : TGs} {mgs : List MG} (h : SG C A g mg) (hs : SGs C B gs mgs) : SGs C (A ++ B) (gCons g gs) (mg :: mgs) := fun Z Hs e σ H k ds vs e' r hm Q q => by
  cases ds with
  | nil => cases hm
  | cons d ds =>
    simp only [Reps] at r
    obtain ⟨v, vr, rfl, r1, r2⟩ := r
    obtain ⟨e1, h1, h2⟩ := Option.bind_eq_some_iff.mp hm
    exact ⟨v, vr, rfl, h Z Hs e σ H k d v e1 r1 h1 _ fun σ1 k1 kp1 => hs Z Hs e1 σ1 H k1 ds vr e' r2 h2 Q fun σ2 k2 kp2 => q σ2 k2 (kp1.trans kp2)⟩
theorem gts_len : ∀ {mgs : List MG} {ds : List Dv} {e e' : Loc}, gTs mgs ds e = some e' → ds.length = mgs.length
  | [], [], _, _, _ => rfl
  | [], _ :: _, _, _, h => by cases h
  | _ :: _, [], _, _, h => by cases h
  | g :: gs, d :: ds, e, e', h => by
    obtain ⟨e1, h1, h2⟩ := Option.bind_eq_some_iff.mp h
    simp [gts_len h2]
theorem sg_tup {gs : TGs} {mgs : List MG} {N : Nat} (h : SGs C A gs mgs) (hn : N = mgs.length := by rfl) : SG C A (gTup C.K N gs) (gT mgs) := fun Z Hs e σ H k d v e' r hm Q q => by
  cases d with
  | tup ds =>
    simp only [Rep] at r
    obtain ⟨a, xs, rfl, hq, rs⟩ := r
    exact ⟨a, xs, rfl, sqt_le k.le hq.sq, by rw [reps_len rs, gts_len hm, hn], h Z Hs e σ H k ds xs e' rs hm Q q⟩
  | _ => cases hm
theorem ss_set {g : TG} {mg : MG} (h : SE C te me) (hg : SG C A g mg) : SS C A (tAsg te g) (sSet me mg) := fun Z Hs e σ H k Dn w =>
  h Z Hs e σ H k _ (we_go (fun d e1 v Hs1 H1 p1 k1 r1 w1 => by
    cases q : mg d e1 with
    | none => rw [q] at w1; exact w1.elim
    | some e2 => rw [q] at w1; exact hg Z Hs1 e1 σ H1 k1 d v e2 r1 q _ fun σ' k' kp => w1 Hs1 σ' H1 Post.refl k' kp) w)
theorem ss_setO {i : Nat} {mo : ME Ob} (h : SEO C te mo) : SS C [i] (tAsg te (gName i)) (sSetO i mo) := fun Z Hs e σ H k Dn w =>
  h Z Hs e σ H k _ (we_go (fun o e1 v Hs1 H1 p1 k1 r1 w1 => by
    obtain ⟨p, rfl, h1, ⟨h2, hz⟩, ho, hf⟩ := r1
    split at w1
    · exact w1 Hs1 _ H1 Post.refl (k1.setO h2 hz h1 ho hf) kp_set
    · exact w1.elim) w)
theorem ss_aug {i : Nat} {ip : TIp} {f : Dv → Dv → Option Dv} (hr : RV C ip f) (h : SE C te me) : SS C [i] (tAug i te ip) (sAug i f me) := fun Z Hs e σ H k Dn w => by
  unfold sAug at w
  split at w
  · rename_i d hd
    obtain ⟨x, e1, r⟩ := k.fz hd
    refine ⟨x, e1, h Z Hs e σ H k _ (we_go (fun b e1 y Hs1 H1 p1 k1 r1 w1 => ?_) w)⟩
    split at w1
    · rename_i c hc
      exact hr Z Hs1 e1 σ H1 k1 x y d b c _ (rep_le p1.le r) r1 hc fun z Hs' H' p' k' r' => w1 Hs' _ H' p' (k'.setF r') kp_set
    · exact w1.elim
  · exact w.elim
theorem ss_drop (h : SE C te me) : SS C [] (tDrop te) (sDrop me) := fun Z Hs e σ H k Dn w =>
  h Z Hs e σ H k _ (we_go (A := []) (f := fun _ e => .nx e) (Dn := Dn) (fun d e1 v Hs1 H1 p1 k1 r1 w1 => w1 Hs1 σ H1 Post.refl k1 Kp.refl) w)
theorem ls_of {x : Option Slt} (h : isLs x = true) : ∃ j ds, x = some (.ow j (.lst ds)) := by
  cases x with
  | none => cases h
  | some s => cases s with
    | ow j o => cases o with
      | lst ds => exact ⟨j, ds, rfl⟩
      | set ks => cases h
      | dct t ks vs => cases h
    | un => cases h
    | fz d => cases h
theorem ow_of {x : Option Slt} (h : isOw x = true) : ∃ j o, x = some (.ow j o) := by
  cases x with
  | none => cases h
  | some s => cases s with
    | ow j o => exact ⟨j, o, rfl⟩
    | un => cases h
    | fz d => cases h
theorem ss_app {i : Nat} {K : PySem.W.Frag} (h : SE C te me) : SS C [] (tDrop (tBM K "list" rAppend (tVar i) (tCons te tNil))) (sApp i me) := fun Z Hs e σ H k Dn w => by
  unfold sApp at w
  split at w
  · rename_i ho
    obtain ⟨j, ds0, he⟩ := ls_of ho
    obtain ⟨p, e1, hn, own, _⟩ := k.own he
    obtain ⟨xs0, hx0, _⟩ := own
    refine ⟨_, e1, .inl ⟨rfl, xs0, SqL.of hx0⟩, h Z Hs e σ H k _ (we_go (fun d e2 v Hs2 H2 p2 k2 r2 w2 => ?_) w)⟩
    split at w2
    · rename_i j2 ds he2
      obtain ⟨p', e1', _, ⟨xs, hx, rx⟩, _⟩ := k2.own he2
      rw [e1] at e1'; cases e1'
      split at w2
      · rename_i hl
        refine ⟨p, xs, v, rfl, rfl, hx, by rw [reps_len rx]; exact lim_lt hl, w2 Hs2 σ _ Post.newO (k2.mut he2 e1 ⟨_, upd_same, reps_app rx (reps_cons r2 reps_nil)⟩) Kp.refl⟩
      · exact w2.elim
    · exact w2.elim
  · exact w.elim
theorem ixn_eq (n : Nat) (i : Int) : ixn n i = ixN n i := rfl
theorem ss_put {i : Nat} (h : SE C te me) (hi : SE C ti mi) : SS C [] (tAsg te (gSub (tVar i) ti rSetL)) (sPut i mi me) := fun Z Hs e σ H k Dn w =>
  h Z Hs e σ H k _ (we_go (fun d e1 v Hs1 H1 p1 k1 r1 w1 => by
    split at w1
    · rename_i ho
      obtain ⟨j, o, he⟩ := ow_of ho
      obtain ⟨p, s1, hn, own, _⟩ := k1.own he
      refine ⟨_, s1, hi Z Hs1 e1 σ H1 k1 _ (we_go (fun b e2 y Hs2 H2 p2 k2 r2 w2 => ?_) w1)⟩
      split at w2
      · rename_i j2 ds kk he2
        obtain ⟨p', s1', _, ⟨xs, hx, rx⟩, _⟩ := k2.own he2
        rw [s1] at s1'; cases s1'
        have r2 : y = .int kk := by simpa only [rD, Rep] using r2
        subst r2
        split at w2
        · rename_i n hn2
          refine ⟨p, xs, kk, n, rfl, rfl, hx, by rw [reps_len rx]; exact hn2, ?_⟩
          exact w2 Hs2 σ _ Post.newO (k2.mut he2 s1 ⟨_, upd_same, reps_set rx (rep_le p2.le r1)⟩) Kp.refl
        · exact w2.elim
      · exact w2.elim
    · exact w1.elim) w)
theorem getI_at {ds : List Dv} {k : Int} {a : Dv} {Hs : Hp} {xs : List V} (h : getI ds k = some a) (r : Reps C.K C.sc Hs ds xs) : ∃ v, atI xs k = some v ∧ Rep C.K C.sc Hs a v := by
  unfold getI at h
  obtain ⟨n, h1, h2⟩ := Option.bind_eq_some_iff.mp h
  obtain ⟨v, e1, e2⟩ := reps_get r h2
  refine ⟨v, ?_, e2⟩
  unfold atI
  rw [reps_len r, ← ixn_eq, h1]
  exact e1
theorem ss_putAug {i : Nat} {ip : TIp} {f : Dv → Dv → Option Dv} {K : PySem.W.Frag} (hi : SE C ti mi) (hr : RV C ip f) (h : SE C te me) : SS C [] (tAugS (tVar i) ti te (rIxL K) ip rSetL) (sPutAug i mi f me) := fun Z Hs e σ H k Dn w => by
  unfold sPutAug at w
  split at w
  · rename_i ho
    obtain ⟨j, o, he⟩ := ow_of ho
    obtain ⟨p, s1, hn, own, _⟩ := k.own he
    refine ⟨_, s1, hi Z Hs e σ H k _ (we_go (fun b e2 y Hs2 H2 p2 k2 r2 w2 => ?_) w)⟩
    split at w2
    · rename_i j2 ds kk he2
      obtain ⟨p', s1', _, ⟨xs, hx, rx⟩, _⟩ := k2.own he2
      rw [s1] at s1'; cases s1'
      have r2 : y = .int kk := by simpa only [rD, Rep] using r2
      subst r2
      split at w2
      · rename_i a ha
        obtain ⟨va, ha1, ha2⟩ := getI_at ha rx
        refine ⟨p, xs, kk, va, rfl, rfl, SqL.of hx, ha1, h Z Hs2 e2 σ H2 k2 _ (we_go (fun b e3 z Hs3 H3 p3 k3 r3 w3 => ?_) w2)⟩
        split at w3
        · rename_i c j3 ds3 hc he3
          split at w3
          · rename_i n hn3
            refine hr Z Hs3 e3 σ H3 k3 va z a b c _ (rep_le p3.le ha2) r3 hc fun x5 Hs5 H5 p5 k5 r5 => ?_
            obtain ⟨p5', s5, _, ⟨xs5, hx5, rx5⟩, _⟩ := k5.own he3
            rw [s1] at s5; cases s5
            refine ⟨p, xs5, kk, n, rfl, rfl, hx5, by rw [reps_len rx5]; exact hn3, ?_⟩
            exact w3 Hs5 σ _ (p5.trans Post.newO) (k5.mut he3 s1 ⟨_, upd_same, reps_set rx5 r5⟩) Kp.refl
          · exact w3.elim
        · exact w3.elim
      · exact w2.elim
    · exact w2.elim
  · exact w.elim
theorem ss_ret (h : SE C te me) : SS C [] (tRet te) (sRet me) := fun Z Hs e σ H k Dn w =>
  h Z Hs e σ H k _ (we_go (A := []) (f := fun d e => .rt (.fz d) e) (Dn := Dn) (fun d e1 v Hs1 H1 p1 k1 r1 w1 => w1 v Hs1 σ H1 Post.refl k1 r1) w)
theorem ss_retO {mo : ME Ob} (h : SEO C te mo) : SS C [] (tRet te) (sRetO mo) := fun Z Hs e σ H k Dn w =>
  h Z Hs e σ H k _ (we_go (fun o e1 v Hs1 H1 p1 k1 r1 w1 => by
    obtain ⟨p, rfl, h1, ⟨h2, hz⟩, ho, hf⟩ := r1
    exact w1 _ Hs1 σ H1 Post.refl k1 ⟨p, rfl, h1, h2, ho⟩) w)
theorem ss_retN : SS C [] tRetN (sRet (mC .non)) := fun Z Hs e σ H k Dn w => w _ Hs σ H Post.refl k (by show Rep C.K C.sc Hs .non _; simp only [Rep])
theorem ss_retV {i : Nat} : SS C [] (tRet (tVar i)) (sRetV i) := fun Z Hs e σ H k Dn w => by
  unfold sRetV at w
  split at w
  · rename_i o he
    obtain ⟨p, s1, hn, own, h0⟩ := k.own he
    exact ⟨_, s1, w _ Hs σ H Post.refl k ⟨p, rfl, hn, h0, own⟩⟩
  · exact w.elim

/-! ### for -/
def IterOk (C : Cc) (J : It) (Hs0 : Hp) (ds : List Dv) : Prop := ∀ (k : Nat) Z Hs1 e1 σ1 H1, StOk C Z Hs1 e1 σ1 H1 → Le Hs0 Hs1 →
  (∀ d, ds[k]? = some d → J.go k H1 ∧ ∀ x H2, J.yld k H1 x H2 → ∃ Hs2, Post Hs1 H1 Hs2 H2 ∧ StOk C Z Hs2 e1 σ1 H2 ∧ Rep C.K C.sc Hs2 d x) ∧ (ds.length ≤ k → J.stop k H1)
def rI (C : Cc) : List Dv → Loc → It → Hp → Hp → Prop := fun ds _ J Hs' _ => IterOk C J Hs' ds
def SI (C : Cc) (wi : TI) (mi : ME (List Dv)) : Prop := ∀ Z Hs e σ H, StOk C Z Hs e σ H → ∀ R, WE C Z σ Hs H (rI C) (mi e) R → wi σ H R
theorem drop_cons {α : Type} {ds : List α} {i : Nat} (h : i < ds.length) : ∃ d, ds[i]? = some d ∧ ds.drop i = d :: ds.drop (i + 1) :=
  ⟨ds[i], List.getElem?_eq_getElem h, List.drop_eq_getElem_cons h⟩
theorem ss_for {wi : TI} {mi : ME (List Dv)} {g : TG} {mg : MG} (hi : SI C wi mi) (hg : SG C A g mg) (hb : SS C B t m) : SS C (A ++ B) (tFor wi g t) (sFor mi mg m) := fun Z Hs e σ H k Dn w =>
  hi Z Hs e σ H k _ (we_go (fun ds e1 J Hs1 H1 p1 k1 it w1 => by
    refine ⟨fun i mm σ' H' => mm = ds.length - i ∧ i ≤ ds.length ∧ ∃ Hs' e', Post Hs1 H1 Hs' H' ∧ StOk C Z Hs' e' σ' H' ∧ WS C Z (A ++ B) σ' Hs' H' (loop mg m (ds.drop i) e') Dn,
      ⟨ds.length, rfl, Nat.zero_le _, Hs1, e1, Post.refl, k1, w1⟩, ?_⟩
    rintro i mm σ' H' ⟨rfl, hle, Hs', e', p', k', w'⟩
    obtain ⟨itg, its⟩ := it i Z Hs' e' σ' H' k' p'.le
    by_cases hlt : i < ds.length
    · obtain ⟨d, hd, hdr⟩ := drop_cons hlt
      obtain ⟨go, yl⟩ := itg d hd
      rw [hdr] at w'
      refine .inr ⟨go, fun σ3 H3 => ∃ Hs3 e3, Post Hs1 H1 Hs3 H3 ∧ StOk C Z Hs3 e3 σ3 H3 ∧ WS C Z (A ++ B) σ3 Hs3 H3 (loop mg m (ds.drop (i + 1)) e3) Dn, fun σ3 H3 h3 => ⟨ds.length - (i + 1), by omega, rfl, hlt, h3⟩, fun x H2 hy => ?_⟩
      obtain ⟨Hs2, p2, k2, r2⟩ := yl x H2 hy
      have w2 : WS C Z (A ++ B) σ' Hs' H' (match mg d e' with
        | none => .ud
        | some e => match m e with
          | .nx e => loop mg m (ds.drop (i + 1)) e
          | .ct e => loop mg m (ds.drop (i + 1)) e
          | .bk e => .nx e
          | r => r) Dn := w'
      cases q : mg d e' with
      | none => rw [q] at w2; exact w2.elim
      | some e2 =>
        rw [q] at w2
        refine hg Z Hs2 e' σ' H2 k2 d x e2 r2 q _ fun σ2 k3 kp3 => ?_
        refine hb Z Hs2 e2 σ2 H2 k3 _ ?_
        have cvt : ∀ {σ4 : L2.St} {r : Sr} {Hs4 H4 : Hp} {D2 : Ends}, Post Hs2 H2 Hs4 H4 → Kp B σ2 σ4 → WS C Z (A ++ B) σ' Hs' H' r D2 → WS C Z (A ++ B) σ4 Hs4 H4 r D2 := fun {σ4 r Hs4 H4 D2} p4 kp4 h4 =>
          ws_step (p2.trans p4) (fun _ z => ⟨z.1.trans (kp4.1.trans kp3.1), fun j hj => ((z.2 j hj).trans (kp4.2 j fun q => hj (List.mem_append_right _ q))).trans (kp3.2 j fun q => hj (List.mem_append_left _ q))⟩) h4
        cases q2 : m e2 with
        | nx e3 => simp only [q2] at w2; exact fun Hs4 σ4 H4 p4 k4 kp4 => ⟨Hs4, e3, (p'.trans p2).trans p4, k4, cvt p4 kp4 w2⟩
        | ct e3 => simp only [q2] at w2; exact fun Hs4 σ4 H4 p4 k4 kp4 => ⟨Hs4, e3, (p'.trans p2).trans p4, k4, cvt p4 kp4 w2⟩
        | bk e3 => simp only [q2] at w2; exact fun Hs4 σ4 H4 p4 k4 kp4 => w2 Hs4 σ4 H4 (p2.trans p4) k4 (kp3.trans kp4)
        | rt s e3 => simp only [q2] at w2; exact fun v Hs4 σ4 H4 p4 k4 r4 => w2 v Hs4 σ4 H4 (p2.trans p4) k4 r4
        | er x e3 => simp only [q2] at w2; exact fun Hs4 σ4 H4 c od p4 k4 r4 => w2 Hs4 σ4 H4 c od (p2.trans p4) k4 r4
        | ud => simp only [q2] at w2; exact w2.elim
    · have e0 : ds.drop i = [] := List.drop_eq_nil_of_le (by omega)
      rw [e0] at w'
      exact .inl ⟨its (by omega), w' Hs' σ' H' Post.refl k' Kp.refl⟩) w)
end
end Ml

set_option linter.all false
set_option maxRecDepth 100000
set_option maxHeartbeats 1000000
namespace Ml
open L2
open PySem (Addr Str sizeLine)
section
variable {C : Cc} {te ta tb : TE} {me ma mb : ME Dv}

/-! ### what is walked -/
theorem iter_same {J : It} {Hs0 : Hp} {ds : List Dv} (h : ∀ (k : Nat) Z Hs1 e1 σ1 H1, StOk C Z Hs1 e1 σ1 H1 → Le Hs0 Hs1 → (∀ d, ds[k]? = some d → J.go k H1 ∧ ∀ x H2, J.yld k H1 x H2 → H2 = H1 ∧ Rep C.K C.sc Hs1 d x) ∧ (ds.length ≤ k → J.stop k H1)) : IterOk C J Hs0 ds := fun k Z Hs1 e1 σ1 H1 k1 l =>
  ⟨fun d hd => ⟨((h k Z Hs1 e1 σ1 H1 k1 l).1 d hd).1, fun x H2 hy => by
    obtain ⟨rfl, r⟩ := ((h k Z Hs1 e1 σ1 H1 k1 l).1 d hd).2 x H2 hy
    exact ⟨Hs1, Post.refl, k1, r⟩⟩, (h k Z Hs1 e1 σ1 H1 k1 l).2⟩
theorem iter_list {Hs0 : Hp} {a : Addr} {xs : List V} {ds : List Dv} (h : Hs0 a = some (.lst xs)) (r : Reps C.K C.sc Hs0 ds xs) : IterOk C (Itl C.K a) Hs0 ds := iter_same fun k Z Hs1 e1 σ1 H1 k1 l => by
  have h1 : SqL C.K H1 a xs := SqL.of (k1.le _ _ (l _ _ h))
  refine ⟨fun d hd => ?_, fun hk => ⟨xs, h1, by rw [reps_len r]; exact hk⟩⟩
  obtain ⟨v, e1, e2⟩ := reps_get r hd
  refine ⟨⟨xs, v, h1, e1⟩, fun x H2 hy => ⟨hy.1, ?_⟩⟩
  have := hy.2 xs h1
  rw [e1] at this; cases this
  exact rep_le l e2
theorem iter_tup {Hs0 : Hp} {a : Addr} {xs : List V} {ds : List Dv} (h : SqT C.K Hs0 a xs) (r : Reps C.K C.sc Hs0 ds xs) : IterOk C (Itt C.K a) Hs0 ds := iter_same fun k Z Hs1 e1 σ1 H1 k1 l => by
  have h1 : SqT C.K H1 a xs := sqt_le k1.le (sqt_le l h)
  refine ⟨fun d hd => ?_, fun hk => ⟨xs, h1, by rw [reps_len r]; exact hk⟩⟩
  obtain ⟨v, e1, e2⟩ := reps_get r hd
  refine ⟨⟨xs, v, h1, e1⟩, fun x H2 hy => ⟨hy.1, ?_⟩⟩
  have := hy.2 xs h1
  rw [e1] at this; cases this
  exact rep_le l e2
theorem si_list {K : PySem.W.Frag} (hK : C.K = K) (h : SE C te me) : SI C (iList K te) (mIt itL me) := fun Z Hs e σ H k R w =>
  h Z Hs e σ H k _ (we_bind (fun a e1 x Hs1 H1 _ k1 r1 w1 => by
    subst hK
    obtain ⟨ds, hd, w2⟩ := we_of w1
    cases a with
    | lst ds' =>
      cases hd
      simp only [rD, Rep] at r1
      obtain ⟨p, xs, rfl, hx, rx⟩ := r1
      exact ⟨p, rfl, ⟨xs, SqL.of (k1.le _ _ hx)⟩, we_ok w2 k1 (iter_list hx rx)⟩
    | _ => cases hd) w)
theorem si_tup {K : PySem.W.Frag} (hK : C.K = K) (h : SE C te me) : SI C (iTup K te) (mIt itT me) := fun Z Hs e σ H k R w =>
  h Z Hs e σ H k _ (we_bind (fun a e1 x Hs1 H1 _ k1 r1 w1 => by
    subst hK
    obtain ⟨ds, hd, w2⟩ := we_of w1
    cases a with
    | tup ds' =>
      cases hd
      simp only [rD, Rep] at r1
      obtain ⟨p, xs, rfl, hx, rx⟩ := r1
      exact ⟨p, rfl, ⟨xs, sqt_le k1.le hx.sq⟩, we_ok w2 k1 (iter_tup hx.sq rx)⟩
    | _ => cases hd) w)
theorem si_str (h : SE C te me) : SI C (iStr te) (mIt itS me) := fun Z Hs e σ H k R w =>
  h Z Hs e σ H k _ (we_bind (fun a e1 x Hs1 H1 _ k1 r1 w1 => by
    obtain ⟨ds, hd, w2⟩ := we_of w1
    cases a with
    | str s =>
      cases hd
      have r1 : x = .str (sOf s) := by simpa only [rD, Rep] using r1
      subst r1
      refine ⟨sOf s, rfl, we_ok w2 k1 (iter_same fun k Z Hs1 e1 σ1 H1 k1 l => ?_)⟩
      have es : (sOf s).cps.size = s.length := by simp
      refine ⟨fun d hd => ?_, fun hk => ?_⟩
      · rw [List.getElem?_map] at hd
        obtain ⟨c, hc, rfl⟩ := Option.map_eq_some_iff.mp hd
        refine ⟨by show k < (sOf s).cps.size; rw [es]; exact (List.getElem?_eq_some_iff.mp hc).1, fun x H2 hy => ⟨hy.1, ?_⟩⟩
        obtain ⟨c', h1, h2⟩ := hy.2
        have : (sOf s).cps[k]? = s[k]? := by simp
        rw [this, hc] at h1; cases h1
        simp only [Rep]; exact h2
      · show (sOf s).cps.size ≤ k
        rw [es]; simpa using hk
    | _ => cases hd) w)
theorem iter_rng {Hs0 : Hp} {lo : Int} {n : Nat} : IterOk C (Itr lo n) Hs0 ((List.range n).map fun (k : Nat) => Dv.int (lo + (k : Int))) := iter_same fun k Z Hs1 e1 σ1 H1 k1 l => by
  refine ⟨fun d hd => ?_, fun hk => by show n ≤ k; simpa using hk⟩
  rw [List.getElem?_map] at hd
  obtain ⟨c, hc, rfl⟩ := Option.map_eq_some_iff.mp hd
  have hlt : k < n := by simpa using (List.getElem?_eq_some_iff.mp hc).1
  rw [List.getElem?_range hlt] at hc; cases hc
  exact ⟨hlt, fun x H2 hy => ⟨hy.1, by simp only [Rep]; exact hy.2⟩⟩
theorem itR_some {lo hi : Int} {ds : List Dv} (h : itR lo hi = some ds) : (-big ≤ lo ∧ lo ≤ big ∧ -big ≤ hi ∧ hi ≤ big) ∧ ds = (List.range (hi - lo).toNat).map fun (k : Nat) => Dv.int (lo + (k : Int)) := by
  unfold itR at h
  split at h
  · rename_i hc; cases h; exact ⟨hc, rfl⟩
  · cases h
theorem si_rng1 (h : SE C te me) : SI C (iRng1 (tCons te tNil)) (mRg1 me) := fun Z Hs e σ H k R w =>
  h Z Hs e σ H k _ (we_bind (fun a e1 x Hs1 H1 _ k1 r1 w1 => by
    cases a with
    | int n =>
      have r1 : x = .int n := by simpa only [rD, Rep] using r1
      subst r1
      obtain ⟨ds, hd, w2⟩ := we_of w1
      obtain ⟨⟨b1, b2, b3, b4⟩, rfl⟩ := itR_some hd
      unfold big at b3 b4
      refine ⟨n, rfl, by omega, by omega, we_ok w2 k1 ?_⟩
      have := iter_rng (C := C) (Hs0 := Hs1) (lo := 0) (n := n.toNat)
      rwa [Int.sub_zero]
    | _ => exact w1.elim) w)
theorem si_rng2 (h : SE C ta ma) (h' : SE C tb mb) : SI C (iRng2 (tCons ta (tCons tb tNil))) (mRg2 ma mb) := fun Z Hs e σ H k R w =>
  h Z Hs e σ H k _ (we_bind (fun a e1 x Hs1 H1 _ k1 r1 w1 => h' Z Hs1 e1 σ H1 k1 _ (we_bind (fun b e2 y Hs2 H2 p2 k2 r2 w2 => by
    cases a with
    | int n =>
      cases b with
      | int m =>
        have r1 : x = .int n := by simpa only [rD, Rep] using r1
        have r2 : y = .int m := by simpa only [rD, Rep] using r2
        subst r1; subst r2
        obtain ⟨ds, hd, w3⟩ := we_of w2
        obtain ⟨⟨b1, b2, b3, b4⟩, rfl⟩ := itR_some hd
        unfold big at b1 b2 b3 b4
        exact ⟨n, m, rfl, ⟨by omega, by omega, by omega, by omega⟩, we_ok w3 k2 iter_rng⟩
      | _ => exact w2.elim
    | _ => exact w2.elim) w1)) w)
theorem si_own {K : PySem.W.Frag} (hK : C.K = K) {i : Nat} : SI C (iList K (tVar i)) (mItF i) := fun Z Hs e σ H k R w => by
  subst hK
  unfold mItF at w
  split at w
  · rename_i ds he
    obtain ⟨p, e1, hn, ⟨xs, hx, rx⟩, h0⟩ := k.own he
    refine ⟨_, e1, p, rfl, ⟨xs, SqL.of hx⟩, ?_⟩
    have hi : i < e.length := (List.getElem?_eq_some_iff.mp he).1
    have hn' : ∀ (i' : Nat) j u, (e.set i .un)[i']? = some (.ow j u) → (σ.set i (some (V.ref p)))[i']? ≠ some (some (.ref p)) := fun i' j u h1 h2 => by
      have z : i ≠ i' := fun z => by subst z; rw [List.getElem?_set_self hi] at h1; cases h1
      rw [List.getElem?_set_ne z] at h1 h2
      exact z (k.sep i i' none j _ u p he h1 e1 h2)
    have k1 := (k.setU (i := i) (x := some (V.ref p))).freeze hx h0 hn (k.hids i none (.lst ds) p he e1) hn'
    have es : σ.set i (some (V.ref p)) = σ := by
      apply List.ext_getElem?
      intro j
      by_cases z : i = j
      · subst z; rw [List.getElem?_set_self (by rw [k.len]; exact hi)]; exact e1.symm
      · rw [List.getElem?_set_ne z]
    have r : Rep C.K C.sc (upd Hs p (.lst xs)) (.lst ds) (.ref p) := by
      simp only [Rep]
      exact ⟨p, xs, rfl, upd_same, reps_le (Le.new hn) rx⟩
    have k2 := k1.setF (i := i) r
    rw [List.set_set, List.set_set, es] at k2
    exact w _ _ H ⟨Le.new hn, fun _ z => z⟩ k2 (iter_list upd_same (reps_le (Le.new hn) rx))
  · exact w.elim

/-! ### comprehensions -/
theorem stok_wipe {Z Hs : Hp} {e : Loc} {σ : L2.St} {H : Hp} (k : StOk C Z Hs e σ H) : ∀ vs : List Nat, StOk C Z Hs (wipeE e vs) (wipe σ vs) H
  | [] => k
  | v :: vs => (stok_wipe k vs).setU
theorem wipe_get {σ : L2.St} : ∀ {vs : List Nat} {j : Nat}, j ∉ vs → (wipe σ vs)[j]? = σ[j]?
  | [], _, _ => rfl
  | v :: vs, j, h => by
    unfold wipe
    rw [List.getElem?_set_ne (fun z => h (by rw [z]; exact List.mem_cons_self)), wipe_get fun z => h (List.mem_cons_of_mem _ z)]
theorem backE_len (e0 e : Loc) : ∀ vs : List Nat, (backE e0 e vs).length = e.length
  | [] => rfl
  | v :: vs => by unfold backE; rw [List.length_set, backE_len e0 e vs]
theorem backE_out {e0 e : Loc} : ∀ {vs : List Nat} {j : Nat}, j ∉ vs → (backE e0 e vs)[j]? = e[j]?
  | [], _, _ => rfl
  | v :: vs, j, h => by
    unfold backE
    rw [List.getElem?_set_ne (fun z => h (by rw [z]; exact List.mem_cons_self)), backE_out fun z => h (List.mem_cons_of_mem _ z)]
theorem backE_in {e0 e : Loc} : ∀ {vs : List Nat} {j : Nat} {s : Slt}, j ∈ vs → (backE e0 e vs)[j]? = some s → s = e0[j]?.getD .un
  | [], _, _, h, _ => absurd h List.not_mem_nil
  | v :: vs, j, s, h, q => by
    unfold backE at q
    by_cases z : v = j
    · subst z
      have hl : v < (backE e0 e vs).length := by
        have := (List.getElem?_eq_some_iff.mp q).1; rw [List.length_set] at this; exact this
      rw [List.getElem?_set_self hl] at q
      exact (Option.some.inj q).symm
    · rw [List.getElem?_set_ne z] at q
      exact backE_in ((List.mem_cons.mp h).resolve_left (Ne.symm z)) q
theorem noOw_at {e : Loc} {vs : List Nat} (h : noOw e vs = true) {j : Nat} (hj : j ∈ vs) : e[j]? = some .un ∨ ∃ d, e[j]? = some (.fz d) := by
  have q := List.all_eq_true.mp h j hj
  split at q
  · exact .inl (by assumption)
  · exact .inr ⟨_, by assumption⟩
  · cases q
theorem stok_back {Z Hs1 Hs2 : Hp} {e1 e2 : Loc} {σ : L2.St} {H1 H2 : Hp} {vs : List Nat} (k1 : StOk C Z Hs1 e1 σ H1) (l : Le Hs1 Hs2) (k2 : StOk C Z Hs2 e2 (wipe σ vs) H2) (hn : noOw e1 vs = true) : StOk C Z Hs2 (backE e1 e2 vs) σ H2 := by
  have notow : ∀ {j j' o}, (backE e1 e2 vs)[j]? = some (Slt.ow j' o) → j ∉ vs := fun {j j' o} h hj => by
    have q := backE_in hj h
    rcases noOw_at hn hj with z | ⟨d, z⟩ <;> (rw [z] at q; cases q)
  refine ⟨?_, k2.le, fun i s hs => ?_, fun a b j j' o o' p h1 h2 h3 h4 => ?_, k2.frame, k2.dom, k2.news, k2.par, k2.hid, fun i j o p h1 h2 => ?_⟩
  · have := k2.len
    rw [wipe_length] at this
    rw [backE_len]; exact this
  · by_cases hi : i ∈ vs
    · have q := backE_in hi hs
      rcases noOw_at hn hi with z | ⟨d, z⟩
      · rw [z] at q; subst q; trivial
      · rw [z] at q
        have q : s = .fz d := q
        subst q
        obtain ⟨v, a1, a2⟩ := k1.fz z
        exact ⟨v, a1, rep_le l a2⟩
    · rw [backE_out hi] at hs
      have q := k2.slot i s hs
      rw [wipe_get hi] at q
      exact q
  · have n1 := notow h1
    have n2 := notow h2
    rw [backE_out n1] at h1
    rw [backE_out n2] at h2
    exact k2.sep a b j j' o o' p h1 h2 (by rw [wipe_get n1]; exact h3) (by rw [wipe_get n2]; exact h4)
  · have n1 := notow h1
    rw [backE_out n1] at h1
    exact k2.hids i j o p h1 (by rw [wipe_get n1]; exact h2)
theorem wipe_idem {σ σ2 : L2.St} {vs : List Nat} (h : Kp vs (wipe σ vs) σ2) (hl : σ2.length = σ.length) : wipe σ2 vs = wipe σ vs := by
  apply List.ext_getElem?
  intro j
  by_cases hj : j ∈ vs
  · have aux : ∀ {τ : L2.St} {vs : List Nat} {j : Nat}, j ∈ vs → (wipe τ vs)[j]? = if j < τ.length then some none else none := by
      intro τ vs
      induction vs with
      | nil => intro j h; cases h
      | cons v vs ih =>
        intro j h
        unfold wipe
        by_cases z : v = j
        · subst z
          by_cases hl : v < τ.length
          · rw [List.getElem?_set_self (by rw [wipe_length]; exact hl), if_pos hl]
          · rw [if_neg hl]
            apply List.getElem?_eq_none
            rw [List.length_set, wipe_length]; omega
        · rw [List.getElem?_set_ne z]
          exact ih ((List.mem_cons.mp h).resolve_left (Ne.symm z))
    rw [aux hj, aux hj, hl]
  · rw [wipe_get hj, wipe_get hj]
    have := h.2 j hj
    rw [wipe_get hj] at this
    exact this
theorem stok_zr {Z Hs H : Hp} {e : Loc} {σ σ' : L2.St} (k : StOk C Z Hs e σ H) (h : σ = σ') : StOk C Z Hs e σ' H := h ▸ k
theorem seo_lc {wi : TI} {mi : ME (List Dv)} {g : TG} {mg : MG} {tt : TT} {mt : ME Bool} {A : List Nat} {vs : List Nat} (hi : SI C wi mi) (hg : SG C A g mg) (ht : ST C tt mt) (h : SE C te me) (hA : ∀ j, j ∈ A → j ∈ vs := by decide) :
    SEO C (tLc wi g tt te vs) (mLc mi mg mt me vs) := fun Z Hs e σ H k Q w =>
  hi Z Hs e σ H k _ (we_bind (fun ds e1 J Hs1 H1 p1 k1 it w1 => by
    split at w1
    · rename_i hno
      split at w1
      · rename_i accF eF hF
        intro D hD
        have h0 : C.H0 D = none := k1.h0_none hD
        have hzD : Z D = none := k1.z_none hD
        have kD : StOk C (upd Z D (.lst [])) Hs1 (wipeE e1 vs) (wipe σ vs) (upd H1 D (.lst [])) := ((stok_wipe k1 vs).newO hD).hide upd_same (k1.hs_none hD) ((stok_wipe k1 vs).fresh hD)
        refine ⟨fun i mm H' => mm = ds.length - i ∧ i ≤ ds.length ∧ ∃ Hs' e' acc xs, Post Hs1 H1 Hs' H' ∧ StOk C (upd Z D (.lst xs)) Hs' e' (wipe σ vs) H' ∧ Reps C.K C.sc Hs' acc xs ∧ lcGo mg mt me vs (ds.drop i) acc e' = some (accF, eF),
          ⟨ds.length, rfl, Nat.zero_le _, Hs1, wipeE e1 vs, [], [], Post.newO, kD, reps_nil, hF⟩, ?_⟩
        rintro i mm H' ⟨rfl, hle, Hs', e', acc, xs, p', k', rx, hgo⟩
        obtain ⟨itg, its⟩ := it i _ Hs' e' _ H' k' p'.le
        by_cases hlt : i < ds.length
        · obtain ⟨d, hd, hdr⟩ := drop_cons hlt
          obtain ⟨go, yl⟩ := itg d hd
          rw [hdr] at hgo
          refine .inr ⟨go, fun H3 => ∃ Hs' e' acc xs, Post Hs1 H1 Hs' H3 ∧ StOk C (upd Z D (.lst xs)) Hs' e' (wipe σ vs) H3 ∧ Reps C.K C.sc Hs' acc xs ∧ lcGo mg mt me vs (ds.drop (i + 1)) acc e' = some (accF, eF), fun H3 h3 => ⟨ds.length - (i + 1), by omega, rfl, hlt, h3⟩, fun x H2 hy => ?_⟩
          obtain ⟨Hs2, p2, k2, r2⟩ := yl x H2 hy
          unfold lcGo at hgo
          cases qg : mg d e' with
          | none => simp only [qg] at hgo; cases hgo
          | some e2 =>
            simp only [qg] at hgo
            refine hg _ Hs2 e' _ H2 k2 d x e2 r2 qg _ fun σ2 k3 kp3 => ?_
            have hw : wipe σ2 vs = wipe σ vs := wipe_idem (kp3.sub hA) (by rw [kp3.1, wipe_length])
            refine ⟨hw, ht _ Hs2 e2 σ2 H2 k3 _ ?_⟩
            cases qt : mt e2 with
            | ud => simp only [qt] at hgo; cases hgo
            | er x e => simp only [qt] at hgo; cases hgo
            | ok b e3 =>
              intro b' Hs3 H3 p3 k3' rb
              have rb : b = b' := rb
              subst rb
              cases b with
              | false =>
                simp only [qt] at hgo
                exact ⟨Hs3, wipeE e3 vs, acc, xs, (p'.trans p2).trans p3, stok_zr (stok_wipe k3' vs) hw, reps_le (p2.trans p3).le rx, hgo⟩
              | true =>
                simp only [qt] at hgo
                refine h _ Hs3 e3 σ2 H3 k3' _ ?_
                cases qm : me e3 with
                | ud => simp only [qm] at hgo; cases hgo
                | er x e => simp only [qm] at hgo; cases hgo
                | ok y e4 =>
                  simp only [qm] at hgo
                  intro v Hs4 H4 p4 k4 r4
                  split at hgo
                  · rename_i hlen
                    have rx4 := reps_le ((p2.trans p3).trans p4).le rx
                    refine ⟨xs, (k4.hid D _ upd_same).1, by rw [reps_len rx]; exact lim_lt hlen, Hs4, wipeE e4 vs, acc ++ [y], xs ++ [v], ((p'.trans p2).trans (p3.trans p4)).trans Post.newO, stok_zr ((stok_wipe k4 vs).hmut h0) hw, reps_app rx4 (reps_cons r4 reps_nil), hgo⟩
                  · cases hgo
        · have e0 : ds.drop i = [] := List.drop_eq_nil_of_le (by omega)
          rw [e0] at hgo
          cases hgo
          obtain ⟨hx, hn⟩ := k'.hid D _ upd_same
          refine .inl ⟨its (by omega), w1 _ Hs' H' p' (stok_back k1 p'.le (k'.zle (Le.new hzD)) hno) ⟨D, rfl, hn, ⟨h0, hzD⟩, ⟨xs, hx, rx⟩, fun i j u h1 h2 => ?_⟩⟩
          have hi' : i ∉ vs := fun hi => by
            have q := backE_in hi h1
            rcases noOw_at hno hi with z | ⟨d, z⟩ <;> (rw [z] at q; cases q)
          rw [backE_out hi'] at h1
          have q := k'.hids i j u D h1 (by rw [wipe_get hi']; exact h2)
          rw [upd_same] at q; cases q
      · exact w1.elim
    · exact w1.elim) w)
end
end Ml

set_option linter.all false
set_option maxRecDepth 100000
set_option maxHeartbeats 1000000
namespace Ml
open L2
open PySem (Addr Str sizeLine)

/-! ### what a def promises: its mirror -/
def AOk (K : PySem.W.Frag) (sc : Sc) (Hs H : Hp) : List Slt → List V → List Addr → Prop
  | [], [], [] => True
  | .fz d :: as, v :: vs, ps => Rep K sc Hs d v ∧ AOk K sc Hs H as vs ps
  | .ow none o :: as, v :: vs, p :: ps => v = .ref p ∧ Hs p = none ∧ OwnAt K sc Hs H p o ∧ AOk K sc Hs H as vs ps
  | _, _, _ => False
def OOk (K : PySem.W.Frag) (sc : Sc) (Hs H : Hp) : List Addr → List Ob → Prop
  | [], [] => True
  | p :: ps, o :: os => OwnAt K sc Hs H p o ∧ OOk K sc Hs H ps os
  | _, _ => False
def RetC (K : PySem.W.Frag) (sc : Sc) (Hs H H' : Hp) : Slt → V → Prop
  | .fz d, v => Rep K sc Hs d v
  | .ow none o, v => ∃ p, v = .ref p ∧ Hs p = none ∧ H p = none ∧ OwnAt K sc Hs H' p o
  | _, _ => False
structure FPost (Hs H : Hp) (ps : List Addr) (Hs' H' : Hp) : Prop where
  ext : Le Hs Hs'
  le : Le Hs' H'
  frame : ∀ a o, H a = some o → a ∉ ps → H' a = some o
  dom : ∀ a, H a ≠ none → H' a ≠ none
  news : ∀ a, Hs' a ≠ none → Hs a ≠ none ∨ H a = none
def FW (K : PySem.W.Frag) (sc : Sc) (RE : Err → PySem.Value → Option Addr → Hp → Hp → Prop) (Hs H : Hp) (ps : List Addr) (Q : VK) (E : XK) : Fres → Prop
  | .ok s outs => ∀ v Hs' H', FPost Hs H ps Hs' H' → OOk K sc Hs' H' ps outs → RetC K sc Hs' H H' s v → Q v H'
  | .er x outs => ∀ Hs' H' c od, FPost Hs H ps Hs' H' → OOk K sc Hs' H' ps outs → RE x c od Hs' H' → E c od H'
  | .ud => False
def spM (P : PySem.Program) (w : PySem.World) (K : PySem.W.Frag) (RE : Err → PySem.Value → Option Addr → Hp → Hp → Prop) (F : Fn) : Sp := fun vs H Q E => ∃ sc Hs as ps, Le Hs H ∧ AOk K (scOf sc P w) Hs H as vs ps ∧ ps.Nodup ∧ FW K (scOf sc P w) RE Hs H ps Q E (F as)

section
variable {C : Cc} {Z : Hp}
def rAV (C : Cc) (σ : L2.St) (Hs : Hp) : List AV → List V → Prop
  | [], [] => True
  | .val d :: as, v :: vs => Rep C.K C.sc Hs d v ∧ rAV C σ Hs as vs
  | .own i :: as, v :: vs => σ[i]? = some (some v) ∧ rAV C σ Hs as vs
  | _, _ => False
theorem rAV_le {σ : L2.St} {Hs Hs' : Hp} (l : Le Hs Hs') : ∀ {as : List AV} {vs : List V}, rAV C σ Hs as vs → rAV C σ Hs' as vs
  | [], [], _ => trivial
  | .val d :: as, v :: vs, h => ⟨rep_le l h.1, rAV_le l h.2⟩
  | .own i :: as, v :: vs, h => ⟨h.1, rAV_le l h.2⟩
  | [], _ :: _, h => h.elim
  | .val _ :: _, [], h => h.elim
  | .own _ :: _, [], h => h.elim
def rA (C : Cc) (σ : L2.St) : List AV → Loc → List V → Hp → Hp → Prop := fun as _ vs Hs' _ => rAV C σ Hs' as vs
def SM (C : Cc) (t : TA) (ms : List MA) : Prop := ∀ Z Hs e σ H, StOk C Z Hs e σ H → ∀ Q, WE C Z σ Hs H (rA C σ) (mAs ms e) Q → t σ H Q
theorem sm_nil : SM C tNil [] := fun Z Hs e σ H k Q w => we_ok w k trivial
theorem sm_val {te : TE} {me : ME Dv} {t : TA} {ms : List MA} (h : SE C te me) (hr : SM C t ms) : SM C (tCons te t) (.val me :: ms) := fun Z Hs e σ H k Q w =>
  h Z Hs e σ H k _ (we_bind (fun a e1 x Hs1 H1 _ k1 r1 w1 => hr Z Hs1 e1 σ H1 k1 _ (we_bind (fun b e2 y Hs2 H2 p2 k2 r2 w2 => we_ok w2 k2 ⟨rep_le p2.le r1, r2⟩) w1)) w)
theorem sm_own {i : Nat} {t : TA} {ms : List MA} (hr : SM C t ms) : SM C (tCons (tVar i) t) (.own i :: ms) := fun Z Hs e σ H k Q w => by
  unfold mAs at w
  split at w
  · rename_i ho
    obtain ⟨j, o, he⟩ := ow_of ho
    obtain ⟨p, e1, _⟩ := k.own he
    exact ⟨_, e1, hr Z Hs e σ H k _ (we_bind (fun b e2 y Hs2 H2 p2 k2 r2 w2 => we_ok w2 k2 ⟨e1, r2⟩) w)⟩
  · exact w.elim

def OA (σ : L2.St) (e : Loc) : List Nat → List Addr → Prop
  | [], [] => True
  | i :: is, p :: ps => σ[i]? = some (some (.ref p)) ∧ (∃ j o, e[i]? = some (.ow j o)) ∧ OA σ e is ps
  | _, _ => False
theorem oa_mem {σ : L2.St} {e : Loc} : ∀ {is : List Nat} {ps : List Addr} {p : Addr}, OA σ e is ps → p ∈ ps → ∃ i, i ∈ is ∧ σ[i]? = some (some (.ref p)) ∧ ∃ j o, e[i]? = some (.ow j o)
  | [], [], _, _, h => by cases h
  | i :: is, q :: ps, p, h, hp => by
    rcases List.mem_cons.mp hp with rfl | hp
    · exact ⟨i, List.mem_cons_self, h.1, h.2.1⟩
    · obtain ⟨i', a, b⟩ := oa_mem h.2.2 hp
      exact ⟨i', List.mem_cons_of_mem _ a, b⟩
  | [], _ :: _, _, h, _ => h.elim
  | _ :: _, [], _, h, _ => h.elim
theorem oa_nodup {σ : L2.St} {e : Loc} {Hs H : Hp} (k : StOk C Z Hs e σ H) : ∀ {is : List Nat} {ps : List Addr}, OA σ e is ps → is.Nodup → ps.Nodup
  | [], [], _, _ => List.nodup_nil
  | i :: is, p :: ps, h, hn => by
    obtain ⟨h1, h2⟩ := List.nodup_cons.mp hn
    refine List.nodup_cons.mpr ⟨fun hp => ?_, oa_nodup k h.2.2 h2⟩
    obtain ⟨i', a, b, j', o', c⟩ := oa_mem h.2.2 hp
    obtain ⟨j, o, d⟩ := h.2.1
    have := k.sep i i' j j' o o' p d c h.1 b
    exact h1 (this ▸ a)
  | [], _ :: _, h, _ => h.elim
  | _ :: _, [], h, _ => h.elim
theorem resolve_ok {σ : L2.St} {e : Loc} {Hs H : Hp} (k : StOk C Z Hs e σ H) : ∀ {as : List AV} {vs : List V} {ss : List Slt}, rAV C σ Hs as vs → resolve as e = some ss → ∃ ps, AOk C.K C.sc Hs H ss vs ps ∧ OA σ e (owns as) ps
  | [], [], ss, _, h => by cases h; exact ⟨[], trivial, trivial⟩
  | .val d :: as, v :: vs, ss, r, h => by
    obtain ⟨r', h', rfl⟩ := Option.map_eq_some_iff.mp h
    obtain ⟨ps, a, b⟩ := resolve_ok k r.2 h'
    exact ⟨ps, ⟨r.1, a⟩, b⟩
  | .own i :: as, v :: vs, ss, r, h => by
    unfold resolve at h
    split at h
    · rename_i j o he
      obtain ⟨r', h', rfl⟩ := Option.map_eq_some_iff.mp h
      obtain ⟨ps, a, b⟩ := resolve_ok k r.2 h'
      obtain ⟨p, e1, e2, e3, _⟩ := k.own he
      have ev : V.ref p = v := Option.some.inj (Option.some.inj (e1.symm.trans r.1))
      exact ⟨p :: ps, ⟨ev.symm, e2, e3, a⟩, e1, ⟨j, o, he⟩, b⟩
    · cases h
  | [], _ :: _, _, r, _ => r.elim
  | .val _ :: _, [], _, r, _ => r.elim
  | .own _ :: _, [], _, r, _ => r.elim
theorem oa_set {σ : L2.St} {e : Loc} {i : Nat} {s : Slt} : ∀ {is : List Nat} {ps : List Addr}, i ∉ is → OA σ e is ps → OA σ (e.set i s) is ps
  | [], [], _, _ => trivial
  | a :: is, p :: ps, hi, h => by
    refine ⟨h.1, ?_, oa_set (fun z => hi (List.mem_cons_of_mem _ z)) h.2.2⟩
    rw [List.getElem?_set_ne (fun z => hi (by rw [z]; exact List.mem_cons_self))]
    exact h.2.1
  | [], _ :: _, _, h => h.elim
  | _ :: _, [], _, h => h.elim
theorem wback_at {K : PySem.W.Frag} {sc : Sc} {Hs H : Hp} {σ : L2.St} : ∀ {is : List Nat} {ps : List Addr} {os : List Ob} {e e' : Loc}, OA σ e is ps → OOk K sc Hs H ps os → is.Nodup → wback is os e = some e' →
    e'.length = e.length ∧ ∀ i', (i' ∉ is → e'[i']? = e[i']?) ∧ (i' ∈ is → ∃ j o o' p, e[i']? = some (.ow j o) ∧ e'[i']? = some (.ow j o') ∧ σ[i']? = some (some (.ref p)) ∧ p ∈ ps ∧ OwnAt K sc Hs H p o')
  | [], [], [], e, e', _, _, _, h => by
    cases h
    exact ⟨rfl, fun i' => ⟨fun _ => rfl, fun z => by cases z⟩⟩
  | i :: is, p :: ps, o :: os, e, e', ha, ho, hn, h => by
    obtain ⟨n1, n2⟩ := List.nodup_cons.mp hn
    obtain ⟨j, u, hu⟩ := ha.2.1
    have hl : i < e.length := (List.getElem?_eq_some_iff.mp hu).1
    have h : wback is os (e.set i (putO e[i]? o)) = some e' := h
    obtain ⟨l, w⟩ := wback_at (oa_set (s := putO e[i]? o) n1 ha.2.2) ho.2 n2 h
    refine ⟨by rw [l, List.length_set], fun i' => ⟨fun hi => ?_, fun hi => ?_⟩⟩
    · rw [(w i').1 fun z => hi (List.mem_cons_of_mem _ z), List.getElem?_set_ne (fun z => hi (by rw [z]; exact List.mem_cons_self))]
    · by_cases z : i = i'
      · subst z
        refine ⟨j, u, o, p, hu, ?_, ha.1, List.mem_cons_self, ho.1⟩
        rw [(w i).1 n1, List.getElem?_set_self hl, hu]
        rfl
      · have hi2 : i' ∈ is := (List.mem_cons.mp hi).resolve_left (Ne.symm z)
        obtain ⟨j2, o2, o3, p2, a, b, c, d, f⟩ := (w i').2 hi2
        rw [List.getElem?_set_ne z] at a
        exact ⟨j2, o2, o3, p2, a, b, c, List.mem_cons_of_mem _ d, f⟩
  | [], [], _ :: _, _, _, _, ho, _, _ => ho.elim
  | [], _ :: _, _, _, _, ha, _, _, _ => ha.elim
  | _ :: _, [], _, _, _, ha, _, _, _ => ha.elim
  | _ :: _, _ :: _, [], _, _, _, ho, _, _ => ho.elim
theorem stok_call {σ : L2.St} {e e' : Loc} {Hs H Hs' H' : Hp} {is : List Nat} {ps : List Addr} {os : List Ob} (k : StOk C Z Hs e σ H) (f : FPost Hs H ps Hs' H') (ha : OA σ e is ps) (ho : OOk C.K C.sc Hs' H' ps os) (hn : is.Nodup) (hw : wback is os e = some e') :
    StOk C Z Hs' e' σ H' ∧ ∀ (i : Nat) j u, e'[i]? = some (.ow j u) → ∃ u', e[i]? = some (.ow j u') := by
  obtain ⟨hl, w⟩ := wback_at ha ho hn hw
  have back : ∀ (i : Nat) j u, e'[i]? = some (.ow j u) → ∃ u', e[i]? = some (.ow j u') := fun i j u h => by
    by_cases hi : i ∈ is
    · obtain ⟨j2, o2, o3, p2, a, b, _⟩ := (w i).2 hi
      rw [b] at h; cases h
      exact ⟨_, a⟩
    · rw [(w i).1 hi] at h; exact ⟨u, h⟩
  have hsn : ∀ p, Hs p = none → H p ≠ none → Hs' p = none := fun p h1 h2 => by
    cases z : Hs' p with
    | none => rfl
    | some u =>
      rcases f.news p (by rw [z]; exact fun q => nomatch q) with h | h
      · exact absurd h1 h
      · exact absurd h h2
  refine ⟨⟨by rw [hl]; exact k.len, f.le, fun i s hs => ?_, fun a b j j' o o' p h1 h2 h3 h4 => ?_, fun a o h h' => ?_, fun a h => f.dom a (k.dom a h), fun a h => ?_, k.par, fun a o h => ?_, fun i j o p h1 h2 => ?_⟩, back⟩
  · by_cases hi : i ∈ is
    · obtain ⟨j2, o2, o3, p2, a, b, c, d, g⟩ := (w i).2 hi
      rw [b] at hs; cases hs
      obtain ⟨p3, e1, e2, e3, e4⟩ := k.own a
      rw [c] at e1; cases e1
      exact ⟨p2, c, hsn p2 e2 e3.some, g, e4⟩
    · rw [(w i).1 hi] at hs
      have q := k.slot i s hs
      cases s with
      | un => trivial
      | fz d => obtain ⟨v, e1, r⟩ := q; exact ⟨v, e1, rep_le f.ext r⟩
      | ow j o =>
        obtain ⟨p, e1, e2, e3, e4⟩ := q
        have np : p ∉ ps := fun hp => by
          obtain ⟨i2, a, b, j2, o2, c⟩ := oa_mem ha hp
          have := k.sep i i2 j j2 o o2 p hs c e1 b
          exact hi (this ▸ a)
        refine ⟨p, e1, hsn p e2 e3.some, e3.mono f.ext ?_, e4⟩
        cases z : H p with
        | none => exact absurd z e3.some
        | some u => exact f.frame p u z np
  · obtain ⟨u1, g1⟩ := back a j o h1
    obtain ⟨u2, g2⟩ := back b j' o' h2
    exact k.sep a b j j' u1 u2 p g1 g2 h3 h4
  · refine f.frame a o (k.frame a o h h') fun hp => h' ?_
    obtain ⟨i, _, b, j, o2, c⟩ := oa_mem ha hp
    exact k.unframed c b o h
  · rcases f.news a h with h | h
    · exact k.news a h
    · exact .inr (k.h0_none h)
  · obtain ⟨h1, h2⟩ := k.hid a o h
    refine ⟨f.frame a o h1 fun hp => ?_, hsn a h2 (by rw [h1]; exact fun q => nomatch q)⟩
    obtain ⟨i, _, b, j, o2, c⟩ := oa_mem ha hp
    rw [k.hids i j o2 a c b] at h; cases h
  · obtain ⟨u, g⟩ := back i j o h1
    exact k.hids i j u p g h2
/-- a result: data, or a new object of one's own -/
def rS (C : Cc) (Z : Hp) (σ : L2.St) : Slt → Loc → V → Hp → Hp → Prop
  | .fz d, _, v, Hs', _ => Rep C.K C.sc Hs' d v
  | .ow none o, e, v, Hs', H' => rO C Z σ o e v Hs' H'
  | _, _, _, _, _ => False
theorem se_callS {F : Fn} {t : TA} {ms : List MA} (h : SM C t ms) : ∀ Z Hs e σ H, StOk C Z Hs e σ H → ∀ Q, WE C Z σ Hs H (rS C Z σ) (mCall F ms e) Q → tCallS (spM C.sc.P C.sc.w C.K C.RE F) (L2.WE C.E) t σ H Q := fun Z Hs e σ H k Q w =>
  h Z Hs e σ H k _ (we_bind (fun as e1 vs Hs1 H1 p1 k1 r1 w1 => by
    split at w1
    · rename_i hnd
      split at w1
      · exact w1.elim
      · rename_i ss hss
        obtain ⟨ps, a1, a2⟩ := resolve_ok k1 r1 hss
        have pn := oa_nodup k1 a2 hnd
        show spM C.sc.P C.sc.w C.K C.RE F vs H1 Q (L2.WE C.E σ)
        refine ⟨C.sc, Hs1, ss, ps, k1.le, a1, pn, ?_⟩
        split at w1
        · rename_i s outs hF
          rw [hF]
          intro v Hs' H' fp oo rc
          cases hw : wback (owns as) outs e1 with
          | none => rw [hw] at w1; exact w1.elim
          | some e2 =>
            rw [hw] at w1
            obtain ⟨k2, back⟩ := stok_call k1 fp a2 oo hnd hw
            refine w1 v Hs' H' ⟨fp.ext, fp.dom⟩ k2 ?_
            cases s with
            | un => exact rc.elim
            | fz d => exact rc
            | ow j o =>
              cases j with
              | some n => exact rc.elim
              | none =>
                obtain ⟨p, rfl, c1, c2, c3⟩ := rc
                refine ⟨p, rfl, c1, ⟨k1.h0_none c2, k1.z_none c2⟩, c3, fun i j u h1 => ?_⟩
                obtain ⟨u', g⟩ := back i j u h1
                exact k1.fresh c2 i j u' g
        · rename_i x outs hF
          rw [hF]
          intro Hs' H' c od fp oo re
          cases hw : wback (owns as) outs e1 with
          | none => rw [hw] at w1; exact w1.elim
          | some e2 =>
            rw [hw] at w1
            obtain ⟨k2, back⟩ := stok_call k1 fp a2 oo hnd hw
            exact w1 Hs' H' c od ⟨fp.ext, fp.dom⟩ k2 re
        · exact w1.elim
    · exact w1.elim) w)
theorem se_call {F : Fn} {t : TA} {ms : List MA} (h : SM C t ms) : SE C (tCallS (spM C.sc.P C.sc.w C.K C.RE F) (L2.WE C.E) t) (mCallD F ms) := fun Z Hs e σ H k Q w =>
  se_callS h Z Hs e σ H k Q (by
    have w' : WE C Z σ Hs H (rD C) ((mCall F ms e).bind fun s e => match s with
      | .fz d => .ok d e
      | _ => .ud) Q := w
    refine we_bind (r2 := rD C) (fun s e1 v Hs1 H1 p1 k1 r1 w1 => ?_) w'
    cases s with
    | fz d => exact we_ok w1 k1 r1
    | un => exact w1.elim
    | ow j o => exact w1.elim)
theorem seo_call {F : Fn} {t : TA} {ms : List MA} (h : SM C t ms) : SEO C (tCallS (spM C.sc.P C.sc.w C.K C.RE F) (L2.WE C.E) t) (mCallO F ms) := fun Z Hs e σ H k Q w =>
  se_callS h Z Hs e σ H k Q (by
    have w' : WE C Z σ Hs H (rO C Z σ) ((mCall F ms e).bind fun s e => match s with
      | .ow none o => .ok o e
      | _ => .ud) Q := w
    refine we_bind (r2 := rO C Z σ) (fun s e1 v Hs1 H1 p1 k1 r1 w1 => ?_) w'
    cases s with
    | fz d => exact w1.elim
    | un => exact w1.elim
    | ow j o =>
      cases j with
      | none => exact we_ok w1 k1 r1
      | some n => exact w1.elim)
end

/-! ### a def keeps its promise -/
section
variable {P : PySem.Program} {w : PySem.World} {K : PySem.W.Frag} {sc : Sc} {RE : Err → PySem.Value → Option Addr → Hp → Hp → Prop}
theorem aok_len : ∀ {as : List Slt} {vs : List V} {ps : List Addr} {Hs H : Hp}, AOk K sc Hs H as vs ps → vs.length = as.length
  | [], [], [], _, _, _ => rfl
  | .fz _ :: _, _ :: _, _, _, _, h => by simp [aok_len h.2]
  | .ow none _ :: _, _ :: _, _ :: _, _, _, h => by simp [aok_len h.2.2.2]
  | [], [], _ :: _, _, _, h => h.elim
  | [], _ :: _, _, _, _, h => h.elim
  | .fz _ :: _, [], _, _, _, h => h.elim
  | .un :: _, _, _, _, _, h => h.elim
  | .ow none _ :: _, [], _, _, _, h => h.elim
  | .ow none _ :: _, _ :: _, [], _, _, h => h.elim
  | .ow (some _) _ :: _, _, _, _, _, h => h.elim
theorem spM_len {F : Fn} {np nl : Nat} {m : MS} (hF : F = mkFn np nl m) {vs : List V} {H : Hp} {Q : VK} {E : XK} (h : spM P w K RE F vs H Q E) : vs.length = np := by
  obtain ⟨sc, Hs, as, ps, _, a, _, fw⟩ := h
  rw [hF] at fw
  unfold mkFn at fw
  split at fw
  · rename_i hc
    rw [aok_len a, hc.1]
  · exact fw.elim
theorem initE_len : ∀ {as : List Slt} {k : Nat}, (initE k as).length = as.length
  | [], _ => rfl
  | .ow _ _ :: r, k => by simp [initE, initE_len]
  | .un :: r, k => by simp [initE, initE_len]
  | .fz _ :: r, k => by simp [initE, initE_len]
/-- the slots at a def's entry -/
theorem init_slot {Hs H : Hp} {P : List Addr} : ∀ {as : List Slt} {vs : List V} {ps : List Addr} {k : Nat}, AOk K sc Hs H as vs ps → (∀ n p, ps[n]? = some p → P[k + n]? = some p) →
    ∀ (i : Nat) s, (initE k as)[i]? = some s → (∃ d v, s = .fz d ∧ vs[i]? = some v ∧ Rep K sc Hs d v) ∨ (∃ n o p, s = .ow (some n) o ∧ vs[i]? = some (.ref p) ∧ Hs p = none ∧ OwnAt K sc Hs H p o ∧ P[n]? = some p ∧ k ≤ n ∧ n < k + ps.length)
  | [], [], [], _, _, _, i, s, h => by simp [initE] at h
  | .fz d :: as, v :: vs, ps, k, a, hP, i, s, h => by
    cases i with
    | zero => simp [initE] at h; exact .inl ⟨d, v, h.symm, rfl, a.1⟩
    | succ i =>
      have h : (initE k as)[i]? = some s := by simpa [initE] using h
      exact init_slot a.2 hP i s h
  | .ow none o :: as, v :: vs, p :: ps, k, a, hP, i, s, h => by
    cases i with
    | zero =>
      simp [initE] at h
      have e := hP 0 p rfl
      exact .inr ⟨k, o, p, h.symm, by rw [a.1]; rfl, a.2.1, a.2.2.1, by simpa using e, Nat.le_refl _, by simp⟩
    | succ i =>
      have h : (initE (k + 1) as)[i]? = some s := by simpa [initE] using h
      rcases init_slot (k := k + 1) a.2.2.2 (fun n q e => by have := hP (n + 1) q (by simpa using e); rw [show k + 1 + n = k + (n + 1) by omega]; exact this) i s h with z | ⟨n, o', p', a1, a2, a3, a4, a5, a6, a7⟩
      · exact .inl z
      · exact .inr ⟨n, o', p', a1, a2, a3, a4, a5, by omega, by simp; omega⟩
  | [], [], _ :: _, _, h, _, _, _, _ => h.elim
  | [], _ :: _, _, _, h, _, _, _, _ => h.elim
  | .fz _ :: _, [], _, _, h, _, _, _, _ => h.elim
  | .un :: _, _, _, _, h, _, _, _, _ => h.elim
  | .ow none _ :: _, [], _, _, h, _, _, _, _ => h.elim
  | .ow none _ :: _, _ :: _, [], _, h, _, _, _, _ => h.elim
  | .ow (some _) _ :: _, _, _, _, h, _, _, _, _ => h.elim
theorem init_low {Hs H : Hp} : ∀ {as : List Slt} {vs : List V} {ps : List Addr} {k : Nat}, AOk K sc Hs H as vs ps → ∀ (i n : Nat) (o : Ob), (initE k as)[i]? = some (.ow (some n) o) → k ≤ n
  | [], [], [], _, _, i, n, o, h => by simp [initE] at h
  | .fz d :: as, v :: vs, ps, k, a, i, n, o, h => by
    cases i with
    | zero => simp [initE] at h
    | succ i => exact init_low a.2 i n o (by simpa [initE] using h)
  | .ow none u :: as, v :: vs, p :: ps, k, a, i, n, o, h => by
    cases i with
    | zero => simp [initE] at h; omega
    | succ i => have := init_low (k := k + 1) a.2.2.2 i n o (by simpa [initE] using h); omega
  | [], [], _ :: _, _, h, _, _, _, _ => h.elim
  | [], _ :: _, _, _, h, _, _, _, _ => h.elim
  | .fz _ :: _, [], _, _, h, _, _, _, _ => h.elim
  | .un :: _, _, _, _, h, _, _, _, _ => h.elim
  | .ow none _ :: _, [], _, _, h, _, _, _, _ => h.elim
  | .ow none _ :: _, _ :: _, [], _, h, _, _, _, _ => h.elim
  | .ow (some _) _ :: _, _, _, _, h, _, _, _, _ => h.elim
theorem init_uniq {Hs H : Hp} : ∀ {as : List Slt} {vs : List V} {ps : List Addr} {k : Nat}, AOk K sc Hs H as vs ps → ∀ (i i' n : Nat) (o o' : Ob), (initE k as)[i]? = some (.ow (some n) o) → (initE k as)[i']? = some (.ow (some n) o') → i = i'
  | [], [], [], _, _, i, i', n, o, o', h, _ => by simp [initE] at h
  | .fz d :: as, v :: vs, ps, k, a, i, i', n, o, o', h, h' => by
    cases i with
    | zero => simp [initE] at h
    | succ i =>
      cases i' with
      | zero => simp [initE] at h'
      | succ i' => rw [init_uniq a.2 i i' n o o' (by simpa [initE] using h) (by simpa [initE] using h')]
  | .ow none u :: as, v :: vs, p :: ps, k, a, i, i', n, o, o', h, h' => by
    cases i with
    | zero =>
      cases i' with
      | zero => rfl
      | succ i' =>
        simp [initE] at h
        have := init_low (k := k + 1) a.2.2.2 i' n o' (by simpa [initE] using h')
        omega
    | succ i =>
      cases i' with
      | zero =>
        simp [initE] at h'
        have := init_low (k := k + 1) a.2.2.2 i n o (by simpa [initE] using h)
        omega
      | succ i' => rw [init_uniq (k := k + 1) a.2.2.2 i i' n o o' (by simpa [initE] using h) (by simpa [initE] using h')]
  | [], [], _ :: _, _, h, _, _, _, _, _, _, _ => h.elim
  | [], _ :: _, _, _, h, _, _, _, _, _, _, _ => h.elim
  | .fz _ :: _, [], _, _, h, _, _, _, _, _, _, _ => h.elim
  | .un :: _, _, _, _, h, _, _, _, _, _, _, _ => h.elim
  | .ow none _ :: _, [], _, _, h, _, _, _, _, _, _, _ => h.elim
  | .ow none _ :: _, _ :: _, [], _, h, _, _, _, _, _, _, _ => h.elim
  | .ow (some _) _ :: _, _, _, _, h, _, _, _, _, _, _, _ => h.elim
theorem aok_some : ∀ {as : List Slt} {vs : List V} {ps : List Addr} {Hs H : Hp}, AOk K sc Hs H as vs ps → ∀ p, p ∈ ps → H p ≠ none
  | [], [], [], _, _, _, _, h => by cases h
  | .fz _ :: _, _ :: _, _, _, _, h, p, hp => aok_some h.2 p hp
  | .ow none _ :: _, _ :: _, q :: _, _, _, h, p, hp => by
    rcases List.mem_cons.mp hp with rfl | hp
    · exact h.2.2.1.some
    · exact aok_some h.2.2.2 p hp
  | [], [], _ :: _, _, _, h, _, _ => h.elim
  | [], _ :: _, _, _, _, h, _, _ => h.elim
  | .fz _ :: _, [], _, _, _, h, _, _ => h.elim
  | .un :: _, _, _, _, _, h, _, _ => h.elim
  | .ow none _ :: _, [], _, _, _, h, _, _ => h.elim
  | .ow none _ :: _, _ :: _, [], _, _, h, _, _ => h.elim
  | .ow (some _) _ :: _, _, _, _, _, h, _, _ => h.elim
/-- the lists that were handed over, at the end -/
theorem outs_ok {C : Cc} {Z Hs H : Hp} {σ : L2.St} {e : Loc} (k : StOk C Z Hs e σ H) : ∀ {as : List Slt} {vs : List V} {ps : List Addr} {n : Nat} {e' : Loc} {os : List Ob} {Hs0 H0 : Hp}, AOk C.K C.sc Hs0 H0 as vs ps → (∀ m p, ps[m]? = some p → C.P[n + m]? = some p) →
    (∀ (i : Nat) (s : Slt), e'[i]? = some s → ∃ i' : Nat, e[i']? = some s) → outsE n as e' = some os → OOk C.K C.sc Hs H ps os
  | [], [], [], _, _, os, _, _, _, _, _, h => by cases h; trivial
  | .fz d :: as, v :: vs, ps, n, e', os, _, _, a, hP, he, h => by
    cases e' with
    | nil => cases h
    | cons s e' => exact outs_ok k a.2 hP (fun i s' hs => he (i + 1) s' (by simpa using hs)) h
  | .ow none o :: as, v :: vs, p :: ps, n, e', os, _, _, a, hP, he, h => by
    cases e' with
    | nil => cases h
    | cons s e' =>
      cases s with
      | un => cases h
      | fz d => cases h
      | ow j u =>
        cases j with
        | none => cases h
        | some n' =>
          unfold outsE at h
          split at h
          · rename_i hn
            subst hn
            obtain ⟨os', h', rfl⟩ := Option.map_eq_some_iff.mp h
            obtain ⟨i', hi'⟩ := he 0 _ rfl
            obtain ⟨q, e1, e2, e3, e4⟩ := k.own hi'
            have e4 : C.P[n]? = some q := e4
            have e5 := hP 0 p rfl
            rw [Nat.add_zero, e4] at e5
            cases e5
            exact ⟨e3, outs_ok k a.2.2.2 (fun m r hr => by have := hP (m + 1) r (by simpa using hr); rw [show n + 1 + m = n + (m + 1) by omega]; exact this) (fun i s' hs => he (i + 1) s' (by simpa using hs)) h'⟩
          · cases h
  | [], [], _ :: _, _, _, _, _, _, h, _, _, _ => h.elim
  | [], _ :: _, _, _, _, _, _, _, h, _, _, _ => h.elim
  | .fz _ :: _, [], _, _, _, _, _, _, h, _, _, _ => h.elim
  | .un :: _, _, _, _, _, _, _, _, h, _, _, _ => h.elim
  | .ow none _ :: _, [], _, _, _, _, _, _, h, _, _, _ => h.elim
  | .ow none _ :: _, _ :: _, [], _, _, _, _, _, h, _, _, _ => h.elim
  | .ow (some _) _ :: _, _, _, _, _, _, _, _, h, _, _, _ => h.elim
theorem fn_redS {sc : Sc} {F : Fn} {np nl : Nat} {A : List Nat} {t : TS} {m : MS} {N : List Str} (hF : F = mkFn np nl m) (hN : N.length = np + nl) {vs : List V} {H : Hp} {Q : VK} {E : XK} (hlen : vs.length = np) (hsp : ∃ Hs as ps, Le Hs H ∧ AOk K sc Hs H as vs ps ∧ ps.Nodup ∧ FW K sc RE Hs H ps Q E (F as))
    (h : ∀ Hs ps, SS ⟨K, sc, H, ps, Hs, fun c od _ H => E c od H, RE⟩ A t m) : t { nx := fun _ H' => Q .non H', rt := Q } (start N vs) H := by
  obtain ⟨Hs, as, ps, hle, a, hnd, fw⟩ := hsp
  rw [hF] at fw
  unfold mkFn at fw
  split at fw
  · rename_i hc
    have hal : as.length = np := hc.1
    have e0 : ∀ m p, ps[m]? = some p → ps[0 + m]? = some p := fun m p q => by rw [Nat.zero_add]; exact q
    have sl : ∀ (i : Nat) s, (initE 0 as ++ List.replicate nl .un)[i]? = some s → s = .un ∨ (i < as.length ∧ (initE 0 as)[i]? = some s) := fun i s hs => by
      by_cases hi : i < (initE 0 as).length
      · rw [List.getElem?_append_left hi] at hs
        exact .inr ⟨by rw [initE_len] at hi; exact hi, hs⟩
      · rw [List.getElem?_append_right (by omega), List.getElem?_replicate] at hs
        split at hs
        · exact .inl (Option.some.inj hs).symm
        · cases hs
    have st : ∀ (i : Nat) v, vs[i]? = some v → (start N vs)[i]? = some (some v) := fun i v hv => by
      unfold start
      have hi : i < vs.length := (List.getElem?_eq_some_iff.mp hv).1
      rw [List.getElem?_append_left (by simpa using hi), List.getElem?_map, hv]
      rfl
    have k : StOk ⟨K, sc, H, ps, Hs, fun c od _ H => E c od H, RE⟩ (fun _ => none) Hs (initE 0 as ++ List.replicate nl .un) (start N vs) H := by
      refine ⟨?_, hle, fun i s hs => ?_, fun i i' j j' o o' p h1 h2 h3 h4 => ?_, fun _ _ q _ => q, fun _ q => q, fun _ q => .inl q, aok_some a, fun _ _ q => ?_, fun _ _ _ _ _ _ => rfl⟩
      · unfold start
        rw [List.length_append, List.length_append, List.length_map, List.length_replicate, List.length_replicate, initE_len, hal, hlen, hN]
        omega
      · rcases sl i s hs with rfl | ⟨hi, hs⟩
        · trivial
        · rcases init_slot a e0 i s hs with ⟨d, v, rfl, hv, r⟩ | ⟨n, o, p, rfl, hv, c1, c2, c3, _⟩
          · exact ⟨v, st i v hv, r⟩
          · exact ⟨p, st i _ hv, c1, c2, c3⟩
      · have get : ∀ {i : Nat} {j o}, (initE 0 as ++ List.replicate nl .un)[i]? = some (Slt.ow j o) → (start N vs)[i]? = some (some (.ref p)) → ∃ n, (initE 0 as)[i]? = some (.ow (some n) o) ∧ ps[n]? = some p := fun {i j o} h h' => by
          rcases sl i _ h with z | ⟨hi, hs⟩
          · cases z
          · rcases init_slot a e0 i _ hs with ⟨d, v, z, _⟩ | ⟨n, o2, p2, z, hv, c1, c2, c3, _⟩
            · cases z
            · cases z
              have := st i _ hv
              rw [h'] at this
              cases this
              exact ⟨n, hs, c3⟩
        obtain ⟨n, g1, g2⟩ := get h1 h3
        obtain ⟨n', g3, g4⟩ := get h2 h4
        have en : n = n' := by
          have l1 := (List.getElem?_eq_some_iff.mp g2).1
          exact (List.getElem?_inj l1 hnd).mp (g2.trans g4.symm)
        subst en
        exact init_uniq a i i' n o o' g1 g3
      · exact absurd q (fun z => nomatch z)
    have fin : ∀ {Hs' : Hp} {σ' : L2.St} {H' : Hp} {e' : Loc} {os : List Ob}, StOk ⟨K, sc, H, ps, Hs, fun c od _ H => E c od H, RE⟩ (fun _ => none) Hs' e' σ' H' → Post Hs H Hs' H' → outsE 0 as e' = some os → FPost Hs H ps Hs' H' ∧ OOk K sc Hs' H' ps os := fun {Hs' σ' H' e' os} k' p' ho =>
      ⟨⟨p'.le, k'.le, k'.frame, p'.dom, k'.news⟩, outs_ok (C := ⟨K, sc, H, ps, Hs, fun c od _ H => E c od H, RE⟩) k' a e0 (fun i s hs => ⟨i, hs⟩) ho⟩
    refine h Hs ps _ Hs _ _ H k _ ?_
    cases q : m (initE 0 as ++ List.replicate nl .un) with
    | nx e' =>
      intro Hs' σ' H' p' k' _
      rw [q] at fw
      cases ho : outsE 0 as e' with
      | none => simp only [ho] at fw; exact fw.elim
      | some os =>
        simp only [ho] at fw
        obtain ⟨f1, f2⟩ := fin k' p' ho
        exact fw _ Hs' H' f1 f2 (by show Rep K sc Hs' .non _; simp only [Rep])
    | rt s e' =>
      intro v Hs' σ' H' p' k' ro
      rw [q] at fw
      cases ho : outsE 0 as e' with
      | none => simp only [ho] at fw; exact fw.elim
      | some os =>
        simp only [ho] at fw
        obtain ⟨f1, f2⟩ := fin k' p' ho
        refine fw v Hs' H' f1 f2 ?_
        cases s with
        | un => exact ro.elim
        | fz d => exact ro
        | ow j o =>
          cases j with
          | some n => exact ro.elim
          | none => exact ro
    | er x e' =>
      intro Hs' σ' H' c od p' k' re
      rw [q] at fw
      cases ho : outsE 0 as e' with
      | none => simp only [ho] at fw; exact fw.elim
      | some os =>
        simp only [ho] at fw
        obtain ⟨f1, f2⟩ := fin k' p' ho
        exact fw Hs' H' c od f1 f2 re
    | bk e' => rw [q] at fw; exact fw.elim
    | ct e' => rw [q] at fw; exact fw.elim
    | ud => rw [q] at fw; exact fw.elim
  · exact fw.elim
theorem fn_red {F : Fn} {np nl : Nat} {A : List Nat} {t : TS} {m : MS} {N : List Str} (hF : F = mkFn np nl m) (hN : N.length = np + nl) {vs : List V} {H : Hp} {Q : VK} {E : XK} (hsp : spM P w K RE F vs H Q E)
    (h : ∀ sc Hs ps, SS ⟨K, scOf sc P w, H, ps, Hs, fun c od _ H => E c od H, RE⟩ A t m) : t { nx := fun _ H' => Q .non H', rt := Q } (start N vs) H := by
  have hlen := spM_len hF hsp
  obtain ⟨sc, hsp⟩ := hsp
  exact fn_redS hF hN hlen hsp (h sc)
end
end Ml

set_option linter.all false
set_option maxRecDepth 100000
set_option maxHeartbeats 1000000
/-! The operations on data, each with its rule. -/
namespace L2
open PySem PySem.Spec PyProof.Rows
/-- xs[i] by values, for xs[i] op= e -/
theorem get_list {X : Cx} : PGet X (rIxL X.K) := by
  intro pins s σ H x y v u Q I rx ry h
  obtain ⟨p, xs, i, z, rfl, rfl, hq, he, q⟩ := h
  cases rx
  obtain ⟨t, rfl⟩ := ry
  obtain ⟨its, r, pl, hz⟩ := I.list hq
  obtain ⟨j, h1, h2, h3, h4, h5⟩ := atI_get he
  obtain ⟨w, ew, rw'⟩ := r.get h2
  have hl := r.length
  have hn := line63
  have fin : EP X pins σ Q w s := ⟨z, H, I, rw', q⟩
  by_cases h0 : 0 ≤ i
  · have hj : i.toNat = j := by
      rw [seqIndex_of h0 h5] at h1
      exact Option.some.inj h1
    exact wpAny_getItem_list pl.isList h0 (by omega) (by rw [hj]; simpa using ew) fin
  · have hj : (i + (its.toArray.size : Int)).toNat = j := by
      rw [seqIndex_neg (by omega) h4] at h1
      rw [List.size_toArray, ← hl]
      exact Option.some.inj h1
    exact wpAny_getItem_list_neg pl.isList (by omega) (by rw [List.size_toArray] <;> omega) (by omega) (by rw [hj]; simpa using ew) fin
/-- a text, some times -/
theorem op_mul_str {X : Cx} : OpR X (binaryOp .Mult) (fun x y H Q => ∃ a k, x = .str a ∧ y = .int k ∧ k.natAbs < 2 ^ 60 ∧ a.length * k.toNat ≤ 16000000 ∧ Q (.str ⟨(List.replicate k.toNat a.cps.toList).flatten.toArray⟩) H) := by
  intro pins s σ H x y v u Q I rx ry h
  obtain ⟨a, k, rfl, rfl, hk, hl, q⟩ := h
  obtain ⟨t, rfl⟩ := rx
  obtain ⟨t', rfl⟩ := ry
  have hk1 : ¬ k < -(2 ^ 63 : Int) := by omega
  have hk2 : ¬ k ≥ 2 ^ 63 := by omega
  have foldE : ∀ (n : Nat) (c : Array Nat) (acc : Array Nat), (List.replicate n c).foldl (· ++ ·) acc = acc ++ ((List.replicate n c.toList).flatten).toArray := by
    intro n
    induction n with
    | zero => intro c acc; simp
    | succ n ih => intro c acc; rw [List.replicate_succ, List.foldl_cons, ih, List.replicate_succ, List.flatten_cons]; apply Array.ext'; simp
  refine PySem.P.mul_str (by rw [decide_eq_false hk1, decide_eq_false hk2]; rfl) (fun h1 _ => ?_) (fun h1 h2 => ?_) ?_
  · have hk3 : 1 ≤ k := by omega
    obtain ⟨n, rfl⟩ := Int.eq_ofNat_of_zero_le (show 0 ≤ k by omega)
    have h5 : a.length * n ≤ 16000000 := hl
    intro hgt
    have h6 : ((2 ^ 63 - 1 : Int)) / (n : Int) ≥ (a.length : Int) := by
      apply (Int.le_ediv_iff_mul_le (by omega)).mpr
      rw [← Int.natCast_mul]
      generalize a.length * n = m at h5 ⊢
      omega
    omega
  · unfold Builtin.Str.tooLong
    rw [decide_eq_false_iff_not]
    have : sizeLine = 16777216 := rfl
    omega
  · by_cases h1 : k < 1
    · rw [if_pos h1]
      have e : k.toNat = 0 := by omega
      rw [e] at q
      exact ⟨by decide, ⟨.str Str.empty, H, I.tok _, ⟨_, rfl⟩, q⟩⟩
    · rw [if_neg h1]
      by_cases h2 : (k == 1 || a.length == 0) = true
      · rw [if_pos h2]
        have e : (⟨(List.replicate k.toNat a.cps.toList).flatten.toArray⟩ : Str) = a := by
          refine TL.ext_tl ?_
          show (List.replicate k.toNat a.cps.toList).flatten = a.cps.toList
          rcases (Bool.or_eq_true _ _).mp h2 with z | z
          · have z : k = 1 := by simpa using z
            subst z; simp
          · have z : a.cps.toList = [] := by
              have : a.cps.toList.length = 0 := by simpa [Str.length] using z
              exact List.eq_nil_of_length_eq_zero this
            rw [z]; simp
        rw [e] at q
        exact ⟨.str a, H, I, ⟨_, rfl⟩, q⟩
      · rw [if_neg h2]
        refine ⟨?_, ⟨.str _, H, I.tok _, ⟨_, rfl⟩, ?_⟩⟩
        · have e := foldE k.toNat a.cps #[]
          show ((⟨(List.replicate k.toNat a.cps).foldl (· ++ ·) #[]⟩ : Str)).length ≤ sizeLine
          rw [e]
          simp only [Str.length, Array.empty_append, List.size_toArray, List.length_flatten, List.map_replicate, List.sum_replicate_nat, Array.length_toList]
          have : a.length = a.cps.size := rfl
          rw [← this, Nat.mul_comm]
          exact Nat.le_trans hl (by decide)
        · rw [foldE k.toNat a.cps #[]]
          simpa using q
/-- list(a text) -/
theorem call_listS {X : Cx} (hc : X.calm = true) : CallR X (.type "list") (fun xs H Q => ∃ z : Str, xs = [.str z] ∧ z.length ≤ sizeLine ∧ ∀ l, H l = none → Q (.ref l) (upd H l (.lst (z.cps.toList.map fun c => V.str ⟨#[c]⟩)))) := by
  intro pins s σ H xs us Q I r h
  obtain ⟨z, rfl, hz, q⟩ := h
  obtain ⟨u, rfl, t, rfl⟩ := vals1 r
  refine call_list_str (I.ok.hd hc) z t (fun h' tk acc' c' kp e it => ?_) hz
  have hl : acc'.size = z.cps.size := it.1
  have vr : ∀ (l : List Nat) (m : List Value), l.length = m.length → (∀ (j : Nat) w, m[j]? = some w → ∃ c u, l[j]? = some c ∧ w = .str ⟨#[c]⟩ u) → Vals (l.map fun c => V.str ⟨#[c]⟩) m := by
    intro l
    induction l with
    | nil => intro m h _; cases m with
      | nil => exact .nil
      | cons _ _ => cases h
    | cons c l ih =>
      intro m h g
      cases m with
      | nil => cases h
      | cons w m =>
        obtain ⟨c', u, e1, e2⟩ := g 0 w rfl
        cases e1
        exact .cons ⟨u, e2⟩ (ih m (by simpa using h) fun j w' hw => g (j + 1) w' (by simpa using hw))
  have rv : Vals (z.cps.toList.map fun c => V.str ⟨#[c]⟩) acc'.toList := vr _ _ (by simp [hl]) fun j w hw => by
    obtain ⟨c, u, e1, e2⟩ := it.2 j w (by simpa using hw)
    exact ⟨c, u, by simpa using e1, e2⟩
  refine ⟨.ref s.heap.objs.size, _, I.laid (t' := tk) kp (Nat.le_refl _) (show ObjOk X.prog X.w _ h' _ (.lst _) from ⟨by simpa [Str.length] using hz, acc'.toList, c', rv, by simpa using e⟩), rfl, q _ (I.hok.fresh (Nat.le_refl _))⟩
end L2
namespace Ml
open L2
open PySem (Addr Str sizeLine)
section
variable {C : Cc} {K : PySem.W.Frag}

/-! ### ints -/
theorem rv_int {C1 : Int → Int → Prop} {g : Int → Int → V} {f : Dv → Dv → Option Dv} (h : ∀ a b c, f a b = some c → ∃ i j, a = .int i ∧ b = .int j ∧ C1 i j ∧ ∀ Hs, Rep C.K C.sc Hs c (g i j)) : RV C (L2.rI C1 g) f := fun Z Hs e σ H k x y a b c Q ra rb hf w => by
  obtain ⟨i, j, rfl, rfl, hc, hr⟩ := h a b c hf
  simp only [Rep] at ra rb
  subst ra; subst rb
  exact ⟨i, j, rfl, rfl, hc, we_ok w k (hr Hs)⟩
theorem rv_int0 {g : Int → Int → V} {f : Dv → Dv → Option Dv} (h : ∀ a b c, f a b = some c → ∃ i j, a = .int i ∧ b = .int j ∧ ∀ Hs, Rep C.K C.sc Hs c (g i j)) : RV C (rI0 g) f := fun Z Hs e σ H k x y a b c Q ra rb hf w => by
  obtain ⟨i, j, rfl, rfl, hr⟩ := h a b c hf
  simp only [Rep] at ra rb
  subst ra; subst rb
  exact ⟨i, j, rfl, rfl, we_ok w k (hr Hs)⟩
theorem rv_or {r r' : L2.R2} {f f' g : Dv → Dv → Option Dv} (h : RV C r f) (h' : RV C r' f') (hg : ∀ a b c, g a b = some c → f a b = some c ∨ f' a b = some c) : RV C (fun x y H Q => r x y H Q ∨ r' x y H Q) g := fun Z Hs e σ H k x y a b c Q ra rb hf w => by
  rcases hg a b c hf with z | z
  · exact .inl (h Z Hs e σ H k x y a b c Q ra rb z w)
  · exact .inr (h' Z Hs e σ H k x y a b c Q ra rb z w)
theorem rv_addI : RV C (rI0 fun i j => .int (i + j)) (fun a b => match a, b with | .int a, .int b => some (.int (a + b)) | _, _ => none) := rv_int0 fun a b c h => by
  split at h
  · cases h; exact ⟨_, _, rfl, rfl, fun _ => by simp only [Rep]⟩
  · cases h
theorem rv_addS : RV C (fun x y H Q => ∃ i j, x = .str i ∧ y = .str j ∧ i.length + j.length ≤ sizeLine ∧ Q (.str (i ++ j)) H) (fun a b => match a, b with | .str a, .str b => if a.length + b.length ≤ lim then some (.str (a ++ b)) else none | _, _ => none) := fun Z Hs e σ H k x y a b c Q ra rb hf w => by
  dsimp only at hf
  split at hf
  · split at hf
    · rename_i hl
      cases hf
      simp only [Rep] at ra rb
      subst ra; subst rb
      refine ⟨_, _, rfl, rfl, by rw [slen, slen]; exact lim_line hl, ?_⟩
      rw [sapp]
      exact we_ok w k (by simp only [rD, Rep])
    · cases hf
  · cases hf
theorem rv_add : RV C (fun x y H Q => (rI0 fun i j => .int (i + j)) x y H Q ∨ (fun x y H Q => ∃ i j, x = .str i ∧ y = .str j ∧ i.length + j.length ≤ sizeLine ∧ Q (.str (i ++ j)) H) x y H Q) oAdd := rv_or rv_addI rv_addS fun a b c h => by
  unfold oAdd at h
  split at h
  · exact .inl h
  · exact .inr h
  · cases h
theorem rv_sub : RV C (rI0 fun i j => .int (i - j)) oSub := rv_int0 fun a b c h => by
  unfold oSub at h; split at h
  · cases h; exact ⟨_, _, rfl, rfl, fun _ => by simp only [Rep]⟩
  · cases h
theorem rv_mul : RV C (L2.rI CMul fun i j => .int (i * j)) oMul := rv_int fun a b c h => by
  unfold oMul at h; split at h
  · split at h
    · rename_i i j hc
      cases h
      refine ⟨i, j, rfl, rfl, ?_, fun _ => by simp only [Rep]⟩
      unfold CMul
      rcases hc with hc | hc
      · left; omega
      · right; omega
    · cases h
  · cases h
theorem rv_mulS : RV C (fun x y H Q => ∃ a k, x = .str a ∧ y = .int k ∧ k.natAbs < 2 ^ 60 ∧ a.length * k.toNat ≤ 16000000 ∧ Q (.str ⟨(List.replicate k.toNat a.cps.toList).flatten.toArray⟩) H) oRepS := fun Z Hs e σ H k x y a b c Q ra rb hf w => by
  unfold oRepS at hf
  split at hf
  · split at hf
    · rename_i hl
      cases hf
      simp only [Rep] at ra rb
      subst ra; subst rb
      refine ⟨_, _, rfl, rfl, hl.2, by rw [slen]; exact hl.1, ?_⟩
      exact we_ok w k (by simp only [rD, Rep])
    · cases hf
  · cases hf
theorem rv_div : RV C (L2.rI CDivN fun i j => .int (i.fdiv j)) oDiv := rv_int fun a b c h => by
  unfold oDiv at h; split at h
  · split at h
    · rename_i i j hc
      cases h
      exact ⟨i, j, rfl, rfl, hc, fun _ => by simp only [Rep]⟩
    · cases h
  · cases h
theorem rv_mod : RV C (L2.rI (fun _ j => j ≠ 0) fun i j => .int (i.fmod j)) oMod := rv_int fun a b c h => by
  unfold oMod at h; split at h
  · split at h
    · rename_i i j hc
      cases h
      exact ⟨i, j, rfl, rfl, hc, fun _ => by simp only [Rep]⟩
    · cases h
  · cases h
theorem pw_ok {i j : Int} (h : 0 ≤ j ∧ j ≤ 1000000 ∧ i.natAbs < 2 ^ 62) : CPow i j := ⟨h.1, h.2.1, Nat.lt_of_lt_of_le h.2.2 (by decide)⟩
theorem rv_pow : RV C (L2.rI CPow fun i j => .int (i ^ j.toNat)) oPow := rv_int fun a b c h => by
  unfold oPow at h; split at h
  · split at h
    · rename_i i j hc
      cases h
      exact ⟨i, j, rfl, rfl, pw_ok hc, fun _ => by simp only [Rep]⟩
    · cases h
  · cases h
theorem rv_shl : RV C (L2.rI CPow fun i j => .int (i * 2 ^ j.toNat)) oShl := rv_int fun a b c h => by
  unfold oShl at h; split at h
  · split at h
    · rename_i i j hc
      cases h
      exact ⟨i, j, rfl, rfl, pw_ok hc, fun _ => by simp only [Rep]⟩
    · cases h
  · cases h
theorem rv_lt : RV C (rI0 fun i j => .bl (decide (i < j))) oLt := rv_int0 fun a b c h => by
  unfold oLt at h; split at h
  · cases h; exact ⟨_, _, rfl, rfl, fun _ => by simp only [Rep]⟩
  · cases h
theorem rv_le : RV C (rI0 fun i j => .bl (decide (i ≤ j))) oLe := rv_int0 fun a b c h => by
  unfold oLe at h; split at h
  · cases h; exact ⟨_, _, rfl, rfl, fun _ => by simp only [Rep]⟩
  · cases h
theorem rv_gt : RV C (rI0 fun i j => .bl (decide (j < i))) oGt := rv_int0 fun a b c h => by
  unfold oGt at h; split at h
  · cases h; exact ⟨_, _, rfl, rfl, fun _ => by simp only [Rep]⟩
  · cases h
theorem rv_ge : RV C (rI0 fun i j => .bl (decide (j ≤ i))) oGe := rv_int0 fun a b c h => by
  unfold oGe at h; split at h
  · cases h; exact ⟨_, _, rfl, rfl, fun _ => by simp only [Rep]⟩
  · cases h
theorem r1_neg : R1 C (rU fun i => .int (-i)) oNeg := fun Z Hs e σ H k x a c Q ra hf w => by
  unfold oNeg at hf; split at hf
  · cases hf
    simp only [Rep] at ra; subst ra
    exact ⟨_, rfl, we_ok w k (by simp only [rD, Rep])⟩
  · cases hf

/-! ### ==, in -/
theorem sOf_inj {a b : List Nat} : (sOf a = sOf b) = (a = b) := by
  apply propext
  constructor
  · intro h
    have := congrArg (fun z : Str => z.cps.toList) h
    simpa using this
  · rintro rfl; rfl
theorem eqS_ok {Hs : Hp} {a b : Dv} {x y : V} {r : Bool} (h : eqS a b = some r) (ra : Rep C.K C.sc Hs a x) (rb : Rep C.K C.sc Hs b y) : scal x y = true ∧ r = decide (x = y) := by
  unfold eqS at h
  split at h <;> (try cases h) <;> (simp only [Rep] at ra rb; subst ra; subst rb) <;> first
    | exact ⟨rfl, by simp⟩
    | (refine ⟨rfl, ?_⟩; simp only [V.str.injEq, sOf_inj])
theorem rv_eq : RV C rEq oEq := fun Z Hs e σ H k x y a b c Q ra rb hf w => by
  obtain ⟨r, hr, rfl⟩ := Option.map_eq_some_iff.mp hf
  obtain ⟨h1, rfl⟩ := eqS_ok hr ra rb
  exact ⟨h1, we_ok w k (by simp only [rD, Rep])⟩
theorem rv_ne : RV C rNe oNe := fun Z Hs e σ H k x y a b c Q ra rb hf w => by
  obtain ⟨r, hr, rfl⟩ := Option.map_eq_some_iff.mp hf
  obtain ⟨h1, rfl⟩ := eqS_ok hr ra rb
  exact ⟨h1, we_ok w k (by simp only [rD, Rep])⟩
theorem rv_inS : RV C (fun x y H Q => ∃ (c : Nat) (z : Str), x = .str ⟨#[c]⟩ ∧ y = .str z ∧ Q (.bl (decide (c ∈ z.cps.toList))) H) oInS := fun Z Hs e σ H k x y a b c Q ra rb hf w => by
  unfold oInS at hf; split at hf
  · cases hf
    simp only [Rep] at ra rb; subst ra; subst rb
    exact ⟨_, _, rfl, rfl, we_ok w k (by simp only [rD, Rep])⟩
  · cases hf
theorem rv_niS : RV C (fun x y H Q => ∃ (c : Nat) (z : Str), x = .str ⟨#[c]⟩ ∧ y = .str z ∧ Q (.bl (!decide (c ∈ z.cps.toList))) H) oNiS := fun Z Hs e σ H k x y a b c Q ra rb hf w => by
  unfold oNiS at hf; split at hf
  · cases hf
    simp only [Rep] at ra rb; subst ra; subst rb
    exact ⟨_, _, rfl, rfl, we_ok w k (by simp only [rD, Rep])⟩
  · cases hf

/-! ### places -/
theorem getI_eq {α : Type} (xs : List α) (k : Int) : getI xs k = atI xs k := rfl
theorem getI_map {α β : Type} (f : α → β) (xs : List α) (k : Int) : getI (xs.map f) k = (getI xs k).map f := by
  unfold getI
  rw [List.length_map]
  cases ixn xs.length k with
  | none => rfl
  | some n => simp
theorem rv_ixL (hK : C.K = K) : RV C (rIxL K) oIxL := fun Z Hs e σ H k x y a b c Q ra rb hf w => by
  subst hK
  unfold oIxL at hf; split at hf
  · simp only [Rep] at ra rb; subst rb
    obtain ⟨p, xs, rfl, hx, rx⟩ := ra
    obtain ⟨v, e1, e2⟩ := getI_at hf rx
    exact ⟨p, xs, _, v, rfl, rfl, SqL.of (k.le _ _ hx), e1, we_ok w k e2⟩
  · simp only [Rep] at ra rb; subst rb
    obtain ⟨rfl, hx⟩ := ra
    obtain ⟨n, hn, rfl⟩ := Option.map_eq_some_iff.mp hf
    refine ⟨_, _, _, .int n, rfl, rfl, SqL.of (k.le _ _ hx), ?_, we_ok w k (by simp only [rD, Rep])⟩
    rw [← getI_eq, getI_map, hn]; rfl
  · cases hf
theorem rw_ix (hK : C.K = K) : RW C (rIxL K) wIx := fun Z Hs e σ H k p xs ds y b c Q hx rx rb hf w => by
  subst hK
  unfold wIx at hf; split at hf
  · simp only [Rep] at rb; subst rb
    obtain ⟨v, e1, e2⟩ := getI_at hf rx
    exact ⟨p, xs, _, v, rfl, rfl, SqL.of hx, e1, we_ok w k e2⟩
  · cases hf
theorem rv_ixT (hK : C.K = K) : RV C (rIxT K) oIxT := fun Z Hs e σ H k x y a b c Q ra rb hf w => by
  subst hK
  unfold oIxT at hf; split at hf
  · simp only [Rep] at ra rb; subst rb
    obtain ⟨p, xs, rfl, hx, rx⟩ := ra
    obtain ⟨v, e1, e2⟩ := getI_at hf rx
    exact ⟨p, xs, _, v, rfl, rfl, sqt_le k.le hx.sq, e1, we_ok w k e2⟩
  · cases hf
theorem rv_ixS : RV C rIxS oIxS := fun Z Hs e σ H k x y a b c Q ra rb hf w => by
  unfold oIxS at hf; split at hf
  · split at hf
    · rename_i s n hl
      obtain ⟨c', hc, rfl⟩ := Option.map_eq_some_iff.mp hf
      simp only [Rep] at ra rb; subst ra; subst rb
      exact ⟨_, n, c', rfl, rfl, by rw [slen]; exact lim_line hl, by rw [← getI_eq]; simpa using hc, we_ok w k (by simp only [rD, Rep])⟩
    · cases hf
  · cases hf
theorem rv_ix (hK : C.K = K) : RV C (rIx K) oIx := rv_or (rv_ixL hK) (rv_or (g := fun a b => match oIxT a b with | some c => some c | none => oIxS a b) (rv_ixT hK) rv_ixS fun a b c h => by
    cases q : oIxT a b with
    | some d => simp only [q] at h; exact .inl h
    | none => simp only [q] at h; exact .inr h) fun a b c h => by
  unfold oIx at h
  split at h
  · exact .inl h
  · refine .inr ?_
    show (match getI _ _ with | some c => some c | none => none) = some c
    rw [h]
  · exact .inl h
  · exact .inr h
  · cases h
theorem r1_len (hK : C.K = K) : RC1 C (fun xs H Q => ∃ x' n, xs = [x'] ∧ LenV K x' H n ∧ Q (.int n) H) oLen := fun Z Hs e σ H k x a c Q ra hf w => by
  subst hK
  refine ⟨x, ?_⟩
  unfold oLen at hf; split at hf
  · split at hf
    · rename_i s hl
      cases hf
      simp only [Rep] at ra; subst ra
      exact ⟨s.length, rfl, ⟨by rw [slen]; exact lim_line hl, by rw [slen]⟩, we_ok w k (by simp only [rD, Rep])⟩
    · cases hf
  · cases hf
    simp only [Rep] at ra
    obtain ⟨p, xs, rfl, hx, rx⟩ := ra
    exact ⟨_, rfl, .inl ⟨xs, SqL.of (k.le _ _ hx), (reps_len rx).symm⟩, we_ok w k (by simp only [rD, Rep])⟩
  · cases hf
    simp only [Rep] at ra
    obtain ⟨p, xs, rfl, hx, rx⟩ := ra
    exact ⟨_, rfl, .inr ⟨xs, sqt_le k.le hx.sq, (reps_len rx).symm⟩, we_ok w k (by simp only [rD, Rep])⟩
  · rename_i ns'
    cases hf
    simp only [Rep] at ra
    obtain ⟨rfl, hx⟩ := ra
    exact ⟨ns'.length, rfl, .inl ⟨_, SqL.of (k.le _ _ hx), by simp⟩, we_ok w k (by simp only [rD, Rep])⟩
  · cases hf
theorem rw_len (hK : C.K = K) : RCW C (fun xs H Q => ∃ x' n, xs = [x'] ∧ LenV K x' H n ∧ Q (.int n) H) wLen := fun Z Hs e σ H k p xs ds c Q hx rx hf w => by
  subst hK
  cases hf
  exact ⟨_, _, rfl, .inl ⟨xs, SqL.of hx, (reps_len rx).symm⟩, we_ok w k (by simp only [rD, Rep])⟩

/-! ### calls of what is built in -/
theorem r1_abs : RC1 C (fun xs H Q => ∃ i, xs = [V.int i] ∧ Q (.int (if i < 0 then -i else i)) H) oAbs := fun Z Hs e σ H k x a c Q ra hf w => by
  unfold oAbs at hf; split at hf
  · cases hf
    simp only [Rep] at ra; subst ra
    exact ⟨_, rfl, we_ok w k (by simp only [rD, Rep])⟩
  · cases hf
theorem r1_int : RC1 C (fun xs H Q => (∃ i, xs = [V.int i] ∧ Q (.int i) H) ∨ ∃ k, xs = [V.bl k] ∧ Q (.int (if k then 1 else 0)) H) oInt := fun Z Hs e σ H k x a c Q ra hf w => by
  unfold oInt at hf; split at hf
  · cases hf
    simp only [Rep] at ra; subst ra
    exact .inl ⟨_, rfl, we_ok w k (by simp only [rD, Rep])⟩
  · cases hf
    simp only [Rep] at ra; subst ra
    exact .inr ⟨_, rfl, we_ok w k (by simp only [rD, Rep])⟩
  · cases hf
theorem r1_str : RC1 C (fun xs H Q => ∃ i, xs = [V.int i] ∧ i.natAbs.log2 < 1920 ∧ Q (.str (toString i)) H) oStr := fun Z Hs e σ H k x a c Q ra hf w => by
  unfold oStr at hf; split at hf
  · split at hf
    · rename_i i hl
      cases hf
      simp only [Rep] at ra; subst ra
      refine ⟨i, rfl, ?_, we_ok w k ?_⟩
      · by_cases h0 : i.natAbs = 0
        · rw [h0]; decide
        · have := (Nat.log2_lt h0).mpr (Nat.lt_of_lt_of_le hl (Nat.pow_le_pow_right (by decide) (show 900 ≤ 1920 by decide)))
          exact this
      · simp only [rD, Rep]
        congr 1
        exact TL.ext_tl (TL.tl_ofString _)
    · cases hf
  · cases hf
theorem r1_tup (hK : C.K = K) : RC1 C (rTupP K) oTup := fun Z Hs e σ H k x a c Q ra hf w => by
  subst hK
  unfold oTup at hf; split at hf
  · cases hf
    simp only [Rep] at ra
    obtain ⟨p, xs, rfl, hx, rx⟩ := ra
    exact ⟨p, xs, rfl, .inl ⟨SqL.of (k.le _ _ hx), we_newT w k rx⟩⟩
  · cases hf
    simp only [Rep] at ra
    obtain ⟨p, xs, rfl, hx, rx⟩ := ra
    refine ⟨p, xs, rfl, .inr ⟨sqt_le k.le hx.sq, we_ok w k ?_⟩⟩
    simp only [rD, Rep]
    exact ⟨p, xs, rfl, hx, rx⟩
  · cases hf
theorem rw_tup (hK : C.K = K) : RCW C (rTupP K) wTup := fun Z Hs e σ H k p xs ds c Q hx rx hf w => by
  subst hK
  cases hf
  exact ⟨p, xs, rfl, .inl ⟨SqL.of hx, we_newT w k rx⟩⟩
theorem bools_of {Hs : Hp} : ∀ {ds : List Dv} {bs : List Bool} {xs : List V}, boolsOf ds = some bs → Reps C.K C.sc Hs ds xs → xs = bs.map V.bl
  | [], bs, xs, h, r => by cases h; simp only [Reps] at r; rw [r]; rfl
  | .bl b :: ds, bs, xs, h, r => by
    obtain ⟨b', h', rfl⟩ := Option.map_eq_some_iff.mp h
    simp only [Reps] at r
    obtain ⟨v, q, rfl, r1, r2⟩ := r
    simp only [Rep] at r1
    rw [bools_of h' r2, r1]; rfl
  | .non :: _, _, _, h, _ => by cases h
  | .int _ :: _, _, _, h, _ => by cases h
  | .str _ :: _, _, _, h, _ => by cases h
  | .tup _ :: _, _, _, h, _ => by cases h
  | .lst _ :: _, _, _, h, _ => by cases h
  | .scr _ :: _, _, _, h, _ => by cases h
  | .dct _ _ :: _, _, _, h, _ => by cases h
  | .exc _ _ _ :: _, _, _, h, _ => by cases h
theorem r1_all (hK : C.K = K) : RC1 C (rAll K) oAll := fun Z Hs e σ H k x a c Q ra hf w => by
  subst hK
  unfold oAll at hf; split at hf
  · obtain ⟨bs, hb, rfl⟩ := Option.map_eq_some_iff.mp hf
    simp only [Rep] at ra
    obtain ⟨p, xs, rfl, hx, rx⟩ := ra
    have ex := bools_of hb rx
    subst ex
    exact ⟨p, bs, rfl, SqL.of (k.le _ _ hx), we_ok w k (by simp only [rD, Rep])⟩
  · cases hf
theorem strs_of {Hs : Hp} : ∀ {ds : List Dv} {bs : List (List Nat)} {xs : List V}, strsOf ds = some bs → Reps C.K C.sc Hs ds xs → xs = (bs.map sOf).map V.str
  | [], bs, xs, h, r => by cases h; simp only [Reps] at r; rw [r]; rfl
  | .str b :: ds, bs, xs, h, r => by
    obtain ⟨b', h', rfl⟩ := Option.map_eq_some_iff.mp h
    simp only [Reps] at r
    obtain ⟨v, q, rfl, r1, r2⟩ := r
    simp only [Rep] at r1
    rw [strs_of h' r2, r1]; rfl
  | .non :: _, _, _, h, _ => by cases h
  | .int _ :: _, _, _, h, _ => by cases h
  | .bl _ :: _, _, _, h, _ => by cases h
  | .tup _ :: _, _, _, h, _ => by cases h
  | .lst _ :: _, _, _, h, _ => by cases h
  | .scr _ :: _, _, _, h, _ => by cases h
  | .dct _ _ :: _, _, _, h, _ => by cases h
  | .exc _ _ _ :: _, _, _, h, _ => by cases h
theorem join_tl (s : List Nat) : ∀ l : List (List Nat), TL.joinL s l = joinN s l
  | [] => rfl
  | [_] => rfl
  | a :: b :: r => by
    show a ++ (s ++ TL.joinL s (b :: r)) = a ++ (s ++ joinN s (b :: r))
    rw [join_tl s (b :: r)]
/-- a text's method -/
theorem se_m1 {r : V → List V → Hp → VK → Prop} {f : List Nat → Dv → Option Dv} {ta tb : TE} {ma mb : ME Dv} (hr : ∀ Z Hs e σ H, StOk C Z Hs e σ H → ∀ s y b c Q, Rep C.K C.sc Hs b y → f s b = some c → WE C Z σ Hs H (rD C) (.ok c e) Q → r (.str (sOf s)) [y] H Q)
    (ha : SE C ta ma) (hb : SE C tb mb) : SE C (tM1 r ta tb) (mM1 f ma mb) := fun Z Hs e σ H k Q w =>
  ha Z Hs e σ H k _ (we_bind (fun a e1 x Hs1 H1 _ k1 r1 w1 => by
    cases a with
    | str s =>
      have rx : x = .str (sOf s) := by simpa only [rD, Rep] using r1
      subst rx
      refine ⟨⟨_, rfl⟩, hb Z Hs1 e1 σ H1 k1 _ (we_bind (fun b e2 y Hs2 H2 p2 k2 r2 w2 => ?_) w1)⟩
      obtain ⟨c, hc, w3⟩ := we_of w2
      exact hr Z Hs2 e2 σ H2 k2 s y b c Q r2 hc w3
    | _ => exact w1.elim) w)
theorem seo_m1 {r : V → List V → Hp → VK → Prop} {f : List Nat → Dv → Option (List Dv)} {ta tb : TE} {ma mb : ME Dv} (hr : ∀ Z Hs e σ H, StOk C Z Hs e σ H → ∀ s y b c Q, Rep C.K C.sc Hs b y → f s b = some c → WE C Z σ Hs H (rO C Z σ) (.ok (.lst c) e) Q → r (.str (sOf s)) [y] H Q)
    (ha : SE C ta ma) (hb : SE C tb mb) : SEO C (tM1 r ta tb) (mM1N f ma mb) := fun Z Hs e σ H k Q w =>
  ha Z Hs e σ H k _ (we_bind (fun a e1 x Hs1 H1 _ k1 r1 w1 => by
    cases a with
    | str s =>
      have rx : x = .str (sOf s) := by simpa only [rD, Rep] using r1
      subst rx
      refine ⟨⟨_, rfl⟩, hb Z Hs1 e1 σ H1 k1 _ (we_bind (fun b e2 y Hs2 H2 p2 k2 r2 w2 => ?_) w1)⟩
      obtain ⟨o, ho, w3⟩ := we_of w2
      obtain ⟨c, hc, rfl⟩ := Option.map_eq_some_iff.mp ho
      exact hr Z Hs2 e2 σ H2 k2 s y b c Q r2 hc w3
    | _ => exact w1.elim) w)
/-- s.join(list) -/
theorem se_join {ta tb : TE} {ma mb : ME Dv} (hK : C.K = K) (ha : SE C ta ma) (hb : SE C tb mb) : SE C (tM1 (fun x xs H Q => ∃ a p, ∃ ys : List Str, x = .str a ∧ xs = [.ref p] ∧ (SqL K H p (ys.map V.str) ∨ SqT K H p (ys.map V.str)) ∧
      (ys.map (·.length)).sum + ys.length * a.length ≤ 16777216 ∧ Q (.str (PySem.Txt.join a ys)) H) ta tb) (mM1 oJoin ma mb) := se_m1 (fun Z Hs2 e2 σ H2 k2 s y b c Q r2 hc w3 => by
  unfold oJoin at hc
  split at hc
  · rename_i ds
    obtain ⟨xs, hx, hc⟩ := Option.bind_eq_some_iff.mp hc
    split at hc
    · rename_i hl
      cases hc
      simp only [Rep] at r2
      obtain ⟨p, zs, rfl, hz, rz⟩ := r2
      have ez := strs_of hx rz
      subst ez
      refine ⟨sOf s, p, xs.map sOf, rfl, rfl, .inl (SqL.of (k2.le _ _ hz)), ?_, we_ok w3 k2 ?_⟩
      · have e1 : (xs.map sOf).map (·.length) = xs.map List.length := by
          rw [List.map_map]; exact List.map_congr_left fun a _ => slen a
        rw [e1, List.length_map, slen]
        exact Nat.le_trans hl (by decide)
      · simp only [rD, Rep]
        congr 1
        rw [TL.join_eq]
        refine TL.ext_tl ?_
        rw [TL.tl_join]
        have e2 : (xs.map sOf).map TL.tl = xs := by
          rw [List.map_map]
          conv => rhs; rw [← List.map_id xs]
          exact List.map_congr_left fun a _ => rfl
        rw [e2]
        exact join_tl s xs
    · cases hc
  · cases hc) ha hb
theorem spl_one (c : Nat) : ∀ (l acc : List Nat), TL.spl [c] 0 acc l = splitN c acc l
  | [], acc => by rw [TL.spl_nil]; rfl
  | x :: r, acc => by
    unfold splitN
    by_cases h : x = c
    · rw [if_pos h, TL.spl_hit (by subst h; simp [TL.pre])]
      show acc :: TL.spl [c] 0 [] r = _
      rw [spl_one c r []]
    · rw [if_neg h, TL.spl_miss (by simpa [TL.pre] using h), spl_one c r (acc ++ [x])]
/-- s.split(sign) -/
theorem seo_split {ta tb : TE} {ma mb : ME Dv} (ha : SE C ta ma) (hb : SE C tb mb) : SEO C (tM1 (fun x xs H Q => ∃ a b, x = .str a ∧ xs = [.str b] ∧ (b.length == 0) = false ∧ a.length + 2 ≤ sizeLine ∧ rNewStrs (PySem.Txt.split a b) H Q) ta tb) (mM1N oSplit ma mb) := seo_m1 (fun Z Hs2 e2 σ H2 k2 s y b c Q r2 hc w3 => by
  unfold oSplit at hc
  split at hc
  · rename_i ch
    split at hc
    · rename_i hl
      cases hc
      simp only [Rep] at r2
      subst r2
      refine ⟨sOf s, sOf [ch], rfl, rfl, rfl, by rw [slen]; exact lim_line hl.2, fun p hp => ?_⟩
      have es : (PySem.Txt.split (sOf s) (sOf [ch])).map TL.tl = splitN ch [] s := by
        rw [TL.split_spl _ _ (by simp [TL.tl]) (TL.kind_ok (by simp; omega))]
        exact spl_one ch s []
      refine we_newO w3 k2 hp ?_
      rw [← es, List.map_map]
      have : ∀ l : List Str, Reps C.K C.sc Hs2 (l.map (Dv.str ∘ TL.tl)) (l.map V.str) := by
        intro l
        induction l with
        | nil => exact reps_nil
        | cons z l ih => exact reps_cons (by simp only [Function.comp, Rep]) ih
      exact this _
    · cases hc
  · cases hc) ha hb
/-- list(a text) -/
theorem rn_listS : RCN C (fun xs H Q => ∃ z : Str, xs = [V.str z] ∧ z.length ≤ sizeLine ∧ ∀ l, H l = none → Q (.ref l) (upd H l (.lst (z.cps.toList.map fun c => V.str ⟨#[c]⟩)))) listS := fun Z Hs e σ H k x a c Q ra hf w => by
  unfold listS at hf
  split at hf
  · split at hf
    · rename_i s hl
      cases hf
      simp only [Rep] at ra; subst ra
      refine ⟨_, rfl, by rw [slen]; exact lim_line hl, fun l hp => we_newO w k hp ?_⟩
      have : ∀ l : List Nat, Reps C.K C.sc Hs (l.map fun c => Dv.str [c]) (l.map fun c => V.str ⟨#[c]⟩) := by
        intro l
        induction l with
        | nil => exact reps_nil
        | cons z l ih => exact reps_cons (by simp only [Rep]) ih
      exact this s
    · cases hf
  · cases hf
/-! ### slices -/
def SO (C : Cc) (t : TO) (m : ME (Option Int)) : Prop := ∀ Z Hs e σ H, StOk C Z Hs e σ H → ∀ Q, WE C Z σ Hs H (fun o _ o' _ _ => o = o') (m e) Q → t σ H Q
theorem so_none : SO C tNoPart (mPart none) := fun Z Hs e σ H k Q w => we_ok w k rfl
theorem so_some {te : TE} {me : ME Dv} (h : SE C te me) : SO C (tPart te) (mPart (some me)) := fun Z Hs e σ H k Q w =>
  h Z Hs e σ H k _ (we_bind (fun a e1 x Hs1 H1 _ k1 r1 w1 => by
    cases a with
    | int n =>
      have rx : x = .int n := by simpa only [rD, Rep] using r1
      subst rx
      exact ⟨n, rfl, we_ok w1 k1 rfl⟩
    | _ => exact w1.elim) w)
theorem sIx_eq (n d : Nat) (o : Option Int) : sIx n d o = HT.sIx n d o := by
  cases o <;> rfl
theorem se_slS {te : TE} {me : ME Dv} {tl th : TO} {ml mh : Option (ME Dv)} (h : SE C te me) (hl : SO C tl (mPart ml)) (hh : SO C th (mPart mh)) : SE C (tSl rSlS te tl th) (mSl slS me ml mh) := fun Z Hs e σ H k Q w =>
  h Z Hs e σ H k _ (we_bind (fun a e1 x Hs1 H1 p1 k1 r1 w1 => hl Z Hs1 e1 σ H1 k1 _ (we_bind (fun lo e2 lo' Hs2 H2 p2 k2 r2 w2 => hh Z Hs2 e2 σ H2 k2 _ (we_bind (fun hi e3 hi' Hs3 H3 p3 k3 r3 w3 => by
    have r2 : lo = lo' := r2
    have r3 : hi = hi' := r3
    subst r2; subst r3
    obtain ⟨c, hc, w4⟩ := we_of w3
    unfold slS at hc
    split at hc
    · split at hc
      · rename_i hlen
        cases hc
        simp only [rD, Rep] at r1
        subst r1
        refine ⟨_, rfl, by rw [slen]; exact lim_line hlen, we_ok w4 k3 ?_⟩
        simp only [rD, Rep]
        rfl
      · cases hc
    · cases hc) w2)) w1)) w)
/-! ### isinstance -/
theorem r2_isT (hK : C.K = K) {f : Dv → Option Dv} {T : String} (h : ∀ d c, f d = some c → ∃ b, c = .bl b ∧ match d with
    | .tup _ => kitB "tuple" T = some b
    | .lst _ => kitB "list" T = some b
    | .int _ => kitB "int" T = some b
    | .str _ => kitB "str" T = some b
    | .bl _ => kitB "bool" T = some b
    | .non => kitB "NoneType" T = some b
    | .scr _ => False
    | .dct _ _ => False
    | .exc _ _ _ => False) {ta : TE} {ma : ME Dv} (ha : SE C ta ma) : SE C (tCB (rIsi K) (tCons ta (tCons (tC (.ty T)) tNil))) (mO1 f ma) := fun Z Hs e σ H k Q w =>
  ha Z Hs e σ H k _ (we_bind (fun a e1 x Hs1 H1 _ k1 r1 w1 => by
    subst hK
    obtain ⟨c, hc, w2⟩ := we_of w1
    obtain ⟨b, rfl, hb⟩ := h a c hc
    have fin : ∀ (t : PySem.Value), TyX C.K H1 x t → PySem.W.kitOne C.K t (.type T) = some b → (rIsi C.K) [x, .ty T] H1 Q := fun t h1 h2 => ⟨x, .ty T, t, .type T, b, rfl, .ty T, h1, h2, we_ok w2 k1 (by simp only [rD, Rep])⟩
    cases a with
    | tup ds =>
      simp only [rD, Rep] at r1
      obtain ⟨p, xs, rfl, hx, rx⟩ := r1
      have hx := sqt_le k1.le hx.sq
      rcases hx with (hx | ⟨o, hx⟩) | ⟨o, its, n, hk, hcl, _⟩
      · exact fin _ (.base (.tup hx)) (kit_ty hb)
      · exact fin _ (.fTuple hx) (kit_ty hb)
      · exact fin _ (.kTuple hk hcl) (kit_ty hb)
    | lst ds =>
      simp only [rD, Rep] at r1
      obtain ⟨p, xs, rfl, hx, rx⟩ := r1
      exact fin _ (.base (.lst (k1.le _ _ hx))) (kit_ty hb)
    | int i => simp only [rD, Rep] at r1; subst r1; exact fin _ (.base (.int i)) (kit_ty hb)
    | str s => simp only [rD, Rep] at r1; subst r1; exact fin _ (.base (.str _)) (kit_ty hb)
    | bl b' => simp only [rD, Rep] at r1; subst r1; exact fin _ (.base (.bl b')) (kit_ty hb)
    | non => simp only [rD, Rep] at r1; subst r1; exact fin _ (.base .non) (kit_ty hb)
    | scr ns => exact hb.elim
    | dct _ _ => exact hb.elim
    | exc _ _ _ => exact hb.elim) w)
theorem se_isT (hK : C.K = K) {ta : TE} {ma : ME Dv} (ha : SE C ta ma) : SE C (tCB (rIsi K) (tCons ta (tCons (tC (.ty "tuple")) tNil))) (mO1 oIsT ma) := r2_isT hK (fun d c h => match d, h with
  | .tup ds, h => by cases h; exact ⟨_, rfl, (by decide +kernel : kitB "tuple" "tuple" = some true)⟩
  | .lst ds, h => by cases h; exact ⟨_, rfl, (by decide +kernel : kitB "list" "tuple" = some false)⟩
  | .int i, h => by cases h; exact ⟨_, rfl, (by decide +kernel : kitB "int" "tuple" = some false)⟩
  | .str x, h => by cases h; exact ⟨_, rfl, (by decide +kernel : kitB "str" "tuple" = some false)⟩
  | .bl x, h => by cases h; exact ⟨_, rfl, (by decide +kernel : kitB "bool" "tuple" = some false)⟩
  | .non, h => by cases h; exact ⟨_, rfl, (by decide +kernel : kitB "NoneType" "tuple" = some false)⟩
  | .scr ns, h => by cases h
  | .dct _ _, h => by cases h
  | .exc _ _ _, h => by cases h) ha
theorem se_isS (hK : C.K = K) {ta : TE} {ma : ME Dv} (ha : SE C ta ma) : SE C (tCB (rIsi K) (tCons ta (tCons (tC (.ty "str")) tNil))) (mO1 oIsS ma) := r2_isT hK (fun d c h => match d, h with
  | .tup ds, h => by cases h; exact ⟨_, rfl, (by decide +kernel : kitB "tuple" "str" = some false)⟩
  | .lst ds, h => by cases h; exact ⟨_, rfl, (by decide +kernel : kitB "list" "str" = some false)⟩
  | .int i, h => by cases h; exact ⟨_, rfl, (by decide +kernel : kitB "int" "str" = some false)⟩
  | .str x, h => by cases h; exact ⟨_, rfl, (by decide +kernel : kitB "str" "str" = some true)⟩
  | .bl x, h => by cases h; exact ⟨_, rfl, (by decide +kernel : kitB "bool" "str" = some false)⟩
  | .non, h => by cases h; exact ⟨_, rfl, (by decide +kernel : kitB "NoneType" "str" = some false)⟩
  | .scr ns, h => by cases h
  | .dct _ _, h => by cases h
  | .exc _ _ _, h => by cases h) ha
end
end Ml

set_option linter.all false
set_option autoImplicit false
set_option maxRecDepth 100000
set_option maxHeartbeats 1000000
/-! Defs by their names, and the law's own end. -/
namespace Ml
open PySem PySem.Spec PyProof.Rows L2

section
variable {P : Program} {w : World} {K : PySem.W.Frag} {mg : Str → Option Value} {base : Heap}
/-- a def of the text, under its name -/
def DefK (K : PySem.W.Frag) (x : Str) (st : Stmt) : Prop := ∃ f fd, PySem.W.nsIn K mainGlobals x = some (some (.ref f)) ∧ Fun K x x st f fd
theorem defK_mk {x : Str} {st : Stmt} {f : Addr} {oc : Value} {od an : Option Addr} {osl : Array (Option Value)} {kV doc pm cdv ct : Value} (a : PySem.W.nsIn K mainGlobals x = some (some (.ref f)))
    (l : K.lookup f = some ⟨oc, od, .func (PySem.W.fnOf x x (defArgs st) (defBody st) (defScope st) .none kV doc pm an cdv ct), osl⟩) (c : PySem.W.codeIn K cdv x = true) (k : PySem.W.keepIn K (.ref f) = true) : DefK K x st :=
  ⟨f, _, a, fun_mk l c k⟩
abbrev FreeK (K : PySem.W.Frag) (x : Str) : Prop := PySem.W.nsIn K mainGlobals x = some none
def ConK (K : PySem.W.Frag) (x : Str) (v : V) : Prop := ∃ u, PySem.W.nsIn K mainGlobals x = some (some u) ∧ RelV v u
theorem conK_s {x s : Str} {t : Tok} (a : PySem.W.nsIn K mainGlobals x = some (some (.str s t))) : ConK K x (.str s) := ⟨_, a, t, rfl⟩
theorem conK_i {x : Str} {s : Int} {t : Tok} (a : PySem.W.nsIn K mainGlobals x = some (some (.int s t))) : ConK K x (.int s) := ⟨_, a, t, rfl⟩
/-- what the module's names hold -/
structure Mg (K : PySem.W.Frag) (mg : Str → Option Value) : Prop where
  get : ∀ {y u}, PySem.W.nsIn K mainGlobals y = some (some u) → mg y = some u
  none : ∀ {y}, PySem.W.nsIn K mainGlobals y = some none → mg y = none
theorem mg_mk {h : Heap} (X : K.In h) (G : h.Ns mainGlobals mg) : Mg K mg := ⟨fun a => PySem.W.mg_of X G a, fun a => PySem.W.mg_none_of X G a⟩
theorem Mg.con {x : Str} {v : V} (M : Mg K mg) (c : ConK K x v) : ∃ u, mg x = some u ∧ RelV v u := let ⟨u, a, r⟩ := c; ⟨u, M.get a, r⟩
theorem Mg.free {x : Str} (M : Mg K mg) (c : FreeK K x) : mg x = Option.none := M.none c

/-- a def that may be called by its name -/
structure Kept (P : Program) (w : World) (K : PySem.W.Frag) (mg : Str → Option Value) (base : Heap) (CX : CXT) (k : Nat) (x : Str) (sp : Sp) : Prop where
  ex : ∃ (f : Addr) (fd : FuncData) (ps : List Str), FnOk P w K mg base CX k f fd ps sp ∧ mg x = some (.ref f) ∧ PySem.W.keepIn K (.ref f) = true ∧ Binds K fd ps []
theorem pass00 {X : Cx} {E : XK} : Passes CX0 X E := fun _ _ _ _ _ _ _ h => h.elim
/-- a def keeps its mirror -/
theorem cl_of {x : Str} {st : Stmt} {N ps : List Str} {k : Nat} {RE : Err → Value → Option Addr → Hp → Hp → Prop} {F : Fn} {np nl : Nat} {m : MS} (D : DefK K x st) (M : Mg K mg)
    (hb : ∀ (kV doc pm : Value) (an : Option Addr) (cdv ct : Value) (us : List Value), us.length = ps.length → bindArgs (PySem.W.fnOf x x (defArgs st) (defBody st) (defScope st) .none kV doc pm an cdv ct) ⟨us, []⟩ = pure (ps.zip us))
    (S : FnScope N ps (defScope st)) (hF : F = mkFn np nl m) (hN : N.length = np + nl) (hp : ps.length = np)
    (hbody : ∀ (f : Addr) (cdv : Value) (A' : Around) (outer : List Env) (s : Shared) (H : Hp) (E : XK), Room k (A'.deeper (envOfC x (defScope st) s.heap.objs.size f cdv)) →
      ∃ A t, PSs (cxOf CX0 P w K mg base N x (defScope st) f cdv A' outer s H E).nox (defBody st) t ∧ ∀ sc Hs Ps, SS ⟨K, scOf sc P w, H, Ps, Hs, fun c od _ H => E c od H, RE⟩ A t m) : Kept P w K mg base CX0 (k + 1) x (spM P w K RE F) := by
  obtain ⟨f, fd, hn, Fd⟩ := D
  refine ⟨f, fd, ps, ?_, M.get hn, Fd.kp, Fd.binds hb⟩
  refine Fd.ok S (fun vs H Q E h => by rw [spM_len hF h, hp]) fun cdv A' outer s H vs Q E hr h => ?_
  obtain ⟨A, t, h1, h2⟩ := hbody f cdv A' outer s H E hr
  exact ⟨t, h1, fn_red hF hN h fun sc Hs Ps => h2 sc Hs Ps⟩
/-- .., a def that may raise -/
theorem cl_ofX {x : Str} {st : Stmt} {N ps : List Str} {k : Nat} {RE : Err → Value → Option Addr → Hp → Hp → Prop} {F : Fn} {np nl : Nat} {m : MS} (D : DefK K x st) (M : Mg K mg)
    (hb : ∀ (kV doc pm : Value) (an : Option Addr) (cdv ct : Value) (us : List Value), us.length = ps.length → bindArgs (PySem.W.fnOf x x (defArgs st) (defBody st) (defScope st) .none kV doc pm an cdv ct) ⟨us, []⟩ = pure (ps.zip us))
    (S : FnScope N ps (defScope st)) (hF : F = mkFn np nl m) (hN : N.length = np + nl) (hp : ps.length = np)
    (hbody : ∀ (f : Addr) (cdv : Value) (A' : Around) (outer : List Env) (s : Shared) (H : Hp) (E : XK), Room k (A'.deeper (envOfC x (defScope st) s.heap.objs.size f cdv)) →
      Takes (cxOf (L2.CX P w) P w K mg base N x (defScope st) f cdv A' outer s H E) (fun c od _ H => E c od H) → PassesOwn (model P w) (cxOf (L2.CX P w) P w K mg base N x (defScope st) f cdv A' outer s H E).A (cxOf (L2.CX P w) P w K mg base N x (defScope st) f cdv A' outer s H E).env (cxOf (L2.CX P w) P w K mg base N x (defScope st) f cdv A' outer s H E).xe →
      ∃ A t, PSs (cxOf (L2.CX P w) P w K mg base N x (defScope st) f cdv A' outer s H E) (defBody st) t ∧ ∀ sc Hs Ps, SS ⟨K, scOf sc P w, H, Ps, Hs, fun c od _ H => E c od H, RE⟩ A t m) : Kept P w K mg base (L2.CX P w) (k + 1) x (spM P w K RE F) := by
  obtain ⟨f, fd, hn, Fd⟩ := D
  refine ⟨f, fd, ps, ?_, M.get hn, Fd.kp, Fd.binds hb⟩
  refine Fd.okX S (fun vs H Q E h => by rw [spM_len hF h, hp]) fun cdv A' outer s H vs Q E hr h => ?_
  obtain ⟨A, t, h1, h2⟩ := hbody f cdv A' outer s H E hr (takes_of rfl rfl rfl rfl) (passes_of rfl)
  exact ⟨t, h1, fn_red hF hN h fun sc Hs Ps => h2 sc Hs Ps⟩
end
section
variable {X : Cx} {CX : CXT} {k j : Nat} {x : Str} {sp : Sp} {E : XK} {p pos : Pos} {e : Expr} {es : List Expr} {t : TA}
/-- a def that raises nothing lets nothing out -/
theorem pass0S {X : Cx} {E : L2.St → XK} : ∀ σ, PassesAt CX0 X σ (E σ) := fun _ _ _ _ _ _ _ h => h.elim
theorem pe_callS0 {E : L2.St → XK} {f : Addr} {fd : FuncData} {ps : List Str} (F : FnOk X.prog X.w X.K X.mg X.base CX k f fd ps sp) (hr : Room k X.A) (hg : Gl X x) (hm : X.mg x = some (.ref f)) (hk : PySem.W.keepIn X.K (.ref f) = true) (hb : Binds X.K fd ps []) (hx : ∀ σ, PassesAt CX X σ (E σ))
    (hdb : (x == ("__debug__" : Str)) = false := by decide) : PE X (.Call (.Name x p) [] [] pos) (tCallS sp E tNil) := by
  refine ⟨fun pins s σ H Q I h => ?_⟩
  refine wpAny_Call_Name_kw (ld_glob I hg hm ?_ hdb)
  exact PySem.W.callWith_K0 I.kIn hk (run_fnS (us := []) F hr hb (hx σ) I .nil h)
theorem pe_clS {E : L2.St → XK} (c : Kept X.prog X.w X.K X.mg X.base CX k x sp) (hr : Room j X.A) (hk : k ≤ j) (hg : Gl X x) (hx : ∀ σ, PassesAt CX X σ (E σ)) (ha : PA X (e :: es) t)
    (hdb : (x == ("__debug__" : Str)) = false := by decide) (he : starEach (e :: es) X.env = (false, eval e X.env) :: starEach es X.env := by rfl) (hpl : (backTo pos (starEach es X.env)).any (·.1) = false := by rfl) :
    PE X (.Call (.Name x p) (e :: es) [] pos) (tCallS sp E t) := by
  obtain ⟨f, fd, ps, F, hm, kp, b⟩ := c.ex
  exact pe_callS F (hr.mono hk) hg hm kp b hx ha hdb he hpl
theorem pe_clS0 {E : L2.St → XK} (c : Kept X.prog X.w X.K X.mg X.base CX k x sp) (hr : Room j X.A) (hk : k ≤ j) (hg : Gl X x) (hx : ∀ σ, PassesAt CX X σ (E σ))
    (hdb : (x == ("__debug__" : Str)) = false := by decide) : PE X (.Call (.Name x p) [] [] pos) (tCallS sp E tNil) := by
  obtain ⟨f, fd, ps, F, hm, kp, b⟩ := c.ex
  exact pe_callS0 F (hr.mono hk) hg hm kp b hx hdb
end
/-! ### the readings with the written part by its name -/
abbrev rLenK (K : PySem.W.Frag) : List V → Hp → VK → Prop := fun xs H Q => ∃ x n, xs = [x] ∧ LenV K x H n ∧ Q (.int n) H
abbrev rTupK (K : PySem.W.Frag) : List V → Hp → VK → Prop := rTupP K
abbrev tTr (K : PySem.W.Frag) (ta : TE) : TT := fun σ H Q => ta σ H fun x H' => ∃ k, TruV K x H' k ∧ Q k H'
section
variable {X : Cx} {K : PySem.W.Frag} {a : Expr} {ta : TE} {pos : Pos}
theorem pt_tr (hK : X.K = K) (ha : PE X a ta) (he : ∀ whole, isTrue a X.env whole = (do let v ← whole; standAt a.pos; holding [v] (truthy v))) : PT X a (tTr K ta) := by
  subst hK; exact pt_truth ha he
theorem pg_tupK (hK : X.K = K) {es : List Expr} {k : Nat} {t : TGs} {n : Nat} (hc : X.calm = true) (h : PGs X es t)
    (hn : (assignEach es X.env).length = n := by rfl) (hst : (assignEach es X.env).findIdx? (·.1) = none := by rfl) : PG X (.Tuple es k pos) (gTup K n t) := by
  subst hK; exact pg_tup hc h hn hst
theorem ixK (hK : X.K = K) : IxR X (rIx K) := by subst hK; exact ix_seq
theorem ixL (hK : X.K = K) : IxR X (rIxL K) := by subst hK; exact ix_list
theorem lenK (hK : X.K = K) : CallR X (.builtin "len") (rLenK K) := by subst hK; exact call_len
theorem tupK (hK : X.K = K) : CallR X (.type "tuple") (rTupK K) := by subst hK; exact call_tupleP
theorem isiK (hK : X.K = K) : CallR X (.builtin "isinstance") (rIsi K) := by subst hK; exact call_isi
theorem allK (hK : X.K = K) (hc : X.calm = true) : CallR X (.builtin "all") (rAll K) := by subst hK; exact cr_all hc
theorem getK (hK : X.K = K) : PGet X (rIxL K) := by subst hK; exact get_list
end
/-! ### lists put together -/
section
variable {C : Cc}
theorem rv_ipadd : RV C (ipI fun i j => i + j) oAddI := fun Z Hs e σ H k x y a b c Q ra rb hf w => by
  unfold oAddI at hf
  split at hf
  · cases hf
    simp only [Rep] at ra rb; subst ra; subst rb
    exact ⟨_, _, rfl, rfl, we_ok w k (by simp only [rD, Rep])⟩
  · cases hf
theorem rv_ipsub : RV C (ipI fun i j => i - j) oSub := fun Z Hs e σ H k x y a b c Q ra rb hf w => by
  unfold oSub at hf
  split at hf
  · cases hf
    simp only [Rep] at ra rb; subst ra; subst rb
    exact ⟨_, _, rfl, rfl, we_ok w k (by simp only [rD, Rep])⟩
  · cases hf
theorem rv_addS0 : RV C (fun x y H Q => ∃ i j, x = .str i ∧ y = .str j ∧ i.length + j.length ≤ sizeLine ∧ Q (.str (i ++ j)) H) oAddS := rv_addS
theorem rn_cat : RN2 C rCat oCat := fun Z Hs e σ H k x y a b c Q ra rb hf w => by
  unfold oCat at hf
  split at hf
  · split at hf
    · rename_i hl
      cases hf
      simp only [Rep] at ra rb
      obtain ⟨p, xs, rfl, hx, rx⟩ := ra
      obtain ⟨q, ys, rfl, hy, ry⟩ := rb
      exact ⟨p, q, xs, ys, rfl, rfl, k.le _ _ hx, k.le _ _ hy, by rw [reps_len rx, reps_len ry]; exact lim_line hl, fun l hl => we_newO w k hl (reps_app rx ry)⟩
    · cases hf
  · cases hf
end

/-! ### the law: what it begins with, and its end -/
def spBegin (K : PySem.W.Frag) : Sp := fun vs H Q _ => ∃ (a : Addr) (ns : List Int), vs = [.ref a] ∧ SqL K H a (ns.map V.int) ∧ ns.length ≤ 63 ∧
  ∀ p sc H', Le H H' → H sc = none → H p = none → p ≠ sc → H' sc = some (.lst (ns.map V.int)) → H' p = some (.lst [.ref sc, .int 0, .int 0, .int 7]) → Q (.ref p) H'
theorem begin_red {K : PySem.W.Frag} {vs : List V} {H : Hp} {Q : VK} {E : XK} (h : spBegin K vs H Q E) :
    (tRet (tLst (tCons (tLc (iList K (tVar 0)) (gName 1) tYes (tCB (fun xs H Q => (∃ i, xs = [.int i] ∧ Q (.int i) H) ∨ ∃ k, xs = [.bl k] ∧ Q (.int (if k then 1 else 0)) H) (tCons (tVar 1) tNil)) [1]) (tCons (tC (.int 0)) (tCons (tC (.int 0)) (tCons (tC (.int 7)) tNil)))))
      { nx := fun _ H' => Q .non H', rt := Q } (L2.start ["_law_script", "_law_cell"] vs) H) := by
  obtain ⟨a, ns, rfl, hS, hl, q⟩ := h
  refine ⟨.ref a, rfl, a, rfl, ⟨_, hS⟩, fun D hD => lc_list (K := K) (a := a) (xs := ns.map V.int) (fun i H' => Le H H' ∧ H' D = some (.lst ((ns.take i).map V.int))) ⟨Le.new hD, by rw [upd_same]; rfl⟩ (fun i H' _ p => Same.seq p.1 hS) (fun i x H' hx p => ?_) fun H' p => ?_⟩
  · rw [List.getElem?_map] at hx
    obtain ⟨n, hn, rfl⟩ := Option.map_eq_some_iff.mp hx
    refine ⟨rfl, .int n, rfl, .inl ⟨n, rfl, _, p.2, ?_, ?_, ?_⟩⟩
    · rw [List.length_map, List.length_take]
      exact Nat.lt_of_le_of_lt (Nat.min_le_right _ _) (small1000 (by omega))
    · exact fun b o e => by rw [upd_ne (ne_of_none e hD)]; exact p.1 b o e
    · rw [upd_same, List.take_add_one, hn, List.map_append]; rfl
  · have e : ns.take (ns.map V.int).length = ns := List.take_of_length_le (by rw [List.length_map]; exact Nat.le_refl _)
    rw [e] at p
    refine ⟨by show 4 ≤ sizeLine; decide, fun l hl' => ?_⟩
    have nd : l ≠ D := fun z => by rw [z, p.2] at hl'; cases hl'
    exact q l D _ (Le.trans p.1 (Le.new hl')) hD (le_none p.1 hl') nd (by rw [upd_ne (Ne.symm nd)]; exact p.2) upd_same
def spLaw (K : PySem.W.Frag) : Sp := fun vs H Q _ => ∃ (a : Addr) (ns : List Int), vs = [.ref a] ∧ SqL K H a (ns.map V.int) ∧ ns.length ≤ 63 ∧ ∀ H', Q (.bl true) H'
theorem law_red {P : Program} {w : World} {K : PySem.W.Frag} {RE : Err → Value → Option Addr → Hp → Hp → Prop} {N : List Str} {nl : Nat} {A : List Nat} {t : TS} {m : MS} {E' : L2.St → XK} {vs : List V} {H : Hp} {Q : VK} {E : XK} (hN : N.length = 2 + nl)
    (hm : ∀ ns : List Int, ns.length ≤ 63 → ∃ e, m (lawE ns nl) = .rt (.fz (.bl true)) e) (h : ∀ sc Hs Ps H, SS ⟨K, scOf sc P w, H, Ps, Hs, fun c od _ H => E c od H, RE⟩ A t m) (hs : spLaw K vs H Q E) :
    tSeq (tAsg (tCallS (spBegin K) E' (tCons (tVar 0) tNil)) (gName 1)) t { nx := fun _ H' => Q .non H', rt := Q } (L2.start N vs) H := by
  obtain ⟨a, ns, rfl, hS, hl, q⟩ := hs
  have est : L2.start N [V.ref a] = some (V.ref a) :: none :: List.replicate nl none := by
    unfold L2.start
    rw [hN]
    have : 2 + nl - [V.ref a].length = nl + 1 := by simp; omega
    rw [this]
    rfl
  rw [est]
  refine ⟨.ref a, rfl, a, ns, rfl, hS, hl, fun p sc H' hle h1 h2 hne h3 h4 => ?_⟩
  obtain ⟨e, he⟩ := hm ns hl
  have hsc : ∀ b, (if b = sc then some (HO.lst (ns.map V.int)) else none) ≠ none → b = sc := fun b hb => by
    by_cases z : b = sc
    · exact z
    · rw [if_neg z] at hb; exact absurd rfl hb
  have k : StOk ⟨K, ⟨sc, none, P, w⟩, H, [], fun _ => none, fun c od _ H => E c od H, RE⟩ (fun _ => none) (fun b => if b = sc then some (HO.lst (ns.map V.int)) else none) (lawE ns nl) (some (V.ref a) :: some (V.ref p) :: List.replicate nl none) H' := by
    refine ⟨by simp [lawE], fun b o hb => ?_, fun i s hs => ?_, fun i i' j j' o o' q' g1 g2 g3 g4 => ?_, fun b o hb _ => hle b o hb, fun b hb => ?_, fun b hb => ?_, fun b hb => absurd hb List.not_mem_nil, (fun b o hb => nomatch hb), fun _ _ _ _ _ _ => rfl⟩
    · have := hsc b (by rw [hb]; exact fun z => nomatch z)
      subst this
      rw [if_pos rfl] at hb
      rw [h3]; exact hb
    · match i, hs with
      | 0, hs => cases hs; trivial
      | 1, hs =>
        cases hs
        refine ⟨p, rfl, by show (if p = sc then _ else none) = none; rw [if_neg hne], ⟨_, h4, ?_⟩, h2⟩
        refine reps_cons ?_ (reps_cons (by simp only [Rep]) (reps_cons (by simp only [Rep]) (reps_cons (by simp only [Rep]) reps_nil)))
        simp only [Rep]
        exact ⟨trivial, if_pos trivial⟩
      | i + 2, hs =>
        have hs : (List.replicate nl Slt.un)[i]? = some s := hs
        rw [List.getElem?_replicate] at hs
        split at hs
        · cases hs; trivial
        · cases hs
    · have one : ∀ {i : Nat} {j o}, (lawE ns nl)[i]? = some (Slt.ow j o) → i = 1 := fun {i j o} g => by
        match i, g with
        | 0, g => cases g
        | 1, _ => rfl
        | i + 2, g =>
          have g : (List.replicate nl Slt.un)[i]? = some (Slt.ow j o) := g
          rw [List.getElem?_replicate] at g
          split at g <;> cases g
      rw [one g1, one g2]
    · cases z : H b with
      | none => exact absurd z hb
      | some u => rw [hle b u z]; exact fun z => nomatch z
    · have := hsc b hb
      subst this
      exact .inr h1
  show t _ (some (V.ref a) :: some (V.ref p) :: List.replicate nl none) H'
  refine h ⟨sc, none, P, w⟩ _ [] H _ _ _ _ H' k _ ?_
  rw [he]
  intro v Hs' σ' H2 _ _ r
  have r : Rep K ⟨sc, none, P, w⟩ Hs' (.bl true) v := r
  simp only [Rep] at r
  subst r
  exact q H2
end Ml

set_option autoImplicit false
/-! More operations on data. -/
namespace Ml
def flatD : Dv → Bool
  | .non => true
  | .bl _ => true
  | .int _ => true
  | .str _ => true
  | _ => false
/-- == of flat data, as Python has it (True is 1) -/
def eqF : Dv → Dv → Bool
  | .non, .non => true
  | .bl a, .bl b => a == b
  | .bl a, .int b => (if a then 1 else 0) == b
  | .int a, .bl b => a == (if b then 1 else 0)
  | .int a, .int b => a == b
  | .str a, .str b => decide (a = b)
  | _, _ => false
def seqD : Dv → Option (List Dv)
  | .lst ds => some ds
  | .tup ds => some ds
  | _ => none
/-- x in a list or a tuple of flat things -/
def oIn (a b : Dv) : Option Dv := (seqD b).bind fun ds => if flatD a = true ∧ ds.all flatD = true then some (.bl (ds.any fun y => eqF y a)) else none
def oNi (a b : Dv) : Option Dv := (seqD b).bind fun ds => if flatD a = true ∧ ds.all flatD = true then some (.bl (!(ds.any fun y => eqF y a))) else none
/-- x in an owned list -/
def wIn (ds : List Dv) (a : Dv) : Option Dv := if flatD a = true ∧ ds.all flatD = true then some (.bl (ds.any fun y => eqF y a)) else none
def wNi (ds : List Dv) (a : Dv) : Option Dv := if flatD a = true ∧ ds.all flatD = true then some (.bl (!(ds.any fun y => eqF y a))) else none
mutual
/-- == of any data -/
def eqD : Dv → Dv → Bool
  | .tup a, .tup b => eqDs a b
  | .lst a, .lst b => eqDs a b
  | a, b => eqF a b
def eqDs : List Dv → List Dv → Bool
  | [], [] => true
  | a :: r, b :: s => eqD a b && eqDs r s
  | [], _ :: _ => false
  | _ :: _, [] => false
end
mutual
/-- data of tuples, lists and flat things, at most n within one another -/
def lowD : Nat → Dv → Bool
  | _, .non => true
  | _, .bl _ => true
  | _, .int _ => true
  | _, .str s => s.all fun c => decide (c < 1114112)
  | 0, _ => false
  | n + 1, .tup a => lowDs n a
  | n + 1, .lst a => lowDs n a
  | _ + 1, .scr _ => false
  | _ + 1, .dct _ _ => false
  | _ + 1, .exc _ _ _ => false
def lowDs : Nat → List Dv → Bool
  | _, [] => true
  | n, a :: r => lowD n a && lowDs n r
end
def oEqD (a b : Dv) : Option Dv := if lowD 60 a = true ∧ lowD 60 b = true then some (.bl (eqD a b)) else none
def oNeD (a b : Dv) : Option Dv := if lowD 60 a = true ∧ lowD 60 b = true then some (.bl (!eqD a b)) else none
def isNon : Dv → Bool
  | .non => true
  | _ => false
def oIsN (a b : Dv) : Option Dv := match b with
  | .non => some (.bl (isNon a))
  | _ => none
def oNoN (a b : Dv) : Option Dv := match b with
  | .non => some (.bl (!isNon a))
  | _ => none
def intsOf : List Dv → Option (List Int)
  | [] => some []
  | .int b :: r => (intsOf r).map fun x => b :: x
  | _ :: _ => none
def oSum : Dv → Option Dv
  | .lst ds => (intsOf ds).map fun ns => .int ns.sum
  | _ => none
def oAny : Dv → Option Dv
  | .lst ds => (boolsOf ds).map fun bs => .bl (bs.any id)
  | _ => none
/-- a new list of what is there -/
def listD : Dv → Option (List Dv)
  | .lst ds => some ds
  | .tup ds => some ds
  | .scr ns => some (ns.map .int)
  | _ => none
def slT : Dv → Option Int → Option Int → Option Dv
  | .tup ds, lo, hi => some (.tup (cutN ds lo hi))
  | _, _, _ => none
def oCatT : Dv → Dv → Option Dv
  | .tup a, .tup b => if a ≠ [] ∧ a.length + b.length ≤ lim then some (.tup (a ++ b)) else none
  | _, _ => none
/-- a op b op' c -/
def mChain (f g : Dv → Dv → Option Dv) (ma mb mc : ME Dv) : ME Dv := fun e => (ma e).bind fun a e => (mb e).bind fun b e => (Rs.of (f a b) e).bind fun t e => match t with
  | .bl true => (mc e).bind fun c e => .of (g b c) e
  | .bl false => .ok (.bl false) e
  | _ => .ud
def isTyD (n : Nat) : Dv → Option Bool
  | .non => some (n == 0)
  | .bl _ => some (n == 1)
  | .int _ => some (n == 2)
  | .str _ => some (n == 3)
  | .tup _ => some (n == 4)
  | .lst _ => some (n == 5)
  | .scr _ => some (n == 5)
  | .dct _ _ => some (n == 6)
  | .exc _ _ _ => none
def oIsI (d : Dv) : Option Dv := match d with
  | .int _ => some (.bl true)
  | .bl _ => some (.bl true)
  | .scr _ => none
  | .dct _ _ => none
  | .exc _ _ _ => none
  | _ => some (.bl false)
def oIsB (d : Dv) : Option Dv := match d with
  | .bl _ => some (.bl true)
  | .scr _ => none
  | .dct _ _ => none
  | .exc _ _ _ => none
  | _ => some (.bl false)
def oIsL (d : Dv) : Option Dv := match d with
  | .lst _ => some (.bl true)
  | .scr _ => none
  | .dct _ _ => none
  | .exc _ _ _ => none
  | _ => some (.bl false)
end Ml

set_option linter.all false
set_option autoImplicit false
set_option maxRecDepth 100000
set_option maxHeartbeats 1000000
/-! More operations on data, each with its rule. -/
namespace Ml
open L2
open PySem (Addr Str sizeLine)
section
variable {C : Cc} {K : PySem.W.Frag}
/-! ### x in xs -/
theorem flat_ok {Hs : Hp} {d : Dv} {x : V} (r : Rep C.K C.sc Hs d x) (h : flatD d = true) : flatV x = true := by
  cases d <;> (try simp [flatD] at h) <;> (simp only [Rep] at r; subst r; rfl)
theorem flats_ok {Hs : Hp} : ∀ {ds : List Dv} {xs : List V}, Reps C.K C.sc Hs ds xs → ds.all flatD = true → xs.all flatV = true
  | [], xs, r, h => by simp only [Reps] at r; rw [r]; rfl
  | d :: ds, xs, r, h => by
    simp only [Reps] at r
    obtain ⟨v, q, rfl, r1, r2⟩ := r
    rw [List.all_cons, Bool.and_eq_true] at h ⊢
    exact ⟨flat_ok r1 h.1, flats_ok r2 h.2⟩
theorem sOf_beq (a b : List Nat) : (sOf a == sOf b) = decide (a = b) := by
  by_cases h : a = b
  · subst h; simp
  · have : ¬ sOf a = sOf b := by rw [sOf_inj]; exact h
    simp [h, this]
theorem eqF_ok {Hs : Hp} {a b : Dv} {x y : V} (ra : Rep C.K C.sc Hs a x) (rb : Rep C.K C.sc Hs b y) (fa : flatD a = true) (fb : flatD b = true) : eqV x y = eqF a b := by
  cases a <;> (try simp [flatD] at fa) <;> cases b <;> (try simp [flatD] at fb) <;> (simp only [Rep] at ra rb; subst ra; subst rb) <;> first
    | rfl
    | exact sOf_beq _ _
theorem anyF_ok {Hs : Hp} {b : Dv} {y : V} (rb : Rep C.K C.sc Hs b y) (fb : flatD b = true) : ∀ {ds : List Dv} {xs : List V}, Reps C.K C.sc Hs ds xs → ds.all flatD = true → inV y xs = ds.any fun z => eqF z b
  | [], xs, r, h => by simp only [Reps] at r; rw [r]; rfl
  | d :: ds, xs, r, h => by
    simp only [Reps] at r
    obtain ⟨v, q, rfl, r1, r2⟩ := r
    rw [List.all_cons, Bool.and_eq_true] at h
    have ih := anyF_ok rb fb r2 h.2
    unfold inV at ih ⊢
    rw [List.any_cons, List.any_cons, eqF_ok r1 rb h.1 fb, ih]
theorem seq_rep {Z Hs : Hp} {e : Loc} {σ : L2.St} {H : Hp} (k : StOk C Z Hs e σ H) {b : Dv} {y : V} {ds : List Dv} (h : seqD b = some ds) (rb : Rep C.K C.sc Hs b y) : ∃ p xs, y = .ref p ∧ (SqL C.K H p xs ∨ SqT C.K H p xs) ∧ Reps C.K C.sc Hs ds xs := by
  unfold seqD at h
  split at h
  · cases h
    simp only [Rep] at rb
    obtain ⟨p, xs, rfl, hx, rx⟩ := rb
    exact ⟨p, xs, rfl, .inl (SqL.of (k.le _ _ hx)), rx⟩
  · cases h
    simp only [Rep] at rb
    obtain ⟨p, xs, rfl, hx, rx⟩ := rb
    exact ⟨p, xs, rfl, .inr (sqt_le k.le hx.sq), rx⟩
  · cases h
theorem rv_in (hK : C.K = K) : RV C (rIn K false) oIn := fun Z Hs e σ H k x y a b c Q ra rb hf w => by
  subst hK
  obtain ⟨ds, hs, hf⟩ := Option.bind_eq_some_iff.mp hf
  split at hf
  · rename_i hc
    cases hf
    obtain ⟨p, xs, rfl, hq, rx⟩ := seq_rep k hs rb
    refine ⟨p, xs, rfl, hq, flat_ok ra hc.1, flats_ok rx hc.2, ?_⟩
    rw [if_neg (by decide), anyF_ok ra hc.1 rx hc.2]
    exact we_ok w k (by simp only [rD, Rep])
  · cases hf
theorem rv_ni (hK : C.K = K) : RV C (rIn K true) oNi := fun Z Hs e σ H k x y a b c Q ra rb hf w => by
  subst hK
  obtain ⟨ds, hs, hf⟩ := Option.bind_eq_some_iff.mp hf
  split at hf
  · rename_i hc
    cases hf
    obtain ⟨p, xs, rfl, hq, rx⟩ := seq_rep k hs rb
    refine ⟨p, xs, rfl, hq, flat_ok ra hc.1, flats_ok rx hc.2, ?_⟩
    rw [if_pos rfl, anyF_ok ra hc.1 rx hc.2]
    exact we_ok w k (by simp only [rD, Rep])
  · cases hf
/-! ### == of any data -/
mutual
def toP : Dv → PySem.PyData
  | .non => .none
  | .bl b => .bool b
  | .int i => .int i
  | .str s => .str (sOf s)
  | .tup ds => .tuple (toPs ds)
  | .lst ds => .list (toPs ds)
  | .scr _ => .none
  | .dct _ _ => .none
  | .exc _ _ _ => .none
def toPs : List Dv → List PySem.PyData
  | [] => []
  | d :: ds => toP d :: toPs ds
end
mutual
theorem dp_ok {Hs H : Hp} (l : Le Hs H) : ∀ {n : Nat} {d : Dv} {x : V}, lowD n d = true → Rep C.K C.sc Hs d x → Dp C.K H x (toP d) ∧ (toP d).canLay0 = true ∧ (toP d).depth ≤ n
  | n, .non, x, h, r => by simp only [Rep] at r; subst r; simp only [toP]; exact ⟨.non, rfl, by simp only [PySem.PyData.depth]; omega⟩
  | n, .bl b, x, h, r => by simp only [Rep] at r; subst r; simp only [toP]; exact ⟨.bl b, rfl, by simp only [PySem.PyData.depth]; omega⟩
  | n, .int b, x, h, r => by simp only [Rep] at r; subst r; simp only [toP]; exact ⟨.int b, rfl, by simp only [PySem.PyData.depth]; omega⟩
  | n, .str b, x, h, r => by
    simp only [Rep] at r; subst r; simp only [toP]
    refine ⟨.str _, ?_, by simp only [PySem.PyData.depth]; omega⟩
    have h : (b.all fun c => decide (c < 1114112)) = true := by cases n <;> exact h
    simp only [PySem.PyData.canLay0, PySem.PyData.strOk]
    simpa using h
  | n, .scr _, x, h, r => by cases n <;> simp [lowD] at h
  | n, .dct _ _, x, h, r => by cases n <;> simp [lowD] at h
  | n, .exc _ _ _, x, h, r => by cases n <;> simp [lowD] at h
  | 0, .tup _, x, h, r => by simp [lowD] at h
  | 0, .lst _, x, h, r => by simp [lowD] at h
  | n + 1, .tup ds, x, h, r => by
    simp only [Rep] at r
    obtain ⟨p, xs, rfl, hx, rx⟩ := r
    simp only [lowD] at h
    obtain ⟨h1, h2, h3⟩ := dps_ok l h rx
    simp only [toP]
    exact ⟨.tup (sqt_le l hx.sq) h1, by simp only [PySem.PyData.canLay0]; exact h2, by simp only [PySem.PyData.depth]; omega⟩
  | n + 1, .lst ds, x, h, r => by
    simp only [Rep] at r
    obtain ⟨p, xs, rfl, hx, rx⟩ := r
    simp only [lowD] at h
    obtain ⟨h1, h2, h3⟩ := dps_ok l h rx
    simp only [toP]
    exact ⟨.lst (SqL.of (l _ _ hx)) h1, by simp only [PySem.PyData.canLay0]; exact h2, by simp only [PySem.PyData.depth]; omega⟩
theorem dps_ok {Hs H : Hp} (l : Le Hs H) : ∀ {n : Nat} {ds : List Dv} {xs : List V}, lowDs n ds = true → Reps C.K C.sc Hs ds xs → DpAll C.K H xs (toPs ds) ∧ PySem.PyData.canLayAll0 (toPs ds) = true ∧ PySem.PyData.depthAll (toPs ds) ≤ n
  | n, [], xs, h, r => by simp only [Reps] at r; subst r; simp only [toPs]; exact ⟨.nil, rfl, by simp only [PySem.PyData.depthAll]; omega⟩
  | n, d :: ds, xs, h, r => by
    simp only [Reps] at r
    obtain ⟨v, q, rfl, r1, r2⟩ := r
    simp only [lowDs, Bool.and_eq_true] at h
    obtain ⟨a1, a2, a3⟩ := dp_ok l h.1 r1
    obtain ⟨b1, b2, b3⟩ := dps_ok l h.2 r2
    simp only [toPs]
    refine ⟨.cons a1 b1, ?_, ?_⟩
    · simp only [PySem.PyData.canLayAll0, a2, b2, Bool.and_self]
    · simp only [PySem.PyData.depthAll]; omega
end
mutual
theorem eqD_ok : ∀ {n m : Nat} (a b : Dv), lowD n a = true → lowD m b = true → PySem.PyData.eqv (toP a) (toP b) = eqD a b
  | n, m, .tup a, .tup b, ha, hb => by
    cases n <;> simp [lowD] at ha
    cases m <;> simp [lowD] at hb
    simp only [toP, PySem.PyData.eqv, eqD]; exact eqDs_ok a b ha hb
  | n, m, .lst a, .lst b, ha, hb => by
    cases n <;> simp [lowD] at ha
    cases m <;> simp [lowD] at hb
    simp only [toP, PySem.PyData.eqv, eqD]; exact eqDs_ok a b ha hb
  | n, m, .scr _, _, ha, _ => by cases n <;> simp [lowD] at ha
  | n, m, .dct _ _, _, ha, _ => by cases n <;> simp [lowD] at ha
  | n, m, .exc _ _ _, _, ha, _ => by cases n <;> simp [lowD] at ha
  | n, m, _, .scr _, _, hb => by cases m <;> simp [lowD] at hb
  | n, m, _, .dct _ _, _, hb => by cases m <;> simp [lowD] at hb
  | n, m, _, .exc _ _ _, _, hb => by cases m <;> simp [lowD] at hb
  | _, _, .str a, .str b, _, _ => by simp only [toP, PySem.PyData.eqv, eqD, eqF]; exact sOf_beq a b
  | _, _, .non, .non, _, _ | _, _, .non, .bl _, _, _ | _, _, .non, .int _, _, _ | _, _, .non, .str _, _, _ | _, _, .non, .tup _, _, _ | _, _, .non, .lst _, _, _ => rfl
  | _, _, .bl _, .non, _, _ | _, _, .bl _, .bl _, _, _ | _, _, .bl _, .int _, _, _ | _, _, .bl _, .str _, _, _ | _, _, .bl _, .tup _, _, _ | _, _, .bl _, .lst _, _, _ => rfl
  | _, _, .int _, .non, _, _ | _, _, .int _, .bl _, _, _ | _, _, .int _, .int _, _, _ | _, _, .int _, .str _, _, _ | _, _, .int _, .tup _, _, _ | _, _, .int _, .lst _, _, _ => rfl
  | _, _, .str _, .non, _, _ | _, _, .str _, .bl _, _, _ | _, _, .str _, .int _, _, _ | _, _, .str _, .tup _, _, _ | _, _, .str _, .lst _, _, _ => rfl
  | _, _, .tup _, .non, _, _ | _, _, .tup _, .bl _, _, _ | _, _, .tup _, .int _, _, _ | _, _, .tup _, .str _, _, _ | _, _, .tup _, .lst _, _, _ => rfl
  | _, _, .lst _, .non, _, _ | _, _, .lst _, .bl _, _, _ | _, _, .lst _, .int _, _, _ | _, _, .lst _, .str _, _, _ | _, _, .lst _, .tup _, _, _ => rfl
theorem eqDs_ok : ∀ {n m : Nat} (a b : List Dv), lowDs n a = true → lowDs m b = true → PySem.PyData.eqvAll (toPs a) (toPs b) = eqDs a b
  | _, _, [], [], _, _ => rfl
  | _, _, [], _ :: _, _, _ => rfl
  | _, _, _ :: _, [], _, _ => rfl
  | n, m, x :: xs, y :: ys, ha, hb => by
    simp only [lowDs, Bool.and_eq_true] at ha hb
    simp only [toPs, PySem.PyData.eqvAll, eqDs]
    rw [eqD_ok x y ha.1 hb.1, eqDs_ok xs ys ha.2 hb.2]
end
theorem shaped_ok {n : Nat} {d : PySem.PyData} (h : d.canLay0 = true) (h2 : d.depth ≤ n) (h3 : n ≤ 64) : PySem.SeqAt.shaped d = true := by
  unfold PySem.SeqAt.shaped
  rw [h, Bool.true_and, decide_eq_true_eq]
  omega
theorem rv_eqD (hK : C.K = K) : RV C (rEqD K) oEqD := fun Z Hs e σ H k x y a b c Q ra rb hf w => by
  subst hK
  unfold oEqD at hf
  split at hf
  · rename_i hc
    cases hf
    obtain ⟨a1, a2, a3⟩ := dp_ok k.le hc.1 ra
    obtain ⟨b1, b2, b3⟩ := dp_ok k.le hc.2 rb
    refine ⟨_, _, a1, b1, shaped_ok a2 a3 (by decide), shaped_ok b2 b3 (by decide), ?_⟩
    rw [eqD_ok a b hc.1 hc.2]
    exact we_ok w k (by simp only [rD, Rep])
  · cases hf
theorem rv_neD (hK : C.K = K) : RV C (rNeD K) oNeD := fun Z Hs e σ H k x y a b c Q ra rb hf w => by
  subst hK
  unfold oNeD at hf
  split at hf
  · rename_i hc
    cases hf
    obtain ⟨a1, a2, a3⟩ := dp_ok k.le hc.1 ra
    obtain ⟨b1, b2, b3⟩ := dp_ok k.le hc.2 rb
    refine ⟨_, _, a1, b1, shaped_ok a2 a3 (by decide), shaped_ok b2 b3 (by decide), ?_⟩
    rw [eqD_ok a b hc.1 hc.2]
    exact we_ok w k (by simp only [rD, Rep])
  · cases hf
/-! ### is None -/
theorem non_ok {Hs : Hp} {a : Dv} {x : V} (ra : Rep C.K C.sc Hs a x) : decide (x = .non) = isNon a := by
  cases a <;> simp only [Rep] at ra
  all_goals first
    | (subst ra; simp [isNon])
    | (obtain ⟨p, xs, rfl, _⟩ := ra; simp [isNon])
    | (obtain ⟨rfl, _⟩ := ra; simp [isNon])
    | (obtain ⟨_, _, _, _, _, rfl, _⟩ := ra; simp [isNon])
theorem rv_isN : RV C (fun x y H Q => y = .non ∧ Q (.bl (decide (x = .non))) H) oIsN := fun Z Hs e σ H k x y a b c Q ra rb hf w => by
  unfold oIsN at hf
  split at hf
  · cases hf
    simp only [Rep] at rb; subst rb
    refine ⟨rfl, ?_⟩
    rw [non_ok ra]
    exact we_ok w k (by simp only [rD, Rep])
  · cases hf
theorem rv_noN : RV C (fun x y H Q => y = .non ∧ Q (.bl (!decide (x = .non))) H) oNoN := fun Z Hs e σ H k x y a b c Q ra rb hf w => by
  unfold oNoN at hf
  split at hf
  · cases hf
    simp only [Rep] at rb; subst rb
    refine ⟨rfl, ?_⟩
    rw [non_ok ra]
    exact we_ok w k (by simp only [rD, Rep])
  · cases hf
/-! ### sum, any -/
theorem ints_of {Hs : Hp} : ∀ {ds : List Dv} {bs : List Int} {xs : List V}, intsOf ds = some bs → Reps C.K C.sc Hs ds xs → xs = bs.map V.int
  | [], bs, xs, h, r => by cases h; simp only [Reps] at r; rw [r]; rfl
  | .int b :: ds, bs, xs, h, r => by
    obtain ⟨b', h', rfl⟩ := Option.map_eq_some_iff.mp h
    simp only [Reps] at r
    obtain ⟨v, q, rfl, r1, r2⟩ := r
    simp only [Rep] at r1
    rw [ints_of h' r2, r1]; rfl
  | .non :: _, _, _, h, _ => by cases h
  | .bl _ :: _, _, _, h, _ => by cases h
  | .str _ :: _, _, _, h, _ => by cases h
  | .tup _ :: _, _, _, h, _ => by cases h
  | .lst _ :: _, _, _, h, _ => by cases h
  | .scr _ :: _, _, _, h, _ => by cases h
  | .dct _ _ :: _, _, _, h, _ => by cases h
  | .exc _ _ _ :: _, _, _, h, _ => by cases h
theorem r1_sum (hK : C.K = K) : RC1 C (rSum K) oSum := fun Z Hs e σ H k x a c Q ra hf w => by
  subst hK
  unfold oSum at hf; split at hf
  · obtain ⟨bs, hb, rfl⟩ := Option.map_eq_some_iff.mp hf
    simp only [Rep] at ra
    obtain ⟨p, xs, rfl, hx, rx⟩ := ra
    have ex := ints_of hb rx
    subst ex
    exact ⟨p, bs, rfl, SqL.of (k.le _ _ hx), we_ok w k (by simp only [rD, Rep])⟩
  · cases hf
theorem r1_any (hK : C.K = K) : RC1 C (rAny K) oAny := fun Z Hs e σ H k x a c Q ra hf w => by
  subst hK
  unfold oAny at hf; split at hf
  · obtain ⟨bs, hb, rfl⟩ := Option.map_eq_some_iff.mp hf
    simp only [Rep] at ra
    obtain ⟨p, xs, rfl, hx, rx⟩ := ra
    have ex := bools_of hb rx
    subst ex
    exact ⟨p, bs, rfl, SqL.of (k.le _ _ hx), we_ok w k (by simp only [rD, Rep])⟩
  · cases hf
/-! ### list(xs) -/
theorem rn_listD (hK : C.K = K) : RCN C (fun xs H Q => ∃ p ys, xs = [V.ref p] ∧ (SqL K H p ys ∨ SqT K H p ys) ∧ ∀ l, H l = none → Q (.ref l) (upd H l (.lst ys))) listD := fun Z Hs e σ H k x a c Q ra hf w => by
  subst hK
  unfold listD at hf; split at hf
  · cases hf
    simp only [Rep] at ra
    obtain ⟨p, xs, rfl, hx, rx⟩ := ra
    exact ⟨p, xs, rfl, .inl (SqL.of (k.le _ _ hx)), fun l hl => we_newO w k hl rx⟩
  · cases hf
    simp only [Rep] at ra
    obtain ⟨p, xs, rfl, hx, rx⟩ := ra
    exact ⟨p, xs, rfl, .inr (sqt_le k.le hx.sq), fun l hl => we_newO w k hl rx⟩
  · cases hf
    simp only [Rep] at ra
    obtain ⟨rfl, hx⟩ := ra
    exact ⟨_, _, rfl, .inl (SqL.of (k.le _ _ hx)), fun l hl => we_newO w k hl reps_ints⟩
  · cases hf
/-! ### tuples put together -/
theorem rv_catT (hK : C.K = K) : RV C (rCatTP K) oCatT := fun Z Hs e σ H k x y a b c Q ra rb hf w => by
  subst hK
  unfold oCatT at hf
  split at hf
  · split at hf
    · rename_i hc
      cases hf
      simp only [Rep] at ra rb
      obtain ⟨p, xs, rfl, hx, rx⟩ := ra
      obtain ⟨q, ys, rfl, hy, ry⟩ := rb
      refine ⟨p, q, xs, ys, rfl, rfl, sqt_le k.le hx.sq, sqt_le k.le hy.sq, fun z => ?_, by rw [reps_len rx, reps_len ry]; exact lim_line hc.2, fun z => ?_, fun z => ?_⟩
      · subst z
        have := reps_len rx
        exact hc.1 (List.eq_nil_of_length_eq_zero this.symm)
      · subst z
        have := reps_len ry
        have := List.eq_nil_of_length_eq_zero this.symm
        subst this
        rw [List.append_nil] at w
        exact we_ok w k (by simp only [rD, Rep]; exact ⟨p, xs, rfl, hx, rx⟩)
      · exact we_newT w k (reps_app rx ry)
    · cases hf
  · cases hf
/-! ### a op b op c -/
theorem se_chain {f g : Dv → Dv → Option Dv} {r r' : L2.R2} {ta tb tc : TE} {ma mb mc : ME Dv} (hr : RV C r f) (hr' : RV C r' g) (ha : SE C ta ma) (hb : SE C tb mb) (hc : SE C tc mc) : SE C (tChain r r' ta tb tc) (mChain f g ma mb mc) := fun Z Hs e σ H k Q w =>
  ha Z Hs e σ H k _ (we_bind (fun a e1 x Hs1 H1 p1 k1 r1 w1 => hb Z Hs1 e1 σ H1 k1 _ (we_bind (fun b e2 y Hs2 H2 p2 k2 r2 w2 => by
    cases ht : f a b with
    | none => rw [ht] at w2; exact w2.elim
    | some t =>
      rw [ht] at w2
      simp only [Rs.of_some, Rs.bind_ok] at w2
      refine hr Z Hs2 e2 σ H2 k2 x y a b t _ (rep_le p2.le r1) r2 ht (fun v Hs3 H3 p3 k3 r3 => ?_)
      cases t with
      | bl t =>
        simp only [rD, Rep] at r3
        subst r3
        refine ⟨t, rfl, ?_⟩
        cases t with
        | true =>
          refine hc Z Hs3 e2 σ H3 k3 _ (we_bind (fun c e4 z Hs4 H4 p4 k4 r4 w4 => ?_) (we_mono p3 w2))
          obtain ⟨u, hu, w5⟩ := we_of w4
          exact hr' Z Hs4 e4 σ H4 k4 y z b c u Q (rep_le (p3.le.trans p4.le) r2) r4 hu w5
        | false => exact we_ok (we_mono p3 w2) k3 (by simp only [rD, Rep])
      | _ => exact w2.elim) w1)) w)
/-! ### slices -/
theorem cut_map {α β : Type} (f : α → β) (s : List α) (lo hi : Option Int) : cutN (s.map f) lo hi = (cutN s lo hi).map f := by
  simp only [cutN, List.length_map, List.map_take, List.map_drop]
theorem reps_drop {Hs : Hp} : ∀ {n : Nat} {ds : List Dv} {xs : List V}, Reps C.K C.sc Hs ds xs → Reps C.K C.sc Hs (ds.drop n) (xs.drop n)
  | 0, _, _, r => r
  | n + 1, [], xs, r => by simp only [Reps] at r; subst r; simp only [List.drop_nil]; exact reps_nil
  | n + 1, d :: ds, xs, r => by
    simp only [Reps] at r
    obtain ⟨v, q, rfl, r1, r2⟩ := r
    rw [List.drop_succ_cons, List.drop_succ_cons]
    exact reps_drop r2
theorem reps_take {Hs : Hp} : ∀ {n : Nat} {ds : List Dv} {xs : List V}, Reps C.K C.sc Hs ds xs → Reps C.K C.sc Hs (ds.take n) (xs.take n)
  | 0, _, _, r => by simp only [List.take_zero]; exact reps_nil
  | n + 1, [], xs, r => by simp only [Reps] at r; subst r; simp only [List.take_nil]; exact reps_nil
  | n + 1, d :: ds, xs, r => by
    simp only [Reps] at r
    obtain ⟨v, q, rfl, r1, r2⟩ := r
    exact reps_cons r1 (reps_take r2)
theorem cutV_eq (xs : List V) (lo hi : Option Int) : L2.cutV xs lo hi = cutN xs lo hi := by
  unfold L2.cutV cutN
  simp only [sIx_eq]
theorem reps_cut {Hs : Hp} {ds : List Dv} {xs : List V} (r : Reps C.K C.sc Hs ds xs) (lo hi : Option Int) : Reps C.K C.sc Hs (cutN ds lo hi) (cutN xs lo hi) := by
  unfold cutN
  rw [reps_len r]
  exact reps_take (reps_drop r)
theorem cutN_whole {α : Type} {xs : List α} {lo hi : Option Int} (h : sIx xs.length 0 lo = 0 ∧ sIx xs.length xs.length hi = xs.length) : cutN xs lo hi = xs := by
  unfold cutN
  rw [h.1, h.2]
  simp
/-- a slice's rule, once the ends are known -/
theorem se_sl {r : V → Option Int → Option Int → Hp → VK → Prop} {f : Dv → Option Int → Option Int → Option Dv} {te : TE} {me : ME Dv} {tl th : TO} {ml mh : Option (ME Dv)}
    (hr : ∀ Z Hs e σ H, StOk C Z Hs e σ H → ∀ x a lo hi c Q, Rep C.K C.sc Hs a x → f a lo hi = some c → WE C Z σ Hs H (rD C) (.ok c e) Q → r x lo hi H Q)
    (h : SE C te me) (hl : SO C tl (mPart ml)) (hh : SO C th (mPart mh)) : SE C (tSl r te tl th) (mSl f me ml mh) := fun Z Hs e σ H k Q w =>
  h Z Hs e σ H k _ (we_bind (fun a e1 x Hs1 H1 p1 k1 r1 w1 => hl Z Hs1 e1 σ H1 k1 _ (we_bind (fun lo e2 lo' Hs2 H2 p2 k2 r2 w2 => hh Z Hs2 e2 σ H2 k2 _ (we_bind (fun hi e3 hi' Hs3 H3 p3 k3 r3 w3 => by
    have r2 : lo = lo' := r2
    have r3 : hi = hi' := r3
    subst r2; subst r3
    obtain ⟨c, hc, w4⟩ := we_of w3
    exact hr Z Hs3 e3 σ H3 k3 x a lo hi c Q (rep_le (p2.le.trans p3.le) r1) hc w4) w2)) w1)) w)
theorem seo_sl {r : V → Option Int → Option Int → Hp → VK → Prop} {f : Dv → Option Int → Option Int → Option (List Dv)} {te : TE} {me : ME Dv} {tl th : TO} {ml mh : Option (ME Dv)}
    (hr : ∀ Z Hs e σ H, StOk C Z Hs e σ H → ∀ x a lo hi c Q, Rep C.K C.sc Hs a x → f a lo hi = some c → WE C Z σ Hs H (rO C Z σ) (.ok (.lst c) e) Q → r x lo hi H Q)
    (h : SE C te me) (hl : SO C tl (mPart ml)) (hh : SO C th (mPart mh)) : SEO C (tSl r te tl th) (mSlN f me ml mh) := fun Z Hs e σ H k Q w =>
  h Z Hs e σ H k _ (we_bind (fun a e1 x Hs1 H1 p1 k1 r1 w1 => hl Z Hs1 e1 σ H1 k1 _ (we_bind (fun lo e2 lo' Hs2 H2 p2 k2 r2 w2 => hh Z Hs2 e2 σ H2 k2 _ (we_bind (fun hi e3 hi' Hs3 H3 p3 k3 r3 w3 => by
    have r2 : lo = lo' := r2
    have r3 : hi = hi' := r3
    subst r2; subst r3
    obtain ⟨o, ho, w4⟩ := we_of w3
    obtain ⟨c, hc, rfl⟩ := Option.map_eq_some_iff.mp ho
    exact hr Z Hs3 e3 σ H3 k3 x a lo hi c Q (rep_le (p2.le.trans p3.le) r1) hc w4) w2)) w1)) w)
theorem se_slT (hK : C.K = K) {te : TE} {me : ME Dv} {tl th : TO} {ml mh : Option (ME Dv)} (h : SE C te me) (hl : SO C tl (mPart ml)) (hh : SO C th (mPart mh)) : SE C (tSl (rSlAP K) te tl th) (mSl slT me ml mh) := se_sl (fun Z Hs e σ H k x a lo hi c Q ra hc w => by
  subst hK
  unfold slT at hc
  split at hc
  · cases hc
    simp only [Rep] at ra
    obtain ⟨p, xs, rfl, hx, rx⟩ := ra
    refine ⟨p, xs, rfl, sqt_le k.le hx.sq, fun z => ?_, fun z => ?_⟩
    · rw [← sIx_eq, ← sIx_eq, reps_len rx] at z
      rw [cutN_whole z] at w
      exact we_ok w k (by simp only [rD, Rep]; exact ⟨p, xs, rfl, hx, rx⟩)
    · rw [cutV_eq]
      exact we_newT w k (reps_cut rx lo hi)
  · cases hc) h hl hh
theorem seo_slL (hK : C.K = K) {te : TE} {me : ME Dv} {tl th : TO} {ml mh : Option (ME Dv)} (h : SE C te me) (hl : SO C tl (mPart ml)) (hh : SO C th (mPart mh)) : SEO C (tSl (rSlL K) te tl th) (mSlN slL me ml mh) := seo_sl (fun Z Hs e σ H k x a lo hi c Q ra hc w => by
  subst hK
  unfold slL at hc
  split at hc
  · cases hc
    simp only [Rep] at ra
    obtain ⟨p, xs, rfl, hx, rx⟩ := ra
    refine ⟨p, xs, rfl, SqL.of (k.le _ _ hx), fun l hl => ?_⟩
    rw [cutV_eq]
    exact we_newO w k hl (reps_cut rx lo hi)
  · cases hc) h hl hh
/-! ### isinstance -/
theorem se_isI (hK : C.K = K) {ta : TE} {ma : ME Dv} (ha : SE C ta ma) : SE C (tCB (rIsi K) (tCons ta (tCons (tC (.ty "int")) tNil))) (mO1 oIsI ma) := r2_isT hK (fun d c h => match d, h with
  | .tup ds, h => by cases h; exact ⟨_, rfl, (by decide +kernel : kitB "tuple" "int" = some false)⟩
  | .lst ds, h => by cases h; exact ⟨_, rfl, (by decide +kernel : kitB "list" "int" = some false)⟩
  | .int i, h => by cases h; exact ⟨_, rfl, (by decide +kernel : kitB "int" "int" = some true)⟩
  | .str x, h => by cases h; exact ⟨_, rfl, (by decide +kernel : kitB "str" "int" = some false)⟩
  | .bl x, h => by cases h; exact ⟨_, rfl, (by decide +kernel : kitB "bool" "int" = some true)⟩
  | .non, h => by cases h; exact ⟨_, rfl, (by decide +kernel : kitB "NoneType" "int" = some false)⟩
  | .scr ns, h => by cases h
  | .dct _ _, h => by cases h
  | .exc _ _ _, h => by cases h) ha
theorem se_isB (hK : C.K = K) {ta : TE} {ma : ME Dv} (ha : SE C ta ma) : SE C (tCB (rIsi K) (tCons ta (tCons (tC (.ty "bool")) tNil))) (mO1 oIsB ma) := r2_isT hK (fun d c h => match d, h with
  | .tup ds, h => by cases h; exact ⟨_, rfl, (by decide +kernel : kitB "tuple" "bool" = some false)⟩
  | .lst ds, h => by cases h; exact ⟨_, rfl, (by decide +kernel : kitB "list" "bool" = some false)⟩
  | .int i, h => by cases h; exact ⟨_, rfl, (by decide +kernel : kitB "int" "bool" = some false)⟩
  | .str x, h => by cases h; exact ⟨_, rfl, (by decide +kernel : kitB "str" "bool" = some false)⟩
  | .bl x, h => by cases h; exact ⟨_, rfl, (by decide +kernel : kitB "bool" "bool" = some true)⟩
  | .non, h => by cases h; exact ⟨_, rfl, (by decide +kernel : kitB "NoneType" "bool" = some false)⟩
  | .scr ns, h => by cases h
  | .dct _ _, h => by cases h
  | .exc _ _ _, h => by cases h) ha
theorem se_isL (hK : C.K = K) {ta : TE} {ma : ME Dv} (ha : SE C ta ma) : SE C (tCB (rIsi K) (tCons ta (tCons (tC (.ty "list")) tNil))) (mO1 oIsL ma) := r2_isT hK (fun d c h => match d, h with
  | .tup ds, h => by cases h; exact ⟨_, rfl, (by decide +kernel : kitB "tuple" "list" = some false)⟩
  | .lst ds, h => by cases h; exact ⟨_, rfl, (by decide +kernel : kitB "list" "list" = some true)⟩
  | .int i, h => by cases h; exact ⟨_, rfl, (by decide +kernel : kitB "int" "list" = some false)⟩
  | .str x, h => by cases h; exact ⟨_, rfl, (by decide +kernel : kitB "str" "list" = some false)⟩
  | .bl x, h => by cases h; exact ⟨_, rfl, (by decide +kernel : kitB "bool" "list" = some false)⟩
  | .non, h => by cases h; exact ⟨_, rfl, (by decide +kernel : kitB "NoneType" "list" = some false)⟩
  | .scr ns, h => by cases h
  | .dct _ _, h => by cases h
  | .exc _ _ _, h => by cases h) ha
end
/-! ### the readings with the written part by its name -/
section
variable {X : Cx} {K : PySem.W.Frag}
abbrev rLstK (K : PySem.W.Frag) : List V → Hp → VK → Prop := fun xs H Q => ∃ p ys, xs = [V.ref p] ∧ (SqL K H p ys ∨ SqT K H p ys) ∧ ∀ l, H l = none → Q (.ref l) (upd H l (.lst ys))
theorem eqdK (hK : X.K = K) (hu : X.A.units + 64 < PySem.cLine) : OpR X (PySem.compareOp .Eq) (rEqD K) := by subst hK; exact op_eqD hu
theorem nedK (hK : X.K = K) (hu : X.A.units + 64 < PySem.cLine) : OpR X (PySem.compareOp .NotEq) (rNeD K) := by subst hK; exact op_neD hu
theorem inK (hK : X.K = K) : OpR X (PySem.compareOp .In) (rIn K false) := by subst hK; exact op_in_seq
theorem niK (hK : X.K = K) : OpR X (PySem.compareOp .NotIn) (rIn K true) := by subst hK; exact op_notIn_seq
theorem catTK (hK : X.K = K) : OpR X (PySem.binaryOp .Add) (rCatTP K) := by subst hK; exact op_catTP
theorem sumK (hK : X.K = K) (hc : X.calm = true) : CallR X (.builtin "sum") (rSum K) := by subst hK; exact cr_sum hc
theorem anyK (hK : X.K = K) (hc : X.calm = true) : CallR X (.builtin "any") (rAny K) := by subst hK; exact cr_any hc
theorem lstK (hK : X.K = K) : CallR X (.type "list") (rLstK K) := by subst hK; exact call_list_of
theorem slaK (hK : X.K = K) : SlR X (rSlAP K) := by subst hK; exact sl_tupAP
theorem sllK (hK : X.K = K) : SlR X (rSlL K) := by subst hK; exact sl_list
end
end Ml

set_option autoImplicit false
/-! Owned lists given up, popped; ranges as data. -/
namespace Ml
/-- from here on the list in slot i is never changed -/
def sFrz (i : Nat) (m : MS) : MS := fun e => match e[i]? with
  | some (.ow none (.lst ds)) => m (e.set i (.fz (.lst ds)))
  | _ => .ud
/-- x.pop(i), x owned -/
def mPopAt (i : Nat) (mk : ME Dv) : ME Dv := fun e => if isLs e[i]? = true then (mk e).bind fun k e => match e[i]?, k with
    | some (.ow j (.lst ds)), .int k => if 0 ≤ k ∧ k < ds.length ∧ k < 1000000000 then (match ds[k.toNat]? with
      | some y => .ok y (e.set i (.ow j (.lst (ds.eraseIdx k.toNat))))
      | none => .ud) else .ud
    | _, _ => .ud
  else .ud
/-- x.pop(), x owned -/
def mPop (i : Nat) : ME Dv := fun e => match e[i]? with
  | some (.ow j (.lst ds)) => match ds[ds.length - 1]? with
    | some y => .ok y (e.set i (.ow j (.lst ds.dropLast)))
    | none => .ud
  | _ => .ud
def itRs (lo hi : Int) : Option (List Dv) := if -lim ≤ lo ∧ lo ≤ lim ∧ -lim ≤ hi ∧ hi - lo ≤ lim then some ((List.range (hi - lo).toNat).map fun (k : Nat) => Dv.int (lo + (k : Int))) else none
def mRs1 (m : ME Dv) : ME (List Dv) := fun e => (m e).bind fun d e => match d with
  | .int n => .of (itRs 0 n) e
  | _ => .ud
def mRs2 (a b : ME Dv) : ME (List Dv) := fun e => (a e).bind fun x e => (b e).bind fun y e => match x, y with
  | .int x, .int y => .of (itRs x y) e
  | _, _ => .ud
/-- tuple(range(..)), list(range(..)) -/
def mTupR (m : ME (List Dv)) : ME Dv := fun e => (m e).bind fun ds e => .ok (.tup ds) e
def mLstR (m : ME (List Dv)) : ME Ob := fun e => (m e).bind fun ds e => .ok (.lst ds) e
/-- x in an owned list, the list to the right -/
def mInO (neg : Bool) (ma : ME Dv) (i : Nat) : ME Dv := fun e => (ma e).bind fun a e => match e[i]? with
  | some (.ow _ (.lst ds)) => .of (if neg = true then wNi ds a else wIn ds a) e
  | _ => .ud
end Ml

set_option linter.all false
set_option autoImplicit false
set_option maxRecDepth 100000
set_option maxHeartbeats 1000000
/-! Owned lists given up, popped; ranges as data. -/
namespace Ml
open L2
open PySem (Addr Str sizeLine)
section
variable {C : Cc} {K : PySem.W.Frag}
/-- a list given up -/
theorem stok_frz {Z Hs : Hp} {e : Loc} {σ : L2.St} {H : Hp} (k : StOk C Z Hs e σ H) {i : Nat} {ds : List Dv} (he : e[i]? = some (.ow none (.lst ds))) :
    ∃ p xs, σ[i]? = some (some (.ref p)) ∧ H p = some (.lst xs) ∧ Hs p = none ∧ Reps C.K C.sc (upd Hs p (.lst xs)) ds xs ∧ StOk C Z (upd Hs p (.lst xs)) (e.set i (.fz (.lst ds))) σ H := by
  obtain ⟨p, e1, hn, ⟨xs, hx, rx⟩, h0⟩ := k.own he
  have hi : i < e.length := (List.getElem?_eq_some_iff.mp he).1
  have hn' : ∀ (i' : Nat) j u, (e.set i .un)[i']? = some (.ow j u) → (σ.set i (some (V.ref p)))[i']? ≠ some (some (.ref p)) := fun i' j u h1 h2 => by
    have z : i ≠ i' := fun z => by subst z; rw [List.getElem?_set_self hi] at h1; cases h1
    rw [List.getElem?_set_ne z] at h1 h2
    exact z (k.sep i i' none j _ u p he h1 e1 h2)
  have k1 := (k.setU (i := i) (x := some (V.ref p))).freeze hx h0 hn (k.hids i none (.lst ds) p he e1) hn'
  have es : σ.set i (some (V.ref p)) = σ := by
    apply List.ext_getElem?
    intro j
    by_cases z : i = j
    · subst z; rw [List.getElem?_set_self (by rw [k.len]; exact hi)]; exact e1.symm
    · rw [List.getElem?_set_ne z]
  have rr : Reps C.K C.sc (upd Hs p (.lst xs)) ds xs := reps_le (Le.new hn) rx
  have r : Rep C.K C.sc (upd Hs p (.lst xs)) (.lst ds) (.ref p) := by
    simp only [Rep]
    exact ⟨p, xs, rfl, upd_same, rr⟩
  have k2 := k1.setF (i := i) r
  rw [List.set_set, List.set_set, es] at k2
  exact ⟨p, xs, e1, hx, hn, rr, k2⟩
theorem ss_frz {i : Nat} {A : List Nat} {t : TS} {m : MS} (h : SS C A t m) : SS C A t (sFrz i m) := fun Z Hs e σ H k Dn w => by
  unfold sFrz at w
  split at w
  · rename_i ds he
    obtain ⟨p, xs, _, _, hn, _, k2⟩ := stok_frz k he
    exact h Z _ _ σ H k2 Dn (ws_step ⟨Le.new hn, fun _ z => z⟩ (fun _ z => z) w)
  · exact w.elim
/-! ### pop -/
theorem reps_erase {Hs : Hp} : ∀ {n : Nat} {ds : List Dv} {xs : List V}, Reps C.K C.sc Hs ds xs → Reps C.K C.sc Hs (ds.eraseIdx n) (xs.eraseIdx n)
  | n, [], xs, r => by simp only [Reps] at r; subst r; simp only [List.eraseIdx_nil]; exact reps_nil
  | 0, d :: ds, xs, r => by
    simp only [Reps] at r
    obtain ⟨v, q, rfl, r1, r2⟩ := r
    simp only [List.eraseIdx_cons_zero]; exact r2
  | n + 1, d :: ds, xs, r => by
    simp only [Reps] at r
    obtain ⟨v, q, rfl, r1, r2⟩ := r
    simp only [List.eraseIdx_cons_succ]; exact reps_cons r1 (reps_erase r2)
theorem se_popAt {i : Nat} {te : TE} {me : ME Dv} (h : SE C te me) : SE C (tBM K "list" rPopAt (tVar i) (tCons te tNil)) (mPopAt i me) := fun Z Hs e σ H k Q w => by
  unfold mPopAt at w
  split at w
  · rename_i ho
    obtain ⟨j, ds0, he⟩ := ls_of ho
    obtain ⟨p, e1, hn, own, _⟩ := k.own he
    obtain ⟨xs0, hx0, _⟩ := own
    refine ⟨_, e1, .inl ⟨rfl, xs0, SqL.of hx0⟩, h Z Hs e σ H k _ (we_bind (fun d e2 v Hs2 H2 p2 k2 r2 w2 => ?_) w)⟩
    split at w2
    · rename_i j2 ds kk he2
      split at w2
      · rename_i hb
        split at w2
        · rename_i y hy
          simp only [rD, Rep] at r2
          subst r2
          obtain ⟨p', e1', _, ⟨xs, hx, rx⟩, _⟩ := k2.own he2
          rw [e1] at e1'; cases e1'
          obtain ⟨v, hv, rv⟩ := reps_get rx hy
          have hl := reps_len rx
          refine ⟨p, xs, kk, kk.toNat, v, rfl, rfl, hx, ?_, ?_, PySem.seqIndex_of hb.1 (by rw [hl]; exact hb.2.1), hv, ?_⟩
          · omega
          · omega
          · exact w2 v Hs2 _ Post.newO (k2.mut he2 e1 ⟨_, upd_same, reps_erase rx⟩) rv
        · exact w2.elim
      · exact w2.elim
    · exact w2.elim
  · exact w.elim
theorem se_pop {i : Nat} : SE C (tBM0 K "list" rPop (tVar i)) (mPop i) := fun Z Hs e σ H k Q w => by
  unfold mPop at w
  split at w
  · rename_i j ds he
    split at w
    · rename_i y hy
      obtain ⟨p, e1, hn, ⟨xs, hx, rx⟩, _⟩ := k.own he
      have hl := reps_len rx
      obtain ⟨v, hv, rv⟩ := reps_get rx hy
      refine ⟨_, e1, .inl ⟨rfl, xs, SqL.of hx⟩, p, xs, v, rfl, rfl, hx, by rw [hl]; exact hv, ?_⟩
      refine w v Hs _ Post.newO (k.mut he e1 ⟨_, upd_same, ?_⟩) rv
      rw [List.dropLast_eq_take, List.dropLast_eq_take, hl]
      exact reps_take rx
    · exact w.elim
  · exact w.elim
/-! ### x in an owned list -/
theorem se_inO {i : Nat} {ta : TE} {ma : ME Dv} {neg : Bool} (hK : C.K = K) (ha : SE C ta ma) : SE C (tOp (rIn K neg) ta (tVar i)) (mInO neg ma i) := fun Z Hs e σ H k Q w =>
  ha Z Hs e σ H k _ (we_bind (fun a e1 x Hs1 H1 p1 k1 r1 w1 => by
    subst hK
    split at w1
    · rename_i j ds he
      obtain ⟨p, e2, hn, ⟨xs, hx, rx⟩, _⟩ := k1.own he
      obtain ⟨c, hc, w2⟩ := we_of w1
      refine ⟨_, e2, p, xs, rfl, .inl (SqL.of hx), ?_⟩
      cases neg with
      | true =>
        rw [if_pos rfl] at hc
        unfold wNi at hc
        split at hc
        · rename_i hf
          cases hc
          refine ⟨flat_ok r1 hf.1, flats_ok rx hf.2, ?_⟩
          rw [if_pos rfl, anyF_ok r1 hf.1 rx hf.2]
          exact we_ok w2 k1 (by simp only [rD, Rep])
        · cases hc
      | false =>
        rw [if_neg (by decide)] at hc
        unfold wIn at hc
        split at hc
        · rename_i hf
          cases hc
          refine ⟨flat_ok r1 hf.1, flats_ok rx hf.2, ?_⟩
          rw [if_neg (by decide), anyF_ok r1 hf.1 rx hf.2]
          exact we_ok w2 k1 (by simp only [rD, Rep])
        · cases hc
    · exact w1.elim) w)
/-! ### ranges as data -/
def SR (C : Cc) (t : L2.St → Hp → (Int → Int → Hp → Prop) → Prop) (m : ME (List Dv)) : Prop := ∀ Z Hs e σ H, StOk C Z Hs e σ H → ∀ Q : Int → Int → Hp → Prop,
  WE C Z σ Hs H (fun ds _ (ab : Int × Int) _ _ => RgOk ab.1 ab.2 ∧ ds = (List.range (ab.2 - ab.1).toNat).map fun (k : Nat) => Dv.int (ab.1 + (k : Int))) (m e) (fun ab => Q ab.1 ab.2) → t σ H Q
theorem itRs_some {lo hi : Int} {ds : List Dv} (h : itRs lo hi = some ds) : RgOk lo hi ∧ ds = (List.range (hi - lo).toNat).map fun (k : Nat) => Dv.int (lo + (k : Int)) := by
  unfold itRs lim at h
  split at h
  · rename_i hb
    cases h
    exact ⟨⟨by omega, by omega, by omega, by omega, by omega⟩, rfl⟩
  · cases h
theorem sr_1 {ta : TE} {ma : ME Dv} (ha : SE C ta ma) : SR C (tRg1 ta) (mRs1 ma) := fun Z Hs e σ H k Q w =>
  ha Z Hs e σ H k _ (we_bind (fun a e1 x Hs1 H1 p1 k1 r1 w1 => by
    split at w1
    · rename_i n
      simp only [rD, Rep] at r1
      subst r1
      obtain ⟨ds, hd, w2⟩ := we_of w1
      exact ⟨n, rfl, we_ok (b := ((0 : Int), n)) w2 k1 (itRs_some hd)⟩
    · exact w1.elim) w)
theorem sr_2 {ta tb : TE} {ma mb : ME Dv} (ha : SE C ta ma) (hb : SE C tb mb) : SR C (tRg2 ta tb) (mRs2 ma mb) := fun Z Hs e σ H k Q w =>
  ha Z Hs e σ H k _ (we_bind (fun a e1 x Hs1 H1 p1 k1 r1 w1 => hb Z Hs1 e1 σ H1 k1 _ (we_bind (fun b e2 y Hs2 H2 p2 k2 r2 w2 => by
    split at w2
    · rename_i n m
      simp only [rD, Rep] at r1 r2
      subst r1; subst r2
      obtain ⟨ds, hd, w3⟩ := we_of w2
      exact ⟨n, m, rfl, rfl, we_ok (b := (n, m)) w3 k2 (itRs_some hd)⟩
    · exact w2.elim) w1)) w)
theorem reps_rg {Hs : Hp} (a b : Int) : Reps C.K C.sc Hs ((List.range (b - a).toNat).map fun (k : Nat) => Dv.int (a + (k : Int))) (rgV a b) := by
  have : rgV a b = ((List.range (b - a).toNat).map fun (k : Nat) => a + (k : Int)).map V.int := by unfold rgV; rw [List.map_map]; rfl
  rw [this, show ((List.range (b - a).toNat).map fun (k : Nat) => Dv.int (a + (k : Int))) = ((List.range (b - a).toNat).map fun (k : Nat) => a + (k : Int)).map Dv.int from by rw [List.map_map]; rfl]
  exact reps_ints
theorem se_tupR {t : L2.St → Hp → (Int → Int → Hp → Prop) → Prop} {m : ME (List Dv)} (h : SR C t m) : SE C (tTupRgP t) (mTupR m) := fun Z Hs e σ H k Q w =>
  h Z Hs e σ H k _ (we_bind (fun ds e1 ab Hs1 H1 p1 k1 r1 w1 => by
    obtain ⟨ok, rfl⟩ := r1
    exact ⟨ok, we_newT w1 k1 (reps_rg _ _)⟩) w)
theorem seo_lstR {t : L2.St → Hp → (Int → Int → Hp → Prop) → Prop} {m : ME (List Dv)} (h : SR C t m) : SEO C (tLstRg t) (mLstR m) := fun Z Hs e σ H k Q w =>
  h Z Hs e σ H k _ (we_bind (fun ds e1 ab Hs1 H1 p1 k1 r1 w1 => by
    obtain ⟨ok, rfl⟩ := r1
    exact ⟨ok, fun q hq => we_newO w1 k1 hq (reps_rg _ _)⟩) w)
end
end Ml

set_option linter.all false
set_option autoImplicit false
set_option maxRecDepth 100000
set_option maxHeartbeats 1000000
/-! A module's own tuples. -/
namespace Ml
open L2
open PySem (Addr Str sizeLine)
/-- a name of the module that holds data -/
def ConT (K : PySem.W.Frag) (x : Str) (d : Dv) : Prop := ∃ v : V, ConK K x v ∧ ∀ (sc : Sc) (Hs : Hp), Rep K sc Hs d v
def valsOf : List Dv → List PySem.Value → Option (List V)
  | [], [] => some []
  | .str s :: ds, .str z _ :: us => if z = sOf s then (valsOf ds us).map fun r => V.str z :: r else none
  | .int i :: ds, .int z _ :: us => if z = i then (valsOf ds us).map fun r => V.int z :: r else none
  | _, _ => none
theorem valsOf_ok {K : PySem.W.Frag} {sc : Sc} {Hs : Hp} {ds : List Dv} : ∀ {us : List PySem.Value} {xs : List V}, valsOf ds us = some xs → Vals xs us ∧ Reps K sc Hs ds xs := by
  induction ds with
  | nil =>
    intro us xs h
    cases us with
    | nil => cases h; exact ⟨.nil, reps_nil⟩
    | cons u us => simp [valsOf] at h
  | cons d ds ih =>
    intro us xs h
    cases us with
    | nil => cases d <;> simp [valsOf] at h
    | cons u us =>
      cases d with
      | str s =>
        cases u with
        | str z t =>
          simp only [valsOf] at h
          split at h
          · rename_i hz
            obtain ⟨r, hr, rfl⟩ := Option.map_eq_some_iff.mp h
            obtain ⟨a, b⟩ := ih hr
            exact ⟨.cons ⟨t, rfl⟩ a, reps_cons (by simp only [Rep]; rw [hz]) b⟩
          · cases h
        | _ => simp [valsOf] at h
      | int s =>
        cases u with
        | int z t =>
          simp only [valsOf] at h
          split at h
          · rename_i hz
            obtain ⟨r, hr, rfl⟩ := Option.map_eq_some_iff.mp h
            obtain ⟨a, b⟩ := ih hr
            exact ⟨.cons ⟨t, rfl⟩ a, reps_cons (by simp only [Rep]; rw [hz]) b⟩
          · cases h
        | _ => simp [valsOf] at h
      | _ => simp [valsOf] at h
theorem conT_mk {K : PySem.W.Frag} {x : Str} {a : Addr} {ds : List Dv} {its : Array PySem.Value} {n : Nat} {osl : Array (Option PySem.Value)} (h : PySem.W.nsIn K PySem.mainGlobals x = some (some (.ref a)))
    (l : K.lookup a = some ⟨.type "tuple", none, .seq its n, osl⟩) (hv : (valsOf ds its.toList).isSome = true) (hz : its.size ≤ sizeLine) : ConT K x (.tup ds) := by
  obtain ⟨xs, hx⟩ := Option.isSome_iff_exists.mp hv
  refine ⟨.ref a, ⟨_, h, rfl⟩, fun sc Hs => ?_⟩
  obtain ⟨v, r⟩ := valsOf_ok (K := K) (sc := sc) (Hs := Hs) hx
  simp only [Rep]
  exact ⟨a, xs, rfl, .inr ⟨_, its, n, l, rfl, rfl, rfl, hz, v⟩, r⟩
end Ml

set_option autoImplicit false
/-! Errors raised and caught; enumerate; sorted of tuples of ints; two fors in a comprehension. -/
namespace Ml
def sRaise (c f : List Nat) (m : ME Dv) : MS := fun e => (m e).go fun d e => if lowD 60 d = true then .er (c, [.str f, d]) e else .ud
def mIsX (tab : List (List Nat × Bool)) (m : ME Dv) : ME Dv := fun e => (m e).bind fun a e => match a with
  | .exc c _ _ => .of ((tab.lookup c).map .bl) e
  | _ => .ud
def mFld (f : List Nat) (m : ME Dv) : ME Dv := fun e => (m e).bind fun a e => match a with
  | .exc _ g d => if g = f then .ok d e else .ud
  | _ => .ud
def nxS : Slt → Bool
  | .fz d => lowD 60 d
  | .ow none (.lst ds) => lowDs 60 ds
  | _ => false
/-- try: b except .. as x: return F(x); tab: which classes are caught -/
def sTryF (b : MS) (tab : List (List Nat × Bool)) (i : Nat) (F : Fn) : MS := fun e => match b e with
  | .er x e' => match x.2 with
    | [.str f, d] => match tab.lookup x.1 with
      | some true => if i < e'.length then (match F [.fz (.exc x.1 f d)] with
        | .ok s [] => if nxS s = true then .rt s e' else .ud
        | _ => .ud) else .ud
      | some false => .er x e'
      | none => .ud
    | _ => .ud
  | r => r
def enumD : Nat → List Dv → List Dv
  | _, [] => []
  | k, d :: ds => .tup [.int k, d] :: enumD (k + 1) ds
def mItE (f : Dv → Option (List Dv)) (m : ME Dv) : ME (List Dv) := fun e => (m e).bind fun d e => .of ((f d).map (enumD 0)) e
/-! sorted -/
def intsD : List Dv → Option (List Int)
  | [] => some []
  | .int i :: r => (intsD r).map fun x => i :: x
  | _ :: _ => none
/-- a tuple of ints, at least one -/
def tupI : Dv → Option (List Int)
  | .tup ds => match intsD ds with
    | some (x :: r) => some (x :: r)
    | _ => none
  | _ => none
def ltI : List Int → List Int → Bool
  | [], [] => false
  | [], _ :: _ => true
  | _ :: _, [] => false
  | a :: r, b :: s => if a = b then ltI r s else decide (a < b)
def insD (x : List Int × Dv) : List (List Int × Dv) → List (List Int × Dv)
  | [] => [x]
  | y :: r => if ltI y.1 x.1 = true then y :: insD x r else x :: y :: r
def srtD : List (List Int × Dv) → List (List Int × Dv)
  | [] => []
  | x :: r => insD x (srtD r)
def tupsI : List Dv → Option (List (List Int × Dv))
  | [] => some []
  | d :: ds => match tupI d, tupsI ds with
    | some k, some r => some ((k, d) :: r)
    | _, _ => none
def oSortT : Dv → Option (List Dv)
  | .lst ds => (tupsI ds).map fun ps => (srtD ps).map (·.2)
  | _ => none
def wSortT (ds : List Dv) : Option (List Dv) := (tupsI ds).map fun ps => (srtD ps).map (·.2)
def mOwnN (i : Nat) (f : List Dv → Option (List Dv)) : ME Ob := fun e => match e[i]? with
  | some (.ow _ (.lst ds)) => .of ((f ds).map Ob.lst) e
  | _ => .ud
end Ml
namespace Ml
def lcGo2 (g : MG) (t : ME Bool) (mi1 : ME (List Dv)) (g1 : MG) (t1 : ME Bool) (m : ME Dv) (vs vs1 : List Nat) : List Dv → List Dv → Loc → Option (List Dv × Loc)
  | [], acc, e => some (acc, e)
  | d :: ds, acc, e => match g d e with
    | none => none
    | some e => match t e with
      | .ok true e => match mi1 e with
        | .ok ds1 e => match lcGo g1 t1 m vs1 ds1 acc (wipeE e vs1) with
          | some (acc, e) => lcGo2 g t mi1 g1 t1 m vs vs1 ds acc (wipeE e vs)
          | none => none
        | _ => none
      | .ok false e => lcGo2 g t mi1 g1 t1 m vs vs1 ds acc (wipeE e vs)
      | _ => none
/-- [m for g in mi if t for g1 in mi1 if t1] -/
def mLc2 (mi : ME (List Dv)) (g : MG) (t : ME Bool) (mi1 : ME (List Dv)) (g1 : MG) (t1 : ME Bool) (m : ME Dv) (vs vs1 : List Nat) : ME Ob := fun e => (mi e).bind fun ds e =>
  if noOw e vs = true then match lcGo2 g t mi1 g1 t1 m vs vs1 ds [] (wipeE e vs) with
    | some (acc, e') => .ok (.lst acc) (backE e e' vs)
    | none => .ud
  else .ud
end Ml
namespace Ml
/-- for g in x: b, x an owned list in slot i, read turn by turn -/
def loopO (i : Nat) (g : MG) (b : MS) : Nat → Nat → MS
  | 0, _, _ => .ud
  | n + 1, k, e => match e[i]? with
    | some (.ow _ (.lst ds)) => match ds[k]? with
      | none => .nx e
      | some d => match g d e with
        | none => .ud
        | some e => match b e with
          | .nx e => loopO i g b n (k + 1) e
          | .ct e => loopO i g b n (k + 1) e
          | .bk e => .nx e
          | r => r
    | _ => .ud
def sForO (i : Nat) (g : MG) (b : MS) : MS := fun e => loopO i g b lim 0 e
def lcGoO (i : Nat) (g : MG) (t : ME Bool) (m : ME Dv) (vs : List Nat) : Nat → Nat → List Dv → Loc → Option (List Dv × Loc)
  | 0, _, _, _ => none
  | n + 1, k, acc, e => match e[i]? with
    | some (.ow _ (.lst ds)) => match ds[k]? with
      | none => some (acc, e)
      | some d => match g d e with
        | none => none
        | some e => match t e with
          | .ok true e => match m e with
            | .ok y e => if acc.length < lim then lcGoO i g t m vs n (k + 1) (acc ++ [y]) (wipeE e vs) else none
            | _ => none
          | .ok false e => lcGoO i g t m vs n (k + 1) acc (wipeE e vs)
          | _ => none
    | _ => none
/-- [m for g in x if t], x an owned list in slot i -/
def mLcO (i : Nat) (g : MG) (t : ME Bool) (m : ME Dv) (vs : List Nat) : ME Ob := fun e => if isLs e[i]? = true ∧ noOw e vs = true then
    match lcGoO i g t m vs lim 0 [] (wipeE e vs) with
    | some (acc, e') => .ok (.lst acc) (backE e e' vs)
    | none => .ud
  else .ud
/-- while t: b -/
def loopW (t : ME Bool) (b : MS) : Nat → MS
  | 0, _ => .ud
  | n + 1, e => (t e).go fun x e => if x = true then (match b e with
      | .nx e => loopW t b n e
      | .ct e => loopW t b n e
      | .bk e => .nx e
      | r => r) else .nx e
def sWhile (t : ME Bool) (b : MS) : MS := fun e => loopW t b lim e
end Ml
namespace Ml
/-- x in a list of data -/
def oInD (a b : Dv) : Option Dv := match b with
  | .lst ds => if lowD 60 a = true ∧ lowD 60 (.lst ds) = true then some (.bl (ds.any fun y => eqD y a)) else none
  | _ => none
def oNiD (a b : Dv) : Option Dv := match b with
  | .lst ds => if lowD 60 a = true ∧ lowD 60 (.lst ds) = true then some (.bl (!(ds.any fun y => eqD y a))) else none
  | _ => none
end Ml

set_option linter.all false
set_option maxRecDepth 100000
set_option maxHeartbeats 4000000
/-! enumerate over a tuple. -/
namespace PySem
open PyProof.Rows
theorem meets_enumN {v : Value} {o : Obj} {H : Heap → Prop} (B : Begins v o H) :
    Meets (Builtin.«enumerate.__new__» ⟨[.type "enumerate", v], []⟩) (fun _ R s => H s.heap ∧
      R (.ok (.ret (.ref (s.heap.push o).objs.size))) { s with heap := (s.heap.push o).push { cls := .type "enumerate", data := .fields #[.none, .bool false, .ref s.heap.objs.size, rawInt 0, .none, .none] } }) :=
  .of_wp fun prog w A R s h => by
    obtain ⟨hp, g, d, tk, os⟩ := s; obtain ⟨h1, h⟩ := h
    have hsub := sub_enumerate
    have q1 : ∀ {A' : Around} {E : Value → Shared → Prop} {Q : Value → Shared → Prop}, Q (.ref hp.objs.size) ⟨hp.push o, g, d, tk, os⟩ → wpAny (model prog w) A' (pyIter v) Q E ⟨hp, g, d, tk, os⟩ :=
      fun q => B.iter prog w _ _ ⟨hp, g, d, tk, os⟩ _ h1 q
    wp_walk using q1
    refine wpAny_stack_any fun st => wpAny_pure ?_
    split
    · rename_i c _ _ _ _ _
      cases (c == Value.type "enumerate")
      · wp_walk using q1
        exact ⟨_, rfl, h⟩
      · wp_walk using q1
        exact ⟨_, rfl, h⟩
    · wp_walk using q1
      exact ⟨_, rfl, h⟩
section
variable {prog : Program} {w : World} {A : Around} {E : Value → Shared → Prop} {s : Shared}
theorem enum_beginsN {v : Value} {o : Obj} {H : Heap → Prop} {Q : Value → Shared → Prop} (B : Begins v o H) (h1 : H s.heap)
    (h : ∀ h', IsEnum h' (s.heap.objs.size + 1) s.heap.objs.size 0 .none → h'.get? s.heap.objs.size = some o → h'.objs.size = s.heap.objs.size + 2 →
      (∀ b o, s.heap.get? b = some o → h'.get? b = some o) → Q (.ref (s.heap.objs.size + 1)) { s with heap := h' }) :
    wpAny (model prog w) A (call (.type "enumerate") [v]) Q E s := by
  refine callType_new F.called_enumerate (by decide) (F.typeCall_enumerate_1 _) (F.newCall_enumerate_1 _) (fun obj => F.args_object_init_2 obj _) F.entry_enumerate_new
    (meets_enumN B) ⟨h1, ?_⟩
  have hz : (s.heap.push o).objs.size = s.heap.objs.size + 1 := Heap.size_push ..
  show _ ∧ _
  rw [hz]
  have he : IsEnum ((s.heap.push o).push { cls := .type "enumerate", data := .fields #[.none, .bool false, .ref s.heap.objs.size, rawInt 0, .none, .none] }) (s.heap.objs.size + 1) s.heap.objs.size 0 .none := by
    have := Heap.get?_push_size (s.heap.push o) (o := { cls := .type "enumerate", data := .fields #[.none, .bool false, .ref s.heap.objs.size, rawInt 0, .none, .none] }) rfl
    rw [hz] at this; exact this
  refine ⟨⟨_, he, rfl⟩, h _ he (Heap.get?_push_of_some _ (Heap.get?_push_size _ B.free)) (by rw [Heap.size_push, hz]) fun b o x => Heap.get?_push_of_some _ (Heap.get?_push_of_some _ x)⟩
end
end PySem
namespace L2
open PySem PySem.Spec PyProof.Rows
/-- the tuple at a, each item in a new pair -/
def IteT (K : PySem.W.Frag) (a : Addr) : It :=
  ⟨fun i H => ∃ (xs : List V) (x : V), SqT K H a xs ∧ xs[i]? = some x, fun i H v H' => ∃ (T : Addr) (x : V) (o : Obj), v = .ref T ∧ H T = none ∧ H' = upd H T (.frz o (.tup [.int (i : Nat), x])) ∧ o.cls = .type "tuple" ∧ o.dict = none ∧ ∀ xs, SqT K H a xs → xs[i]? = some x, fun i H => ∃ xs : List V, SqT K H a xs ∧ xs.length ≤ i⟩
theorem turn_enumT {P : Program} {w : World} {K : PySem.W.Frag} {elts : List Expr} {kk : Nat} {tpos : Pos} (a e it : Addr) (hat : a ≠ it) (hea : e ≠ a) :
    Turn P w K (.Tuple elts kk tpos) (IteT K a) [e, it] e (fun i h => (∃ old, IsEnum h e it ((i : Nat) : Int) old) ∧ h.IsTupleIter it a i ∧ e ≠ it) where
  mem := by simp
  obj := fun i h st b hb => by
    obtain ⟨⟨old, he⟩, ⟨o, ho, hc, hd⟩, _⟩ := st
    have e' : b = e ∨ b = it := by simpa using hb
    rcases e' with z | z
    · rw [z]; exact ⟨_, he, fun v q => nomatch q⟩
    · rw [z]; exact ⟨o, ho, fun v q => by rw [hd] at q; cases q⟩
  keep := fun i h h' st k => let ⟨⟨old, he⟩, hi, hne⟩ := st; ⟨⟨old, k e (by simp) _ he⟩, hi.at fun o q => k it (by simp) o q, hne⟩
  item := by
    intro X hP hw hK hc i pins s σ H E I hf st hg
    subst hP hw hK
    obtain ⟨⟨old, he⟩, hit, hne⟩ := st
    obtain ⟨xs, x, hq, hx⟩ := hg
    obtain ⟨its, rv, p, hz⟩ := I.tuple hq
    obtain ⟨u, hu, ru⟩ := rv.get hx
    have hel : e < s.heap.objs.size := Heap.lt_size he
    have hil : it < s.heap.objs.size := by obtain ⟨_, q, _⟩ := hit; exact Heap.lt_size q
    have p' : s.heap.IsTuple a its.toArray := p
    refine wpAny_pyNext_enum_itemC (Draws.tuple (show X.A.in1.handled = none from I.ok.hd hc) it a hat its.toArray) he ⟨hit, p'⟩ (i := i) (by have := (List.getElem?_eq_some_iff.mp hu).1; simpa using this) hne (by simp; exact ⟨hne, hea⟩) fun y h' tk hy ho hst' hT hsz hk => ?_
    have ey : y = u := by
      have q : its.toArray[i]? = some u := by simpa using hu
      rw [q] at hy; exact (Option.some.inj hy).symm
    subst ey
    refine ⟨_, rfl, wpAny_letOwnedTupleGo_enum (s := { s with heap := h', toks := tk + 1 }) ho fun h'' he' sb => ?_⟩
    have hT2 : h''.get? s.heap.objs.size = some { cls := .type "tuple", data := .seq #[.int i tk, y] } := (sb.2 _ (Nat.ne_of_gt hel)).trans hT
    have new : ObjOk X.prog X.w (upd H s.heap.objs.size (.frz { cls := .type "tuple", data := .seq #[.int i tk, y] } (.tup [.int (i : Nat), x]))) h'' s.heap.objs.size (.frz { cls := .type "tuple", data := .seq #[.int i tk, y] } (.tup [.int (i : Nat), x])) :=
      ⟨hT2, by show 2 ≤ sizeLine; decide, [.int i tk, y], .cons ⟨_, rfl⟩ (.cons ru .nil), ⟨_, hT2, rfl, _, rfl⟩⟩
    have I1 : Inv X pins σ (upd H s.heap.objs.size (.frz { cls := .type "tuple", data := .seq #[.int i tk, y] } (.tup [.int (i : Nat), x]))) { s with heap := h'', toks := tk + 1 } :=
      I.turnedNew (ch := [e, it]) (fun b ob hb q => (sb.2 b (fun z => hb (by simp [z]))).trans (hk b ob (fun z => hb (by simp [z])) (fun z => hb (by simp [z])) q)) hf (Nat.le_refl _) new
    refine ⟨.ref s.heap.objs.size, _, I1, rfl, ⟨_, x, _, rfl, I.hok.fresh (Nat.le_refl _), rfl, rfl, rfl, fun ys hy => by rw [I.tuple_inj hy hq]; exact hx⟩, ⟨⟨y, ?_⟩, hst'.1.at fun o q => (sb.2 it (Ne.symm hne)).trans q, hne⟩, fun b hb => ?_⟩
    · have e1 : ((i + 1 : Nat) : Int) = (i : Int) + 1 := by omega
      rw [e1]; exact he'
    · have hb' : b < s.heap.objs.size := by
        have e' : b = e ∨ b = it := by simpa using hb
        rcases e' with z | z
        · rw [z]; exact hel
        · rw [z]; exact hil
      rw [upd_ne (Nat.ne_of_lt hb')]
      exact (hf b hb).1
  done := by
    intro X hP hw hK hc i pins s σ H E I hf st hg
    subst hP hw hK
    obtain ⟨⟨old, he⟩, hit, hne⟩ := st
    obtain ⟨xs, hq, hx⟩ := hg
    obtain ⟨its, rv, p, hz⟩ := I.tuple hq
    obtain ⟨f0, f1, f2, f3, f4, f5⟩ := hf it (by simp)
    have hl := rv.length
    have p' : s.heap.IsTuple a its.toArray := p
    have D : Draws X.prog X.w X.A.in1 it [it, a] i (fun j v => its.toArray[j]? = some v) (fun j h => (j = i → h.IsTupleIter it a i) ∧ h.IsTuple a its.toArray ∧ (j < i → False) ∧ ∃ o, h.get? it = some o) := {
      live := fun _ _ st => st.2.2.2
      frame := fun j h h' st k => ⟨fun z => (st.1 z).at fun o q => k it (by simp) o q, st.2.1.at fun o q => k a (by simp) o q, st.2.2.1, let ⟨o, q⟩ := st.2.2.2; ⟨o, k it (by simp) o q⟩⟩
      item := fun j s Q E hj st _ => (st.2.2.1 hj).elim
      done := fun s Q E st hE => wpAny_nextOf_tuple_end (show X.A.in1.handled = none from I.ok.hd hc) (st.1 rfl) st.2.1 (by simp; omega) hE }
    exact wpAny_pyNext_enum_endD D he ⟨fun _ => hit, p', fun z => absurd z (Nat.lt_irrefl _), let ⟨o, q, _⟩ := hit; ⟨o, q⟩⟩ fun h' eb => ⟨rfl, I.turned (t' := s.toks) (fun b o hb q => eb b o hb q) f0 f1 f3 f4 f5⟩
  self := fun A i s Q E st h => let ⟨⟨_, he⟩, _⟩ := st; wpAny_pyIter_enum he h
def iEnumT (K : PySem.W.Frag) (ta : TA) : TI := fun σ H R => ta σ H fun vs H1 => ∃ a xs, vs = [.ref a] ∧ SqT K H1 a xs ∧ R (IteT K a) H1
theorem pi_enumT {X : Cx} {e : Expr} {ta : TA} {p pos tpos : Pos} {elts : List Expr} {kk : Nat} (hg : Gl X "enumerate") (hm : X.mg "enumerate" = none) (ha : PA X [e] ta) (hs : starEach [e] X.env = [(false, eval e X.env)] := by rfl) :
    PI X (.Tuple elts kk tpos) (.Call (.Name "enumerate" p) [e] [] pos) (iEnumT X.K ta) := by
  refine ⟨fun pins s σ H R I h => ?_⟩
  refine Call_ (ld_blt I hg hm boot_enumerate (PyProof.Rows.callWith_type1 (thn (ha.run pos pins s σ H _ I h) fun us s1 ⟨vs, H1, I1, r1, q1⟩ => ?_) hs rfl))
  obtain ⟨a, xs, ex, hq, q⟩ := q1
  subst ex
  cases r1 with
  | cons r rr =>
    cases rr
    cases r
    obtain ⟨its, rv, p', hz⟩ := I1.tuple hq
    have p2 : s1.heap.IsTuple a its.toArray := p'
    have hal : a < s1.heap.objs.size := by obtain ⟨_, q, _⟩ := p'; exact Heap.lt_size q
    refine enum_beginsN (begins_tuple a its.toArray) p2 fun h' he hit hsz hk => wpAny_pyIter_enum he ?_
    have I2 : Inv X pins σ H1 { s1 with heap := h' } := I1.kept (t' := s1.toks) hk
    refine ⟨s1.heap.objs.size + 1, [s1.heap.objs.size + 1, s1.heap.objs.size], _, _, H1, rfl, I2, turn_enumT a (s1.heap.objs.size + 1) s1.heap.objs.size (Nat.ne_of_lt hal) (Nat.ne_of_gt (Nat.lt_succ_of_lt hal)), ⟨⟨.none, he⟩, ⟨_, hit, rfl, rfl⟩, Nat.succ_ne_self _⟩, fun b hb => ?_, q⟩
    have e' : b = s1.heap.objs.size + 1 ∨ b = s1.heap.objs.size := by simpa using hb
    have hle : s1.heap.objs.size ≤ b := by
      rcases e' with z | z
      · rw [z]; exact Nat.le_add_right _ _
      · rw [z]; exact Nat.le_refl _
    exact I1.fpOk hle (I1.hok.fresh hle)
end L2

set_option linter.all false
set_option maxRecDepth 100000
set_option maxHeartbeats 4000000
/-! sorted of tuples of ints, any length. -/
namespace Srt2
open SrtO
section
variable {α β : Type}
def insB (lt : α → α → Bool) (x : α) : List α → List α
  | [] => [x]
  | y :: r => if lt y x = true then y :: insB lt x r else x :: y :: r
def isortB (lt : α → α → Bool) : List α → List α
  | [] => []
  | x :: r => insB lt x (isortB lt r)
theorem insB_map (lt : β → β → Bool) (f : α → β) (x : α) : ∀ l : List α, insB lt (f x) (l.map f) = (insB (fun a b => lt (f a) (f b)) x l).map f
  | [] => rfl
  | y :: r => by
    simp only [List.map_cons, insB]
    split
    · rw [insB_map lt f x r]; rfl
    · rfl
theorem isortB_map (lt : β → β → Bool) (f : α → β) : ∀ l : List α, isortB lt (l.map f) = (isortB (fun a b => lt (f a) (f b)) l).map f
  | [] => rfl
  | x :: r => by simp only [List.map_cons, isortB]; rw [isortB_map lt f r, insB_map]
theorem insB_spl {lt : α → α → Bool} (O : Swo lt) (x : α) : ∀ l : List α, Srtd lt l → ∃ M N, l = M ++ N ∧ insB lt x l = M ++ x :: N ∧ (∀ y ∈ M, lt y x = true) ∧ ∀ y ∈ N, lt y x = false
  | [], _ => ⟨[], [], rfl, rfl, (fun _ h => nomatch h), (fun _ h => nomatch h)⟩
  | y :: r, h => by
    by_cases c : lt y x = true
    · obtain ⟨M, N, e1, e2, h1, h2⟩ := insB_spl O x r (List.pairwise_cons.mp h).2
      refine ⟨y :: M, N, by rw [e1]; rfl, by simp only [insB, c, if_true]; rw [e2]; rfl, fun z hz => ?_, h2⟩
      rcases List.mem_cons.mp hz with rfl | hz
      · exact c
      · exact h1 z hz
    · have c' : lt y x = false := by simpa using c
      refine ⟨[], y :: r, rfl, by simp [insB, c'], (fun _ h => nomatch h), fun z hz => ?_⟩
      rcases List.mem_cons.mp hz with rfl | hz
      · exact c'
      · have := srtd_head h z hz
        exact O.tr x y z c' this
theorem insB_ok {lt : α → α → Bool} (O : Swo lt) (x : α) {l : List α} (h : Srtd lt l) : Srtd lt (insB lt x l) ∧ Stb lt (insB lt x l) (x :: l) := by
  obtain ⟨M, N, rfl, e2, h1, h2⟩ := insB_spl O x l h
  rw [e2]
  obtain ⟨m, n, mn⟩ := srtd_app.mp h
  constructor
  · refine srtd_app.mpr ⟨m, List.pairwise_cons.mpr ⟨fun b hb => h2 b hb, n⟩, fun a ha b hb => ?_⟩
    rcases List.mem_cons.mp hb with rfl | hb
    · exact O.asym _ _ (h1 a ha)
    · exact mn a ha b hb
  · have q : Stb lt ((M ++ [x]) ++ N) (([x] ++ M) ++ N) := (Stb.swap O fun a ha b hb => by rw [List.mem_singleton.mp hb]; exact h1 a ha).app (Stb.refl N)
    have e : M ++ x :: N = (M ++ [x]) ++ N := by simp
    rw [e]
    exact q
theorem isortB_ok {lt : α → α → Bool} (O : Swo lt) : ∀ l : List α, Srtd lt (isortB lt l) ∧ Stb lt (isortB lt l) l
  | [] => ⟨List.Pairwise.nil, Stb.refl _⟩
  | x :: r => by
    obtain ⟨h1, h2⟩ := isortB_ok O r
    obtain ⟨g1, g2⟩ := insB_ok O x h1
    exact ⟨g1, g2.trans ((Stb.refl [x]).app h2)⟩
theorem isortB_uniq {lt : α → α → Bool} (O : Swo lt) {l ys : List α} (h1 : Srtd lt ys) (h2 : Stb lt ys l) : ys = isortB lt l := by
  obtain ⟨g1, g2⟩ := isortB_ok O l
  refine stb_uniq O h1 g1 (h2.trans ⟨g2.perm.symm, fun x => (g2.cls x).symm⟩)
theorem isortB_congr {lt lt' : α → α → Bool} : ∀ {l : List α}, (∀ x ∈ l, ∀ y ∈ l, lt x y = lt' x y) → isortB lt l = isortB lt' l := by
  have key : ∀ (x : α) (l : List α), (∀ y ∈ l, lt y x = lt' y x) → insB lt x l = insB lt' x l := fun x l => by
    induction l with
    | nil => intro _; rfl
    | cons y r ih => intro h; simp only [insB, h y List.mem_cons_self, ih fun z hz => h z (List.mem_cons_of_mem _ hz)]
  have mem : ∀ (lt : α → α → Bool) (l : List α) (y : α), y ∈ isortB lt l → y ∈ l := fun lt l => by
    have mi : ∀ (x : α) (l : List α) (y : α), y ∈ insB lt x l → y = x ∨ y ∈ l := fun x l => by
      induction l with
      | nil => intro y h; simp [insB] at h; exact .inl h
      | cons z r ih =>
        intro y h
        simp only [insB] at h
        split at h
        · rcases List.mem_cons.mp h with rfl | h
          · exact .inr List.mem_cons_self
          · rcases ih y h with h | h
            · exact .inl h
            · exact .inr (List.mem_cons_of_mem _ h)
        · rcases List.mem_cons.mp h with rfl | h
          · exact .inl rfl
          · exact .inr h
    induction l with
    | nil => intro y h; cases h
    | cons x r ih =>
      intro y h
      rcases mi x _ y h with rfl | h
      · exact List.mem_cons_self
      · exact List.mem_cons_of_mem _ (ih y h)
  intro l
  induction l with
  | nil => intro _; rfl
  | cons x r ih =>
    intro h
    simp only [isortB]
    rw [ih fun a ha b hb => h a (List.mem_cons_of_mem _ ha) b (List.mem_cons_of_mem _ hb)]
    exact key x _ fun y hy => h y (List.mem_cons_of_mem _ (mem _ _ _ hy)) x List.mem_cons_self
end
/-- lists of ints by their order -/
def lexI : List Int → List Int → Bool
  | [], [] => false
  | [], _ :: _ => true
  | _ :: _, [] => false
  | a :: r, b :: s => if a = b then lexI r s else decide (a < b)
theorem lexI_asym : ∀ x y, lexI x y = true → lexI y x = false
  | [], [], h => by simp [lexI] at h
  | [], _ :: _, _ => rfl
  | _ :: _, [], h => by simp [lexI] at h
  | a :: r, b :: s, h => by
    simp only [lexI] at h ⊢
    by_cases c : a = b
    · subst c; simp only [if_true] at h ⊢; exact lexI_asym r s h
    · rw [if_neg c] at h; rw [if_neg (Ne.symm c)]
      simp only [decide_eq_true_eq] at h; simp; omega
theorem lexI_tr : ∀ x y z, lexI y x = false → lexI z y = false → lexI z x = false
  | [], _, [], _, _ => rfl
  | [], [], _ :: _, _, _ => rfl
  | [], _ :: _, _ :: _, _, _ => rfl
  | _ :: _, [], [], h, _ => by simp [lexI] at h
  | a :: x, [], c :: z, h, _ => by simp [lexI] at h
  | a :: x, b :: y, [], _, h => by simp [lexI] at h
  | a :: x, b :: y, c :: z, h1, h2 => by
    simp only [lexI] at h1 h2 ⊢
    by_cases e1 : b = a
    · subst e1
      simp only [if_true] at h1
      by_cases e2 : c = b
      · subst e2; simp only [if_true] at h2 ⊢; exact lexI_tr x y z h1 h2
      · rw [if_neg e2] at h2 ⊢; exact h2
    · rw [if_neg e1] at h1
      by_cases e2 : c = b
      · subst e2; rw [if_neg e1]; exact h1
      · rw [if_neg e2] at h2
        simp only [decide_eq_false_iff_not] at h1 h2
        rw [if_neg (by omega)]; simp; omega
theorem lexI_swo {α : Type} (k : α → List Int) : Swo fun x y => lexI (k x) (k y) := ⟨fun x y => lexI_asym _ _, fun x y z => lexI_tr _ _ _⟩
end Srt2
namespace SrtO
open PySem PyProof.Rows Srt Srt2
section
variable {prog : Program} {w : World} {A : Around} {E : Value → Shared → Prop} {s : Shared}
/-- values that are these ints -/
abbrev VI (vs : List Value) (ns : List Int) : Prop := Paired (fun (v : Value) (n : Int) => ∃ t, v = .int n t) vs ns
def IsInts (h : Heap) (v : Value) (ns : List Int) : Prop := ∃ a o vs n, v = .ref a ∧ h.get? a = some o ∧ o.cls = .type "tuple" ∧ o.data = .seq (List.toArray vs) n ∧ VI vs ns
theorem IsInts.keeps {h h' : Heap} {v : Value} {ns : List Int} (p : IsInts h v ns) (k : ∀ b o, h.get? b = some o → o.cls = .type "tuple" → h'.get? b = some o) : IsInts h' v ns := by
  obtain ⟨a, o, vs, n, e, ho, hc, hd, r⟩ := p
  exact ⟨a, o, vs, n, e, k _ _ ho hc, hc, hd, r⟩
theorem lex_run {Q : Bool → Shared → Prop} : ∀ {xs ys : List Value} {ns ms : List Int} {i : Nat} {fin : Bool}, VI xs ns → VI ys ms → (fin = decide (ns.length < ms.length)) → (i = 0 ∨ True) → Q (lexI ns ms) s → PySem.W.KatLex prog w A true fin Q (xs.zip ys) i s
  | [], [], _, _, _, fin, .nil, .nil, hf, _, q => by
    have : fin = false := by rw [hf]; rfl
    subst this; exact PySem.W.kat_nil q
  | [], _ :: _, _, _, _, fin, .nil, .cons _ _, hf, _, q => by
    have : fin = true := by rw [hf]; simp
    subst this; exact PySem.W.kat_nil q
  | _ :: _, [], _, _, _, fin, .cons _ _, .nil, hf, _, q => by
    have : fin = false := by rw [hf]; simp
    subst this; exact PySem.W.kat_nil q
  | x :: xs, y :: ys, n :: ns, m :: ms, i, fin, .cons ⟨t, hx⟩ rx, .cons ⟨u, hy⟩ ry, hf, _, q => by
    subst hx hy
    refine PySem.W.kat_cons (SeqAt.EqAt.int_int n t m u prog w _ _ ?_)
    refine PySem.W.kat_go (fun e1 => ?_) (fun e1 => ?_)
    · have ex : n = m := by simpa using e1
      subst ex
      refine PySem.W.kat_yes (lex_run rx ry (by rw [hf]; simp) (.inr trivial) ?_)
      simpa only [lexI, if_true] using q
    · have ex : ¬ n = m := by simpa using e1
      have e3 : lexI (n :: ns) (m :: ms) = decide (n < m) := by simp only [lexI, if_neg ex]
      rw [e3] at q
      cases i with
      | zero => exact PySem.W.kat_no (oneLt_int q)
      | succ i => exact PySem.W.kat_no (PySem.W.kat_one _ _ (PyProof.Rows.lt_int q))
theorem ints_cmp {vs : List Value} {k : Value → List Int} (hp : ∀ v ∈ vs, IsInts s.heap v (k v)) : Cmp prog w A s (tuples' true) (fun p => p.1 ∈ vs) (lt2 fun v u => lexI (k v) (k u)) := by
  intro p q hm hm'
  obtain ⟨a, o, xs, n, e, ho, hc, hd, r⟩ := hp _ hm
  obtain ⟨a', o', ys, n', e', ho', hc', hd', r'⟩ := hp _ hm'
  show wpAny (model prog w) A (keyLt' (tuples' true) p.1 q.1) (fun r s' => s' = s ∧ r = lexI (k p.1) (k q.1)) (fun _ _ => False) s
  rw [e, e'] at *
  refine PySem.W.kat_lt ho hd ho' hd' ?_
  refine lex_run r r' ?_ (.inl rfl) ⟨rfl, rfl⟩
  rw [← Paired.length r, ← Paired.length r']; simp
theorem firstsI {h : Heap} : ∀ {vs : List Value}, (∀ v ∈ vs, ∃ x r, IsInts h v (x :: r)) → ∃ fs : List Value, PySem.W.KatTups h vs fs ∧ fs.length = vs.length ∧ ∀ f ∈ fs, ∃ x t, f = Value.int x t
  | [], _ => ⟨[], PySem.W.KatTups.nil, rfl, fun _ hm => by simp at hm⟩
  | v :: vs, hp => by
    obtain ⟨fs, h1, h2, h3⟩ := firstsI (vs := vs) fun v' hm => hp v' (List.mem_cons_of_mem _ hm)
    obtain ⟨x, r, a, o, xs, n, e, ho, hc, hd, rv⟩ := hp v List.mem_cons_self
    cases rv with
    | cons hx _ =>
      obtain ⟨t, rfl⟩ := hx
      subst e
      exact ⟨_ :: fs, PySem.W.KatTups.cons ho hc hd rfl h1, by simp [h2], fun f hf => by
        rcases List.mem_cons.mp hf with rfl | hf
        · exact ⟨_, _, rfl⟩
        · exact h3 f hf⟩
theorem ints_sortable {a : Addr} {vs : List Value} {k : Value → List Int} (h0 : 0 < vs.length) (hp : ∀ v ∈ vs, IsInts s.heap v (k v)) (hn : ∀ v ∈ vs, k v ≠ []) (ha : ∀ o, s.heap.get? a = some o → o.cls ≠ .type "tuple") : SortableO prog w A s a vs fun v u => lexI (k v) (k u) := by
  intro h' keep
  have hp' : ∀ v ∈ vs, IsInts h' v (k v) := fun v hm => (hp v hm).keeps fun b o e c => keep b o (fun z => by subst z; exact ha o e c) e
  obtain ⟨fs, h1, h2, h3⟩ := firstsI (h := h') (vs := vs) fun v hm => by
    have q := hp' v hm
    cases e : k v with
    | nil => exact absurd e (hn v hm)
    | cons x r => rw [e] at q; exact ⟨x, r, q⟩
  refine ⟨tuples' true, fun Q E hq => ?_, ints_cmp hp'⟩
  refine PySem.W.kat_kind (T := .type "int") h1 (by omega) (fun f hm => ?_) (by rfl) ?_
  · obtain ⟨x, t, rfl⟩ := h3 f hm
    exact PySem.W.Looks.now
  · have e : (Value.type "int" != Value.type "tuple") = true := by first | decide +kernel | rfl | decide
    rw [e]
    exact hq
/-- sorted(l) of tuples of ints, any number of them -/
theorem sorted_intsO {l : Addr} {vs : List Value} {k : Value → List Int} {Q : Value → Shared → Prop} (hl : s.heap.IsList l vs.toArray) (hz : vs.length ≤ sizeLine) (hp : ∀ v ∈ vs, IsInts s.heap v (k v)) (hn : ∀ v ∈ vs, k v ≠ [])
    (h : ∀ (h' : Heap) (d : Addr), (∀ b o, s.heap.get? b = some o → h'.get? b = some o) → s.heap.objs.size ≤ d → (∃ n, h'.get? d = some (seqObj "list" (isortB (fun v u => lexI (k v) (k u)) vs).toArray n)) → Q (.ref d) { s with heap := h' }) :
    wpAny (model prog w) A (call (.builtin "sorted") [.ref l]) Q E s := by
  refine sorted_ord (lexI_swo k) hl hz (fun h2 h₁ a ha kk => ?_) fun out hs hb => ?_
  · refine ints_sortable (s := { s with heap := h₁ }) (by omega) (fun v hm => (hp v hm).keeps fun b o e _ => (kk b o e).2) hn fun o e => ?_
    have e' : some o = some (seqObj "list" vs.toArray 0) := e.symm.trans ha
    cases e'
    intro c
    exact absurd (Value.type.inj c) (by decide)
  · rw [isortB_uniq (lexI_swo k) hs hb]
    exact h _ _ (fun b o e => sortedAll_old e) (Nat.le_succ _) (sortedAll_at s.heap vs _)
end
end SrtO
namespace L2
open PySem PySem.Spec PyProof.Rows SrtO Srt2
abbrev lexP (p q : List Int × V) : Bool := lexI p.1 q.1
/-- sorted(xs), xs a list of tuples of ints (ps says which) -/
def rSortN (K : PySem.W.Frag) : List V → Hp → VK → Prop := fun vs H Q => ∃ (a : Addr) (ps : List (List Int × V)), vs = [V.ref a] ∧ SqL K H a (ps.map (·.2)) ∧ (∀ p ∈ ps, p.1 ≠ [] ∧ ∃ t, p.2 = V.ref t ∧ SqT K H t (p.1.map V.int)) ∧
  ∀ p, H p = none → Q (.ref p) (upd H p (.lst ((isortB lexP ps).map (·.2))))
/-- the ints of a tuple -/
def intsAt (h : Heap) (v : Value) : List Int := match v with
  | .ref a => match h.get? a with
    | some o => match o.data with
      | .seq its _ => its.toList.map fun u => match u with
        | .int n _ => n
        | _ => 0
      | _ => []
    | none => []
  | _ => []
theorem intsAt_of {h : Heap} {v : Value} {ns : List Int} (p : IsInts h v ns) : intsAt h v = ns := by
  obtain ⟨a, o, vs, n, rfl, ho, hc, hd, r⟩ := p
  unfold intsAt
  simp only [ho, hd]
  clear ho hd hc
  induction r with
  | nil => rfl
  | cons hx _ ih => obtain ⟨t, rfl⟩ := hx; simpa using ih
section
variable {X : Cx}
theorem vi_of : ∀ {ns : List Int} {its : List Value}, Vals (ns.map V.int) its → VI its ns
  | [], _, .nil => .nil
  | n :: ns, _, .cons r rr => by
    obtain ⟨t, e⟩ := r
    exact .cons ⟨t, e⟩ (vi_of rr)
theorem cr_sortN : CallR X (.builtin "sorted") (rSortN X.K) := by
  intro pins s σ H vs us Q I r h
  obtain ⟨a, ps, rfl, hs, hx, q⟩ := h
  obtain ⟨its, rv, hl, hz⟩ := I.list hs
  obtain ⟨u, rfl, ru⟩ := vals1 r
  obtain rfl : u = Value.ref a := ru
  obtain ⟨e1, e2⟩ := refs_back rv fun x m => by
    obtain ⟨p, hp, rfl⟩ := List.mem_map.mp m
    obtain ⟨_, t, e, _⟩ := hx p hp
    exact ⟨t, e⟩
  have key : ∀ p ∈ ps, ∃ t, p.2 = V.ref t ∧ IsInts s.heap (.ref t) p.1 := fun p hp => by
    obtain ⟨_, t, e, ht⟩ := hx p hp
    obtain ⟨ts, rt, ⟨o, ho, hc, n, hd⟩, _⟩ := I.tuple ht
    exact ⟨t, e, t, o, ts, n, rfl, ho, hc, hd, vi_of rt⟩
  have back : ∀ v ∈ its, ∃ p ∈ ps, backV v = p.2 ∧ IsInts s.heap v p.1 := fun v hv => by
    obtain ⟨t, rfl⟩ := e2 v hv
    have hm : V.ref t ∈ ps.map (·.2) := by rw [e1]; exact List.mem_map.mpr ⟨_, hv, rfl⟩
    obtain ⟨p, hp, ep⟩ := List.mem_map.mp hm
    obtain ⟨t', e', hi⟩ := key p hp
    have : t = t' := by
      have ep : p.2 = V.ref t := ep
      rw [e'] at ep; cases ep; rfl
    subst this
    exact ⟨p, hp, ep.symm, hi⟩
  refine sorted_intsO (k := intsAt s.heap) hl.isList (by rw [← rv.length]; exact hz) (fun v hv => ?_) (fun v hv => ?_) fun h' d kp hd hn => ?_
  · obtain ⟨p, hp, _, hi⟩ := back v hv
    rw [intsAt_of hi]; exact hi
  · obtain ⟨p, hp, _, hi⟩ := back v hv
    rw [intsAt_of hi]; exact (hx p hp).1
  · obtain ⟨n, hn⟩ := hn
    have e3 : (isortB (fun v u => lexI (intsAt s.heap v) (intsAt s.heap u)) its).map backV = (isortB lexP ps).map (·.2) := by
      let fw : V → List Int := fun x => match x with
        | .ref t => intsAt s.heap (.ref t)
        | _ => []
      have f1 : ∀ p ∈ ps, fw p.2 = p.1 := fun p hp => by
        obtain ⟨t, e, hi⟩ := key p hp
        rw [e]; exact intsAt_of hi
      have f2 : ∀ v ∈ its, fw (backV v) = intsAt s.heap v := fun v hv => by
        obtain ⟨t, rfl⟩ := e2 v hv
        rfl
      rw [isortB_congr (lt' := fun v u => (fun x y => lexI (fw x) (fw y)) (backV v) (backV u)) fun v hv u hu => by simp only [f2 v hv, f2 u hu]]
      rw [← isortB_map (fun x y => lexI (fw x) (fw y)) backV, ← e1]
      rw [isortB_map (fun x y => lexI (fw x) (fw y)) (fun p : List Int × V => p.2)]
      rw [isortB_congr (lt' := lexP) fun p hp u hu => by simp only [f1 p hp, f1 u hu]]
    have hlen : (isortB (fun v u => lexI (intsAt s.heap v) (intsAt s.heap u)) its).length = its.length := (isortB_ok (lexI_swo _) its).2.len
    have h3 : ∀ u ∈ isortB (fun v u => lexI (intsAt s.heap v) (intsAt s.heap u)) its, ∃ a, u = Value.ref a := fun u hu => e2 u ((isortB_ok (lexI_swo _) its).2.perm.mem_iff.mp hu)
    refine ⟨.ref d, upd H d (.lst ((isortB lexP ps).map (·.2))), I.laid (t' := s.toks) kp hd ⟨?_, _, n, ?_, hn⟩, rfl, q d (I.hok.fresh hd)⟩
    · rw [← e3, List.length_map, hlen, ← rv.length]; exact hz
    · rw [← e3]; exact vals_back h3
end
end L2

set_option linter.all false
set_option maxRecDepth 100000
set_option maxHeartbeats 4000000
/-! Errors: made, caught, handed to a def within the suite. -/
namespace L2
open PySem PySem.Spec PyProof.Rows
/-! ### making -/
def spInit (K : PySem.W.Frag) (f : Str) : Sp := fun vs H Q _ => ∃ (a C : Addr) (y : V), vs = [.ref a, y] ∧ OexC K C ∧ PySem.W.findIn K (.ref C) f = some none ∧ H a = some (exo a C none) ∧
  ∀ dx, H dx = none → dx ≠ a → Q .non (upd (upd H dx (exd dx [(f, y)])) a (exo a C (some dx)))
/-- what isinstance and the field want of the class -/
structure ErrF (K : PySem.W.Frag) (ns : List Str) (C : Addr) : Prop where
  cl : (PySem.W.clsIn K C).isSome = true
  ga : PySem.W.findIn K (.ref C) "__getattribute__" = some (some (.builtin "BaseException.__getattribute__"))
  gg : PySem.W.findIn K (.ref C) "__getattr__" = some none
  sb : PySem.W.subIn K (.ref C) (.type "BaseException") = some true
  hd : PySem.W.hasDictIn K C = true
  ca : PySem.W.findIn K (.ref C) "__class__" = some (some (.builtin "object.__class__"))
  sg : PySem.W.specialIn K (.builtin "object.__class__") "__get__" = some (some (.builtin "getset_descriptor.__get__"))
  tk : PySem.W.takesIn K (.builtin "object.__class__") = some true
  mo : PySem.W.mroIn K C (.type "object") = some true
  no : ∀ f ∈ ns, PySem.W.findIn K (.ref C) f = some none
/-- an error's class, its one field, its __init__ -/
structure ErrC (P : Program) (w : World) (K : PySem.W.Frag) (mg : Str → Option Value) (base : Heap) (nl : List Str) (c f : Str) (C : Addr) : Prop where
  ns : PySem.W.nsIn K mainGlobals c = some (some (.ref C))
  gl : mg c = some (.ref C)
  ox : OexC K C
  fc : ErrF K nl C
  fm : f ∈ nl
  ini : ∃ (fI : Addr) (fd : FuncData), PySem.W.findIn K (.ref C) "__init__" = some (some (.ref fI)) ∧ PySem.W.typeIn K (.ref fI) = some (.type "function") ∧ FnOk P w K mg base CX0 1 fI fd ["self", f] (spInit K f) ∧ Binds K fd ["self", f] []
theorem upd_made {H1 : Hp} {a dx C : Addr} {f : Str} {y : V} (hn : H1 a = none) (hd : dx ≠ a) :
    upd (del (upd (upd (upd H1 a (exo a C none)) dx (exd dx [(f, y)])) a (exo a C (some dx))) a) dx (.xd [(f, y)]) = upd H1 dx (.xd [(f, y)]) := by
  funext b
  by_cases e1 : b = dx
  · subst e1; rw [upd_same, upd_same]
  · rw [upd_ne e1, upd_ne e1]
    by_cases e2 : b = a
    · subst e2; rw [del_same, hn]
    · rw [del_ne e2, upd_ne e2, upd_ne e1, upd_ne e2]
section
variable {X : Cx} {x : Str} {C : Addr} {f : Str} {e : Expr} {te : TE} {p pos pos2 : Pos}
/-- raise X(e) -/
theorem ps_raiseE {W : WX} (hc : X.calm = true) (tk : Takes X W) {nl : List Str} (T : ErrC X.prog X.w X.K X.mg X.base nl x f C) (hr : Room 2 X.A) (hg : Gl X x) (he0 : PE X e te)
    (hdb : (x == ("__debug__" : Str)) = false := by decide) (he : starEach [e] X.env = (false, eval e X.env) :: starEach [] X.env := by rfl) (hpl : (backTo pos (starEach [] X.env)).any (·.1) = false := by rfl) :
    PS X (.Raise (some (.Call (.Name x p) [e] [] pos)) none pos2) (fun _ σ H => tMkO C (spInit X.K f) [] (tCons te tNil) σ H fun cls d H' => W cls d σ H') := by
  obtain ⟨fI, fd, iC, tI, F1, hb⟩ := T.ini
  exact ps_raise hc tk (pmk_oex (ds := []) (dvs := []) T.ox iC tI F1 hr hb .nil (fun _ _ _ _ _ _ _ (h : False) => h.elim) hg T.gl (pa_cons he0 pa_nil he) hdb he hpl)
end
/-- the __init__ of an error's class: self.f = f -/
theorem init_ok {P : Program} {w : World} {K : PySem.W.Frag} {mg : Str → Option Value} {base : Heap} {q f : Str} {st : Stmt} {fI : Addr} {oc kV doc pm cdv ct : Value} {od an : Option Addr} {osl : Array (Option Value)} {p1 p2 p3 p4 : Pos}
    (lk : K.lookup fI = some ⟨oc, od, .func (PySem.W.fnOf "__init__" q (defArgs st) (defBody st) (defScope st) .none kV doc pm an cdv ct), osl⟩) (hcd : PySem.W.codeIn K cdv q = true) (S : FnScope ["self", f] ["self", f] (defScope st))
    (hb : defBody st = [.Assign [.Attribute (.Name "self" p1) f p2] (.Name f p3) p4]) (h0 : Vis (defScope st) "self") (h1 : Vis (defScope st) f) (d1 : (f == ("__debug__" : Str)) = false) (d2 : (f == ("__classdict__" : Str)) = false)
    (hs : ∀ (A : Addr) (c : Value) (L : Addr), swapsWith (.Name f p3) (some (.Attribute (.Name "self" p1) f p2)) p4.line (envOfC q (defScope st) L A c) = pure false) :
    FnOk P w K mg base CX0 1 fI (PySem.W.fnOf "__init__" q (defArgs st) (defBody st) (defScope st) .none kV doc pm an cdv ct) ["self", f] (spInit K f) := by
  refine fn_of lk hcd S (fun vs H Q E h => ?_) fun A outer s H vs Q E hr h => ?_
  · obtain ⟨a, C, y, rfl, _⟩ := h; rfl
  · obtain ⟨a, C, y, rfl, T, hno, ha, q1⟩ := h
    rw [hb]
    refine ⟨_, PSs.nox (pss_one (ps_ost (pe_var (i := 0) rfl h0) (pe_var (i := 1) rfl h1 d1 d2) (hs _ _ _))), ?_⟩
    exact ⟨y, rfl, .ref a, rfl, a, C, rfl, T, hno, .inl ⟨ha, fun dx n ne => q1 dx n ne⟩⟩
/-- the method of a class's text -/
def initS (s : Stmt) : Stmt := match s with
  | .ClassDef _ _ _ b _ _ _ _ _ _ _ => b.getD 0 (.Pass ⟨0, 0, 0, 0⟩)
  | _ => .Pass ⟨0, 0, 0, 0⟩
theorem err_mk {P : Program} {w : World} {K : PySem.W.Frag} {mg : Str → Option Value} {base : Heap} {nl : List Str} {c f q : Str} {C fI : Addr} {st : Stmt} {oc kV doc pm cdv ct : Value} {od an : Option Addr} {osl : Array (Option Value)} {p1 p2 p3 p4 : Pos}
    {nm qn : Str} {N : Addr} {bs bm : List Value} {sn : List Str} {sub : List Value} {ab : Bool} {col : Option Bool} {dd : Option Addr} {m0 m1 m2 m3 m5 : Option Value}
    (ns : PySem.W.nsIn K mainGlobals c = some (some (.ref C))) (gl : mg c = some (.ref C)) (fm : f ∈ nl)
    (xL : K.lookup C = some (excClassObj nm qn C N bs bm true sn sub ab col dd m0 m1 m2 m3 m5 "ValueError.__new__")) (hbm : PySem.HandSPX.refsVE bm = true)
    (sa : PySem.W.findIn K (.ref C) "__setattr__" = some (some (.builtin "object.__setattr__"))) (ga : PySem.W.findIn K (.ref C) "__getattribute__" = some (some (.builtin "BaseException.__getattribute__"))) (gg : PySem.W.findIn K (.ref C) "__getattr__" = some none)
    (no : ∀ f ∈ nl, PySem.W.findIn K (.ref C) f = some none) (iC : PySem.W.findIn K (.ref C) "__init__" = some (some (.ref fI))) (tI : PySem.W.typeIn K (.ref fI) = some (.type "function"))
    (lk : K.lookup fI = some ⟨oc, od, .func (PySem.W.fnOf "__init__" q (defArgs st) (defBody st) (defScope st) .none kV doc pm an cdv ct), osl⟩) (hcd : PySem.W.codeIn K cdv q = true)
    (kC : PySem.W.keepIn K (.ref C) = true) (exC : PySem.W.subIn K (.ref C) (.type "BaseException") = some true) (tyC : PySem.W.typeIn K (.ref C) = some (.type "type")) (hdC : PySem.W.hasDictIn K C = true)
    (cl : PySem.W.isClsIn K C = true) (ca : PySem.W.findIn K (.ref C) "__class__" = some (some (.builtin "object.__class__"))) (sg : PySem.W.specialIn K (.builtin "object.__class__") "__get__" = some (some (.builtin "getset_descriptor.__get__")))
    (tk : PySem.W.takesIn K (.builtin "object.__class__") = some true) (mo : PySem.W.mroIn K C (.type "object") = some true)
    (S : FnScope ["self", f] ["self", f] (defScope st)) (hb : defBody st = [.Assign [.Attribute (.Name "self" p1) f p2] (.Name f p3) p4]) (h0 : Vis (defScope st) "self") (h1 : Vis (defScope st) f) (d1 : (f == ("__debug__" : Str)) = false) (d2 : (f == ("__classdict__" : Str)) = false)
    (hs : ∀ (A : Addr) (c : Value) (L : Addr), swapsWith (.Name f p3) (some (.Attribute (.Name "self" p1) f p2)) p4.line (envOfC q (defScope st) L A c) = pure false)
    (hbi : ∀ us : List Value, us.length = 2 → bindArgs (PySem.W.fnOf "__init__" q (defArgs st) (defBody st) (defScope st) .none kV doc pm an cdv ct) ⟨us, []⟩ = pure ((["self", f] : List Str).zip us)) : ErrC P w K mg base nl c f C where
  ns := ns
  gl := gl
  ox := ⟨⟨nm, qn, N, bs, bm, sn, sub, ab, col, dd, m0, m1, m2, m3, m5, xL, hbm⟩, sa, exC, tyC, kC⟩
  fc := ⟨cl, ga, gg, exC, hdC, ca, sg, tk, mo, no⟩
  fm := fm
  ini := ⟨fI, _, iC, tI, init_ok lk hcd S hb h0 h1 d1 d2 hs, .all hbi⟩
structure ErrRaw (K : PySem.W.Frag) (nl : List Str) (c f : Str) (C : Addr) : Prop where
  ns : PySem.W.nsIn K mainGlobals c = some (some (.ref C))
  all : ∀ {P : Program} {w : World} {mg : Str → Option Value} {base : Heap}, mg c = some (.ref C) → ErrC P w K mg base nl c f C
theorem errRaw_mk {K : PySem.W.Frag} {nl : List Str} {c f q : Str} {C fI : Addr} {st : Stmt} {oc kV doc pm cdv ct : Value} {od an : Option Addr} {osl : Array (Option Value)} {p1 p2 p3 p4 : Pos}
    {nm qn : Str} {N : Addr} {bs bm : List Value} {sn : List Str} {sub : List Value} {ab : Bool} {col : Option Bool} {dd : Option Addr} {m0 m1 m2 m3 m5 : Option Value}
    (ns : PySem.W.nsIn K mainGlobals c = some (some (.ref C))) (fm : f ∈ nl)
    (xL : K.lookup C = some (excClassObj nm qn C N bs bm true sn sub ab col dd m0 m1 m2 m3 m5 "ValueError.__new__")) (hbm : PySem.HandSPX.refsVE bm = true)
    (sa : PySem.W.findIn K (.ref C) "__setattr__" = some (some (.builtin "object.__setattr__"))) (ga : PySem.W.findIn K (.ref C) "__getattribute__" = some (some (.builtin "BaseException.__getattribute__"))) (gg : PySem.W.findIn K (.ref C) "__getattr__" = some none)
    (no : ∀ f ∈ nl, PySem.W.findIn K (.ref C) f = some none) (iC : PySem.W.findIn K (.ref C) "__init__" = some (some (.ref fI))) (tI : PySem.W.typeIn K (.ref fI) = some (.type "function"))
    (lk : K.lookup fI = some ⟨oc, od, .func (PySem.W.fnOf "__init__" q (defArgs st) (defBody st) (defScope st) .none kV doc pm an cdv ct), osl⟩) (hcd : PySem.W.codeIn K cdv q = true)
    (kC : PySem.W.keepIn K (.ref C) = true) (exC : PySem.W.subIn K (.ref C) (.type "BaseException") = some true) (tyC : PySem.W.typeIn K (.ref C) = some (.type "type")) (hdC : PySem.W.hasDictIn K C = true)
    (cl : PySem.W.isClsIn K C = true) (ca : PySem.W.findIn K (.ref C) "__class__" = some (some (.builtin "object.__class__"))) (sg : PySem.W.specialIn K (.builtin "object.__class__") "__get__" = some (some (.builtin "getset_descriptor.__get__")))
    (tk : PySem.W.takesIn K (.builtin "object.__class__") = some true) (mo : PySem.W.mroIn K C (.type "object") = some true)
    (S : FnScope ["self", f] ["self", f] (defScope st)) (hb : defBody st = [.Assign [.Attribute (.Name "self" p1) f p2] (.Name f p3) p4]) (h0 : Vis (defScope st) "self") (h1 : Vis (defScope st) f) (d1 : (f == ("__debug__" : Str)) = false) (d2 : (f == ("__classdict__" : Str)) = false)
    (hs : ∀ (A : Addr) (c : Value) (L : Addr), swapsWith (.Name f p3) (some (.Attribute (.Name "self" p1) f p2)) p4.line (envOfC q (defScope st) L A c) = pure false)
    (hbi : ∀ us : List Value, us.length = 2 → bindArgs (PySem.W.fnOf "__init__" q (defArgs st) (defBody st) (defScope st) .none kV doc pm an cdv ct) ⟨us, []⟩ = pure ((["self", f] : List Str).zip us)) : ErrRaw K nl c f C :=
  ⟨ns, fun gl => err_mk ns gl fm xL hbm sa ga gg no iC tI lk hcd kC exC tyC hdC cl ca sg tk mo S hb h0 h1 d1 d2 hs hbi⟩
/-! ### a def that is handed the caught error within the suite -/
structure FnHp (P : Program) (w : World) (K : PySem.W.Frag) (mg : Str → Option Value) (base : Heap) (k : Nat) (f : Addr) (fd : FuncData) (ps : List Str) (sp : Addr → Value → Option Addr → Sp) : Prop where
  len : ∀ a c d vs H Q E, sp a c d vs H Q E → vs.length = ps.length
  run : ∀ (A : Around) (outer : List Env) (s : Shared) (H : Hp) (args : Args) (us : List Value) (vs : List V) (Q : VK) (E : XK) (p : Addr × Obj) (c : Value) (d : Option Addr), L2H.RoomH k A → Zc c d p.2 → (∃ vs, p.2.data = .fields vs) → L2H.PinOk outer H s p → Env0 P w K mg base A outer s H → BindsTo s fd args (ps.zip us) → Vals vs us → sp p.1 c d vs H Q E →
    codeAny (model P w) A (.call (.ref f) args) (CR CX0 outer P w H s Q E) s
theorem fn_ofHp {P : Program} {w : World} {K : PySem.W.Frag} {mg : Str → Option Value} {base : Heap} {k : Nat} {f : Addr} {name qual : Str} {params : Arguments} {body : List Stmt} {scope : Scope} {dV kV doc pm cdv ct oc : Value} {an od : Option Addr}
    {osl : Array (Option Value)} {N ps : List Str} {sp : Addr → Value → Option Addr → Sp} (lk : K.lookup f = some ⟨oc, od, .func (PySem.W.fnOf name qual params body scope dV kV doc pm an cdv ct), osl⟩) (hcd : PySem.W.codeIn K cdv qual = true) (S : FnScope N ps scope)
    (len : ∀ a c d vs H Q E, sp a c d vs H Q E → vs.length = ps.length)
    (hbody : ∀ (A : Around) (outer : List Env) (s : Shared) (H : Hp) (vs : List V) (Q : VK) (E : XK) (p : Addr × Obj) (c : Value) (d : Option Addr), Zc c d p.2 → (∃ vs, p.2.data = .fields vs) → L2H.RoomH k (A.deeper (envOfC qual scope s.heap.objs.size f cdv)) → sp p.1 c d vs H Q E →
      ∃ t, PSs (L2H.cxH CX0 P w K mg base N qual scope f cdv A outer s H E p) body t ∧ t { nx := fun _ H' => Q .non H', rt := Q } (L2.start N vs) H) :
    FnHp P w K mg base (k + 1) f (PySem.W.fnOf name qual params body scope dV kV doc pm an cdv ct) ps sp := by
  refine ⟨len, fun A outer s H args us vs Q E p c d hr hz hf hpin e0 hb r hsp => ?_⟩
  have hl := len _ _ _ _ _ _ _ hsp
  have KX : K.In s.heap := e0.mod.kin.keeps fun b o e => (e0.bs b o e).1
  have lim : s.heap.NoLimit := e0.mod.nolimit.keeps fun b o e => (e0.bs b o e).1
  have hkind : ∀ y ∈ ps.zip us, scope.names.lookup y.1 = some .local ∨ (scope.names.lookup y.1 = some .cell ∧ ((cellsFrom (s.heap.objs.size + 1) scope.names []).lookup y.1).isSome = true) := fun ⟨n, v⟩ hy => by
    rcases S.par n (List.of_mem_zip hy).1 with q | q
    · exact .inl q
    · exact .inr ⟨q, PySem.W.cellsFrom_some _ _ _ (.inl q)⟩
  refine codeAny_call_function hr.depth (KX _ _ lk) rfl S.co S.gen rfl (PySem.W.codeRec_of KX hcd) (hb _ _ _ _ ?_)
  refine wpAny_newFunctionEnv_cells S.kind hkind fun env he s1 x => ?_
  subst he
  refine ⟨lim.keeps x.toInCall.keep, codeAny_func ?_⟩
  obtain ⟨t, ht, hq⟩ := hbody A outer s H vs Q E p c d hz hf (hr.deeper _) hsp
  have I : Inv (L2H.cxH CX0 P w K mg base N qual scope f cdv A outer s H E p) [] (L2.start N vs) H s1 := L2H.inv_startH S hpin e0 hl r x
  refine wpAny_mono (ht.run [] s1 (L2.start N vs) H _ I hq) (fun fl s' hs => ?_) fun e s' hs => hs
  have fin : ∀ {σ' : St} {H' : Hp} {v : V} {u : Value}, Inv (L2H.cxH CX0 P w K mg base N qual scope f cdv A outer s H E p) [] σ' H' s' → RelV v u → Q v H' → CE outer P w H s Q u s' :=
    fun {σ' H' v u} J rv q => ⟨v, H', J.os, J.bare, J.base, J.hok, rv, q⟩
  cases fl with
  | ret u =>
    obtain ⟨v, σ', H', J, rv, q⟩ := hs
    exact fin J rv q
  | next =>
    obtain ⟨σ', H', J, q⟩ := hs
    exact fin (v := V.non) (u := Value.none) J rfl q
  | brk =>
    obtain ⟨_, _, _, q⟩ := hs
    exact False.elim q
  | cont =>
    obtain ⟨_, _, _, q⟩ := hs
    exact False.elim q
section
variable {X : Cx} {k : Nat} {f : Addr} {fd : FuncData} {ps : List Str} {sp : Addr → Value → Option Addr → Sp} {x : Str} {q pos : Pos} {e : Expr} {es : List Expr} {t : TA}
theorem pe_callHp {p : Addr × Obj} {c : Value} {d : Option Addr} {E : St → XK} (F : FnHp X.prog X.w X.K X.mg X.base k f fd ps sp) (hr : L2H.RoomH k X.A) (hp : p ∈ X.pn) (hz : Zc c d p.2) (hf : ∃ vs, p.2.data = .fields vs) (hg : Gl X x) (hm : X.mg x = some (.ref f)) (hk : PySem.W.keepIn X.K (.ref f) = true) (hb : Binds X.K fd ps [])
    (ha : PA X (e :: es) t) (hdb : (x == ("__debug__" : Str)) = false := by decide) (he : starEach (e :: es) X.env = (false, eval e X.env) :: starEach es X.env := by rfl) (hpl : (backTo pos (starEach es X.env)).any (·.1) = false := by rfl) :
    PE X (.Call (.Name x q) (e :: es) [] pos) (tCallS (sp p.1 c d) E t) := by
  refine ⟨fun pins s σ H Q I h => ?_⟩
  refine wpAny_Call_Name_kw (ld_glob I hg hm ?_ hdb)
  refine PySem.W.callWith_K (h₀ := X.base) I.ok.mod.kin hk (thn (ha.run pos pins s σ H _ I h) fun us s1 ⟨vs, H1, I1, r, q⟩ => ⟨I1.kIn, ?_⟩) he hpl
  have hl : us.length = ps.length := by rw [← r.length]; exact F.len _ _ _ _ _ _ _ q
  have b := hb s1 us I1.kIn (by rw [List.append_nil]; exact hl)
  rw [List.append_nil] at b
  have P1 := I1.pin p (List.mem_append_left _ hp)
  have hpin : L2H.PinOk X.stack H1 s1 p := ⟨P1.1, P1.2.1, fun hm => (List.mem_cons.mp (I1.stkSub p.1 hm)).elim P1.2.2.1 P1.2.2.2.1, P1.2.2.2.2⟩
  refine wpAny_call (codeAny_mono (F.run X.A X.stack s1 H1 ⟨us, []⟩ us vs _ (E σ) p c d hr hz hf hpin I1.env0 b r q) fun r s' hq => ?_)
  cases r with
  | error e => exact hq.elim
  | ok fl =>
    cases fl with
    | ret u => exact I1.after hq
    | next => exact False.elim hq
    | brk => exact False.elim hq
    | cont => exact False.elim hq
end
/-! ### isinstance, the field -/
def rIsP (K : PySem.W.Frag) (C a d : Addr) : List V → Hp → VK → Prop := fun xs H Q => ∃ (c : V) (cv : Value) (b : Bool) (fs : List (Str × V)), xs = [.ref a, c] ∧ H d = some (.xd fs) ∧ (∀ u, RelV c u → u = cv) ∧ PySem.W.kitOne K (.ref C) cv = some b ∧ Q (.bl b) H
section
variable {X : Cx} {f : Str} {C a d : Addr} {oe : Obj}
theorem inst_at {pins : List (Addr × Obj)} {σ : St} {H : Hp} {s : Shared} {fs : List (Str × V)} (hm : (a, oe) ∈ X.pn) (hz : Zc (.ref C) (some d) oe) (hf : ∃ vs, oe.data = .fields vs) (I : Inv X pins σ H s) (hd : H d = some (.xd fs)) :
    ∃ (od : Obj) (mA : Str → Option Value), PySem.W.InstAt s.heap a oe C (some od) ∧ (∀ n, PySem.W.lookIn n od = some (mA n)) ∧ ∀ n, RelO (fs.lookup n) (mA n) := by
  obtain ⟨ha, _⟩ := I.pin (a, oe) (List.mem_append_left _ hm)
  obtain ⟨vs, hv⟩ := hf
  have hx : ObjOk X.prog X.w H s.heap d (.xd fs) := I.hok d _ hd
  obtain ⟨mA, hns, hr⟩ := hx
  obtain ⟨od, ho, hl⟩ := lookIn_ns hns
  exact ⟨od, mA, ⟨ha, hz.1, by unfold PySem.W.notCls; rw [hv] <;> rfl, by rw [hz.2]; exact ho⟩, hl, hr⟩
theorem call_isP {nl : List Str} (T : ErrF X.K nl C) (hm : (a, oe) ∈ X.pn) (hz : Zc (.ref C) (some d) oe) (hf : ∃ vs, oe.data = .fields vs) : CallR X (.builtin "isinstance") (rIsP X.K C a d) := by
  intro pins s σ H xs us Q I r h
  obtain ⟨c, cv, b, fs, rfl, hd, hcv, e, q⟩ := h
  cases r with
  | cons rx rr =>
    cases rr with
    | cons rt rr =>
      cases rr
      cases rx
      have ec := hcv _ rt
      subst ec
      obtain ⟨od, mA, J, _, _⟩ := inst_at hm hz hf I hd
      exact PySem.W.kia_one (PySem.W.kitx_exc (od := some od) T.cl T.ga T.gg T.sb T.ca T.sg T.tk T.mo) I.kIn J e (fun z => nomatch z) fun tk => ⟨.bl b, H, I.kept (t' := tk) fun _ _ z => z, rfl, q⟩
def tXfP (a d : Addr) (f : Str) (te : TE) : TE := fun σ H Q => te σ H fun x H1 => x = .ref a ∧ ∃ (fs : List (Str × V)) (v : V), H1 d = some (.xd fs) ∧ fs.lookup f = some v ∧ Q v H1
theorem pe_xfP {e : Expr} {te : TE} {pos : Pos} {nl : List Str} (T : ErrF X.K nl C) (hfn : f ∈ nl) (hm : (a, oe) ∈ X.pn) (hz : Zc (.ref C) (some d) oe) (hf : ∃ vs, oe.data = .fields vs) (he : PE X e te) (hb : attributeBase e f X.env (eval e X.env) = eval e X.env := by rfl) :
    PE X (.Attribute e f pos) (tXfP a d f te) := by
  refine ⟨fun pins s σ H Q I h => ?_⟩
  refine attr_of hb (thn (he.run pins s σ H _ I h) fun u s1 hh => ?_)
  obtain ⟨x, H1, I1, rx, ex, fs, v, ea, l, q⟩ := hh
  subst ex
  obtain rfl : u = Value.ref a := rx
  obtain ⟨od, mA, J, hl, hr⟩ := inst_at hm hz hf I1 ea
  obtain ⟨u, hu, ru⟩ := RelO.some_of (v := v) (o := mA f) (by rw [← l]; exact hr f)
  exact HandSPX.exc_get I1.kIn J T.ga T.gg T.sb (PySem.W.findObj_own T.hd (T.no _ hfn) rfl (by rw [hl, hu])) (handed_of ru) ⟨v, H1, I1.tok _, ru, q⟩
end
end L2

set_option linter.all false
set_option autoImplicit false
set_option maxRecDepth 100000
set_option maxHeartbeats 1000000
namespace Ml
open PySem PySem.Spec PyProof.Rows L2
section
variable {C : Cc}
/-! ### enumerate -/
theorem enumD_get : ∀ {ds : List Dv} {j k : Nat} {d : Dv}, (enumD j ds)[k]? = some d → ∃ x, ds[k]? = some x ∧ d = .tup [.int ((j + k : Nat) : Int), x]
  | [], j, k, d, h => by simp [enumD] at h
  | y :: ds, j, 0, d, h => by simp [enumD] at h; exact ⟨y, rfl, by rw [← h]; rfl⟩
  | y :: ds, j, k + 1, d, h => by
    simp only [enumD, List.getElem?_cons_succ] at h
    obtain ⟨x, h1, h2⟩ := enumD_get h
    exact ⟨x, by simpa using h1, by rw [h2, show j + 1 + k = j + (k + 1) from by omega]⟩
theorem enumD_len : ∀ {ds : List Dv} {j : Nat}, (enumD j ds).length = ds.length
  | [], _ => rfl
  | _ :: ds, j => by simp [enumD, enumD_len (ds := ds)]
theorem iter_enumT {Hs0 : Hp} {a : Addr} {xs : List V} {ds : List Dv} (h : SqT C.K Hs0 a xs) (r : Reps C.K C.sc Hs0 ds xs) : IterOk C (IteT C.K a) Hs0 (enumD 0 ds) := fun k Z Hs1 e1 σ1 H1 k1 l => by
  have h1 : SqT C.K H1 a xs := sqt_le k1.le (sqt_le l h)
  refine ⟨fun d hd => ?_, fun hk => ⟨xs, h1, by rw [reps_len r]; rw [enumD_len] at hk; exact hk⟩⟩
  obtain ⟨x0, hx0, rfl⟩ := enumD_get hd
  obtain ⟨v, e2, r2⟩ := reps_get r hx0
  refine ⟨⟨xs, v, h1, e2⟩, fun y H2 hy => ?_⟩
  obtain ⟨T, x, o, rfl, hT, rfl, hc, ho, hx⟩ := hy
  have ex := hx xs h1
  rw [e2] at ex; cases ex
  refine ⟨upd Hs1 T (.frz o (.tup [.int (k : Nat), v])), Post.new (k1.hs_none hT), k1.new hT, ?_⟩
  simp only [Rep]
  refine ⟨T, _, rfl, PlT.of upd_same hc ho, reps_cons (by simp only [Rep]; simp) (reps_cons (rep_le (Le.trans l (Le.new (k1.hs_none hT))) r2) reps_nil)⟩
theorem si_enumT {K : PySem.W.Frag} (hK : C.K = K) {te : TE} {me : ME Dv} (h : SE C te me) : SI C (iEnumT K (tCons te tNil)) (mItE itT me) := fun Z Hs e σ H k R w =>
  h Z Hs e σ H k _ (we_bind (fun a e1 x Hs1 H1 _ k1 r1 w1 => by
    subst hK
    obtain ⟨ds, hd, w2⟩ := we_of w1
    cases a with
    | tup ds' =>
      cases hd
      simp only [rD, Rep] at r1
      obtain ⟨p, xs, rfl, hx, rx⟩ := r1
      exact ⟨p, xs, rfl, sqt_le k1.le hx.sq, we_ok w2 k1 (iter_enumT hx.sq rx)⟩
    | _ => cases hd) w)
/-! ### sorted of tuples of ints -/
theorem ltI_lex : ∀ a b, ltI a b = Srt2.lexI a b
  | [], [] => rfl
  | [], _ :: _ => rfl
  | _ :: _, [] => rfl
  | a :: r, b :: s => by simp only [ltI, Srt2.lexI, ltI_lex r s]
theorem insD_is (x : List Int × Dv) : ∀ l, insD x l = Srt2.insB (fun p q => Srt2.lexI p.1 q.1) x l
  | [] => rfl
  | y :: r => by simp only [insD, Srt2.insB, ltI_lex, insD_is x r]
theorem srtD_is : ∀ l, srtD l = Srt2.isortB (fun p q => Srt2.lexI p.1 q.1) l
  | [] => rfl
  | x :: r => by simp only [srtD, Srt2.isortB, srtD_is r, insD_is]
theorem intsD_ok {Hs : Hp} : ∀ {ds : List Dv} {ns : List Int} {xs : List V}, intsD ds = some ns → Reps C.K C.sc Hs ds xs → xs = ns.map V.int
  | [], ns, xs, h, r => by cases h; simp only [Reps] at r; exact r
  | .int i :: ds, ns, xs, h, r => by
    obtain ⟨x, hx, rfl⟩ := Option.map_eq_some_iff.mp h
    simp only [Reps] at r
    obtain ⟨v, q, rfl, r1, r2⟩ := r
    simp only [Rep] at r1
    rw [intsD_ok hx r2, r1]; rfl
  | .non :: _, _, _, h, _ => by cases h
  | .bl _ :: _, _, _, h, _ => by cases h
  | .str _ :: _, _, _, h, _ => by cases h
  | .tup _ :: _, _, _, h, _ => by cases h
  | .lst _ :: _, _, _, h, _ => by cases h
  | .scr _ :: _, _, _, h, _ => by cases h
  | .dct _ _ :: _, _, _, h, _ => by cases h
  | .exc _ _ _ :: _, _, _, h, _ => by cases h
theorem tupI_ok {Hs : Hp} {d : Dv} {k : List Int} {v : V} (h : tupI d = some k) (r : Rep C.K C.sc Hs d v) : k ≠ [] ∧ ∃ t, v = .ref t ∧ PlT C.K Hs t (k.map V.int) := by
  unfold tupI at h
  split at h
  · rename_i ds
    simp only [Rep] at r
    obtain ⟨a, xs, rfl, hq, rs⟩ := r
    split at h
    · rename_i x r hi
      cases h
      rw [intsD_ok hi rs] at hq
      exact ⟨by simp, a, rfl, hq⟩
    · cases h
  · cases h
theorem tupsI_ok {Hs : Hp} : ∀ {ds : List Dv} {ps : List (List Int × Dv)} {xs : List V}, tupsI ds = some ps → Reps C.K C.sc Hs ds xs →
    ∃ T : List (List Int × Dv × V), ps = T.map (fun t => (t.1, t.2.1)) ∧ xs = T.map (·.2.2) ∧ ∀ t ∈ T, Rep C.K C.sc Hs t.2.1 t.2.2 ∧ tupI t.2.1 = some t.1
  | [], ps, xs, h, r => by cases h; simp only [Reps] at r; exact ⟨[], rfl, r, fun _ h => nomatch h⟩
  | d :: ds, ps, xs, h, r => by
    simp only [Reps] at r
    obtain ⟨v, q, rfl, r1, r2⟩ := r
    simp only [tupsI] at h
    split at h
    · rename_i k r' hk hr
      cases h
      obtain ⟨T, rfl, rfl, hT⟩ := tupsI_ok hr r2
      exact ⟨(k, d, v) :: T, rfl, rfl, fun t ht => by
        rcases List.mem_cons.mp ht with rfl | ht
        · exact ⟨r1, hk⟩
        · exact hT t ht⟩
    · cases h
theorem reps_all {α : Type} {Hs : Hp} : ∀ {T : List (α × Dv × V)}, (∀ t ∈ T, Rep C.K C.sc Hs t.2.1 t.2.2) → Reps C.K C.sc Hs (T.map (·.2.1)) (T.map (·.2.2))
  | [], _ => reps_nil
  | t :: T, h => reps_cons (h t List.mem_cons_self) (reps_all fun u hu => h u (List.mem_cons_of_mem _ hu))
theorem sortN_core {Z Hs : Hp} {e : Loc} {σ : L2.St} {H : Hp} (k : StOk C Z Hs e σ H) {a : Addr} {ds : List Dv} {xs : List V} {c : List Dv} {Q : V → Hp → Prop} (hx : SqL C.K H a xs) (rx : Reps C.K C.sc Hs ds xs) (hf : ((tupsI ds).map fun ps => (srtD ps).map (·.2)) = some c) (w : WE C Z σ Hs H (rO C Z σ) (.ok (.lst c) e) Q) : rSortN C.K [.ref a] H Q := by
  obtain ⟨ps, hps, rfl⟩ := Option.map_eq_some_iff.mp hf
  obtain ⟨T, rfl, rfl, hT⟩ := tupsI_ok hps rx
  refine ⟨a, T.map fun t => (t.1, t.2.2), rfl, by rw [List.map_map]; exact hx, fun p hp => ?_, fun p np => ?_⟩
  · obtain ⟨t, ht, rfl⟩ := List.mem_map.mp hp
    obtain ⟨h1, t', h2, h3⟩ := tupI_ok (hT t ht).2 (hT t ht).1
    exact ⟨h1, t', h2, sqt_le k.le h3.sq⟩
  · refine we_newO w k np ?_
    rw [srtD_is, Srt2.isortB_map (fun p q : List Int × Dv => Srt2.lexI p.1 q.1) (fun t : List Int × Dv × V => (t.1, t.2.1)), Srt2.isortB_map lexP (fun t : List Int × Dv × V => (t.1, t.2.2)), List.map_map, List.map_map]
    exact reps_all fun t ht => (hT t ((Srt2.isortB_ok (Srt2.lexI_swo _) T).2.perm.mem_iff.mp ht)).1
theorem sortK {X : Cx} {K : PySem.W.Frag} (hK : X.K = K) : CallR X (.builtin "sorted") (rSortN K) := by subst hK; exact cr_sortN
theorem rn_sortT {K : PySem.W.Frag} (hK : C.K = K) : RCN C (rSortN K) oSortT := fun Z Hs e σ H k x a c Q ra hf w => by
  subst hK
  cases a with
  | lst ds =>
    simp only [Rep] at ra
    obtain ⟨p, xs, rfl, hq, rx⟩ := ra
    exact sortN_core k (SqL.of (k.le _ _ hq)) rx hf w
  | _ => cases hf
theorem seo_sortO {K : PySem.W.Frag} (hK : C.K = K) {i : Nat} : SEO C (tCB (rSortN K) (tCons (tVar i) tNil)) (mOwnN i wSortT) := fun Z Hs e σ H k Q w => by
  subst hK
  unfold mOwnN at w
  split at w
  · rename_i j ds he
    obtain ⟨p, e1, hn, ⟨xs, hx, rx⟩, h0⟩ := k.own he
    obtain ⟨o, ho, w2⟩ := we_of w
    obtain ⟨c, hc, rfl⟩ := Option.map_eq_some_iff.mp ho
    exact ⟨_, e1, sortN_core k (SqL.of hx) rx hc w2⟩
  · exact w.elim
/-! ### data without errors and scripts stands for itself wherever it is read -/
mutual
theorem rep_any {K : PySem.W.Frag} {sc sc' : Sc} {Hs : Hp} : ∀ {n : Nat} {d : Dv} {v : V}, lowD n d = true → Rep K sc Hs d v → Rep K sc' Hs d v
  | n, .non, v, h, r => by simpa only [Rep] using r
  | n, .bl _, v, h, r => by simpa only [Rep] using r
  | n, .int _, v, h, r => by simpa only [Rep] using r
  | n, .str _, v, h, r => by simpa only [Rep] using r
  | n, .scr _, v, h, r => by cases n <;> simp [lowD] at h
  | n, .dct _ _, v, h, r => by cases n <;> simp [lowD] at h
  | n, .exc _ _ _, v, h, r => by cases n <;> simp [lowD] at h
  | 0, .tup _, v, h, r => by simp [lowD] at h
  | 0, .lst _, v, h, r => by simp [lowD] at h
  | n + 1, .tup ds, v, h, r => by
    simp only [Rep] at r ⊢
    obtain ⟨a, xs, e, q, rs⟩ := r
    exact ⟨a, xs, e, q, reps_any (n := n) (by simpa only [lowD] using h) rs⟩
  | n + 1, .lst ds, v, h, r => by
    simp only [Rep] at r ⊢
    obtain ⟨a, xs, e, q, rs⟩ := r
    exact ⟨a, xs, e, q, reps_any (n := n) (by simpa only [lowD] using h) rs⟩
theorem reps_any {K : PySem.W.Frag} {sc sc' : Sc} {Hs : Hp} : ∀ {n : Nat} {ds : List Dv} {vs : List V}, lowDs n ds = true → Reps K sc Hs ds vs → Reps K sc' Hs ds vs
  | n, [], vs, h, r => by simpa only [Reps] using r
  | n, d :: ds, vs, h, r => by
    simp only [Reps] at r ⊢
    obtain ⟨v, q, e, r1, r2⟩ := r
    simp only [lowDs, Bool.and_eq_true] at h
    exact ⟨v, q, e, rep_any h.1 r1, reps_any h.2 r2⟩
end
/-! ### errors -/
/-- an error in the air: its class, its one field -/
def REk (K : PySem.W.Frag) : Err → Value → Option Addr → Hp → Hp → Prop := fun x c od Hs _ => ∃ (E dd : Addr) (w : V) (f : List Nat) (d : Dv), x.2 = [.str f, d] ∧ PySem.W.nsIn K mainGlobals (sOf x.1) = some (some (.ref E)) ∧ c = .ref E ∧ od = some dd ∧ Hs dd = some (.xd [(sOf f, w)]) ∧ lowD 60 d = true ∧ ∀ sc, Rep K sc Hs d w
theorem ss_raise {K : PySem.W.Frag} (hK : C.K = K) (hE : C.RE = REk K) {P : Program} {w : World} {mg : Str → Option Value} {base : Heap} {c f : List Nat} {E : Addr} {nl : List Str} {cs fs : Str} (hc : cs = sOf c) (hf : fs = sOf f) (T : ErrC P w K mg base nl cs fs E) {te : TE} {me : ME Dv} (h : SE C te me) :
    SS C [] (fun _ σ H => tMkO E (spInit K fs) [] (tCons te tNil) σ H fun cls d H' => C.E cls d σ H') (sRaise c f me) := fun Z Hs e σ H k Dn w =>
  h Z Hs e σ H k _ (we_go (fun d e1 v Hs1 H1 p1 k1 r1 w1 => by
    subst hK hc hf
    split at w1
    · rename_i hl
      refine ⟨by show 1 ≤ 1000; decide, fun a na => ⟨a, E, v, rfl, T.ox, T.fc.no _ T.fm, upd_same, fun dx nd hne => ⟨rfl, dx, [(sOf f, v)], upd_same, ?_, ?_, ?_⟩⟩⟩
      · rw [upd_ne hne, upd_same]
      · rw [upd_ne hne] at nd; exact nd
      · rw [upd_made na hne]
        have nd : H1 dx = none := by rw [upd_ne hne] at nd; exact nd
        refine w1 (upd Hs1 dx (.xd [(sOf f, v)])) σ (upd H1 dx (.xd [(sOf f, v)])) (.ref E) (some dx) (Post.new (k1.hs_none nd)) (k1.new nd) ?_
        rw [hE]
        exact ⟨E, dx, v, f, d, rfl, T.ns, rfl, rfl, upd_same, hl, fun sc => rep_le (Le.new (k1.hs_none nd)) (rep_any hl r1)⟩
    · exact w1.elim) w)
end
end Ml

set_option linter.all false
set_option autoImplicit false
set_option maxRecDepth 100000
set_option maxHeartbeats 1000000
namespace Ml
open PySem PySem.Spec PyProof.Rows L2
/-- a def that is handed the caught error in the suite -/
def spH (P : Program) (w : World) (K : PySem.W.Frag) (RE : Err → Value → Option Addr → Hp → Hp → Prop) (nl : List Str) (F : Fn) : Addr → Value → Option Addr → Sp := fun a c d vs H Q E =>
  ∃ (E0 dd : Addr) (cl f : List Nat) (dt : Dv) (sc : Sc) (Hs : Hp), c = .ref E0 ∧ d = some dd ∧ sc.x = some (a, E0, dd) ∧ ErrF K nl E0 ∧ Le Hs H ∧ AOk K (scOf sc P w) Hs H [.fz (.exc cl f dt)] vs [] ∧ FW K (scOf sc P w) RE Hs H [] Q E (F [.fz (.exc cl f dt)])
structure KeptH (P : Program) (w : World) (K : PySem.W.Frag) (mg : Str → Option Value) (base : Heap) (k : Nat) (x : Str) (sp : Addr → Value → Option Addr → Sp) : Prop where
  ex : ∃ (f : Addr) (fd : FuncData) (ps : List Str), FnHp P w K mg base k f fd ps sp ∧ mg x = some (.ref f) ∧ PySem.W.keepIn K (.ref f) = true ∧ Binds K fd ps []
section
variable {P : Program} {w : World} {K : PySem.W.Frag} {mg : Str → Option Value} {base : Heap}
theorem cl_ofH {x : Str} {st : Stmt} {N ps : List Str} {k : Nat} {RE : Err → Value → Option Addr → Hp → Hp → Prop} {nl : List Str} {F : Fn} {ml : Nat} {m : MS} (D : DefK K x st) (M : Mg K mg)
    (hb : ∀ (kV doc pm : Value) (an : Option Addr) (cdv ct : Value) (us : List Value), us.length = ps.length → bindArgs (PySem.W.fnOf x x (defArgs st) (defBody st) (defScope st) .none kV doc pm an cdv ct) ⟨us, []⟩ = pure (ps.zip us))
    (S : FnScope N ps (defScope st)) (hF : F = mkFn 1 ml m) (hN : N.length = 1 + ml) (hp : ps.length = 1)
    (hbody : ∀ (f : Addr) (cdv : Value) (A' : Around) (outer : List Env) (s : Shared) (H : Hp) (E : XK) (p : Addr × Obj) (E0 dd : Addr), Zc (.ref E0) (some dd) p.2 → (∃ vs, p.2.data = .fields vs) → L2H.RoomH k (A'.deeper (envOfC x (defScope st) s.heap.objs.size f cdv)) → ErrF K nl E0 →
      ∃ A t, PSs (L2H.cxH CX0 P w K mg base N x (defScope st) f cdv A' outer s H E p) (defBody st) t ∧ ∀ sc Hs Ps, sc.x = some (p.1, E0, dd) → SS ⟨K, scOf sc P w, H, Ps, Hs, fun c od _ H => E c od H, RE⟩ A t m) : KeptH P w K mg base (k + 1) x (spH P w K RE nl F) := by
  obtain ⟨f, fd, hn, Fd⟩ := D
  have Fd' := Fd
  obtain ⟨oc, od, kV, doc, pm, an, cdv, ct, osl, rfl, lk, hcd⟩ := Fd'.ex
  have hlen : ∀ a c d vs H Q E, spH P w K RE nl F a c d vs H Q E → vs.length = 1 := fun a c d vs H Q E h => by
    obtain ⟨E0, dd, cl, f, dt, sc, Hs, _, _, _, _, _, ha, _⟩ := h
    match vs, ha with
    | [v], _ => rfl
  refine ⟨f, _, ps, fn_ofHp lk hcd S (fun a c d vs H Q E h => by rw [hlen a c d vs H Q E h, hp]) (fun A outer s H vs Q E p c d hz hf hr h => ?_), M.get hn, Fd.kp, Fd.binds hb⟩
  have hl := hlen _ _ _ _ _ _ _ h
  obtain ⟨E0, dd, cl, f', dt, sc, Hs, rfl, rfl, hx, ef, hle, ha, fw⟩ := h
  obtain ⟨A', t, h1, h2⟩ := hbody f cdv A outer s H E p E0 dd hz hf hr ef
  exact ⟨t, h1, fn_redS hF hN hl ⟨Hs, _, [], hle, ha, List.nodup_nil, fw⟩ fun Hs ps => h2 sc Hs ps hx⟩
end
section
variable {C : Cc}
/-! ### what is asked of the caught error -/
theorem se_isX {K : PySem.W.Frag} (hK : C.K = K) {a E0 dd : Addr} (hx : C.sc.x = some (a, E0, dd)) {tab : List (List Nat × Bool)} {cls : V} {cv : Value} (hcv : ∀ u, RelV cls u → u = cv)
    (hT : ∀ c b, tab.lookup c = some b → PySem.W.nsIn K mainGlobals (sOf c) = some (some (.ref E0)) → PySem.W.kitOne K (.ref E0) cv = some b) {te : TE} {me : ME Dv} (h : SE C te me) : SE C (tCB (rIsP K E0 a dd) (tCons te (tCons (tC cls) tNil))) (mIsX tab me) := fun Z Hs e σ H k Q w =>
  h Z Hs e σ H k _ (we_bind (fun d e1 v Hs1 H1 p1 k1 r1 w1 => by
    subst hK
    cases d with
    | exc c f d =>
      obtain ⟨b, hb, w2⟩ := we_of w1
      obtain ⟨b', hb', rfl⟩ := Option.map_eq_some_iff.mp hb
      simp only [rD, Rep] at r1
      obtain ⟨a', C', dd', w', hx', rfl, hn, hd, r⟩ := r1
      rw [hx] at hx'; cases hx'
      exact ⟨cls, cv, b', _, rfl, k1.le _ _ hd, hcv, hT c b' hb' hn, we_ok w2 k1 (by simp only [rD, Rep])⟩
    | _ => exact w1.elim) w)
theorem se_fld {a E0 dd : Addr} (hx : C.sc.x = some (a, E0, dd)) {f : List Nat} {fs : Str} (hf : fs = sOf f) {te : TE} {me : ME Dv} (h : SE C te me) : SE C (tXfP a dd fs te) (mFld f me) := fun Z Hs e σ H k Q w =>
  h Z Hs e σ H k _ (we_bind (fun d e1 v Hs1 H1 p1 k1 r1 w1 => by
    subst hf
    cases d with
    | exc c g d =>
      have w2 : WE C Z σ Hs1 H1 (rD C) (if g = f then Rs.ok d e1 else Rs.ud) Q := w1
      clear w1
      by_cases hg : g = f
      · rw [if_pos hg] at w2
        subst hg
        simp only [rD, Rep] at r1
        obtain ⟨a', C', dd', w', hx', rfl, hn, hd, r⟩ := r1
        rw [hx] at hx'; cases hx'
        exact ⟨rfl, _, w', k1.le _ _ hd, by simp [List.lookup], we_ok (rel := rD C) w2 k1 r⟩
      · rw [if_neg hg] at w2; exact w2.elim
    | _ => exact w1.elim) w)
/-! ### try .. except .. as x: return F(x) -/
theorem stok_E {Z Hs : Hp} {e : Loc} {σ : L2.St} {H : Hp} {E' : WX} (k : StOk C Z Hs e σ H) : StOk { C with E := E' } Z Hs e σ H := ⟨k.len, k.le, k.slot, k.sep, k.frame, k.dom, k.news, k.par, k.hid, k.hids⟩
theorem stok_E' {Z Hs : Hp} {e : Loc} {σ : L2.St} {H : Hp} {E' : WX} (k : StOk { C with E := E' } Z Hs e σ H) : StOk C Z Hs e σ H := ⟨k.len, k.le, k.slot, k.sep, k.frame, k.dom, k.news, k.par, k.hid, k.hids⟩
theorem nxS_ret {sc' : Sc} {K : PySem.W.Frag} (hK : C.K = K) {Hs H H' : Hp} {s : Slt} {v : V} (hn : nxS s = true) (h0 : ∀ p, H p = none → C.H0 p = none) (r : RetC K sc' Hs H H' s v) : RetOk C Hs H' s v := by
  subst hK
  unfold nxS at hn
  split at hn
  · exact rep_any (sc := sc') hn r
  · obtain ⟨p, rfl, h1, h2, ⟨xs, h3, h4⟩⟩ := r
    exact ⟨p, rfl, h1, h0 p h2, xs, h3, reps_any (sc := sc') hn h4⟩
  · cases hn
theorem ss_tryF {K : PySem.W.Frag} (hK : C.K = K) (hE : C.RE = REk K) {A : List Nat} {tb : WX → TS} {mb : MS} {tab : List (List Nat × Bool)} {i : Nat} {F : Fn} {cb : Value} {nl : List Str} {E' : L2.St → XK}
    (hex : ∀ c b E0, tab.lookup c = some b → PySem.W.nsIn K mainGlobals (sOf c) = some (some (.ref E0)) → PySem.W.exmOne K (.ref E0) cb = some b)
    {Wout : WX} (hall : ∀ c b, tab.lookup c = some b → b = true) (hcl : ∀ c E0, tab.lookup c = some true → PySem.W.nsIn K mainGlobals (sOf c) = some (some (.ref E0)) → ErrF K nl E0)
    (hb : ∀ W : WX, SS { C with E := W } A (tb W) mb) :
    SS C A (fun D σ H => tb (wAs K cb i (fun a c d => tRet (tCallS (spH C.sc.P C.sc.w K (REk K) nl F a c d) E' (tCons (tVar i) tNil))) Wout D) D σ H) (sTryF mb tab i F) := fun Z Hs e σ H k Dn w => by
  subst hK
  refine hb _ Z Hs e σ H (stok_E k) Dn ?_
  unfold sTryF at w
  cases q : mb e with
  | nx e' => rw [q] at w; exact fun Hs' σ' H' p' k' kp => w Hs' σ' H' p' (stok_E' k') kp
  | ct e' => rw [q] at w; exact fun Hs' σ' H' p' k' kp => w Hs' σ' H' p' (stok_E' k') kp
  | bk e' => rw [q] at w; exact fun Hs' σ' H' p' k' kp => w Hs' σ' H' p' (stok_E' k') kp
  | rt s e' => rw [q] at w; exact fun v Hs' σ' H' p' k' r => w v Hs' σ' H' p' (stok_E' k') r
  | ud => rw [q] at w; exact w
  | er x e' =>
    rw [q] at w
    intro Hs' σ' H' cl od p' k' re
    have k1 := stok_E' k'
    have re : C.RE x cl od Hs' H' := re
    rw [hE] at re
    obtain ⟨E0, dd, wv, f, d, hx2, hn, rfl, rfl, hd, hlow, hrep⟩ := re
    simp only [hx2] at w
    cases hl : tab.lookup x.1 with
    | none => rw [hl] at w; exact w.elim
    | some b =>
      rw [hl] at w
      cases b with
      | false =>
        cases hall _ _ hl
      | true =>
        refine ⟨true, hex _ _ _ hl hn, fun _ a na => ?_, (fun z => nomatch z)⟩
        simp only at w
        split at w
        · rename_i hi
          have hi' : i < σ'.length := by rw [k1.len]; exact hi
          refine ⟨.ref a, List.getElem?_set_self hi', E0, dd, x.1, f, d, ⟨C.sc.a, some (a, E0, dd), C.sc.P, C.sc.w⟩, Hs', rfl, rfl, rfl, hcl _ _ hl hn, k1.le, ⟨?_, trivial⟩, ?_⟩
          · simp only [Rep]
            exact ⟨a, E0, dd, wv, rfl, rfl, hn, hd, hrep _⟩
          · split at w
            · rename_i s hF
              split at w
              · rename_i hns
                rw [hF]
                intro v Hs2 H2 fp _ rc
                obtain ⟨k2, _⟩ := stok_call (is := []) (os := []) (e' := e') k1 fp trivial trivial List.nodup_nil rfl
                exact w v Hs2 σ' H2 (p'.trans ⟨fp.ext, fp.dom⟩) k2 (nxS_ret rfl hns (fun p hp => k1.h0_none hp) rc)
              · exact w.elim
            · exact w.elim
        · exact w.elim
section
variable {X : Cx} {n g B : Str} {i k j : Nat} {body : List Stmt} {np pos pos' q1 q2 q3 q4 : Pos} {tb : WX → TS} {cb : Value} {Wout : WX} {nl : List Str} {RE : Err → Value → Option Addr → Hp → Hp → Prop} {F : Fn} {E' : L2.St → XK}
theorem ps_tryF (T : KeptH X.prog X.w X.K X.mg X.base k g (spH X.prog X.w X.K RE nl F)) (hr : Room j X.A) (hk : k ≤ j) (hs : X.stack = X.env :: X.outer) (hf : X.env.frame = some X.env.locals) (hN : X.N.Nodup) (hi : X.N[i]? = some n) (hln : X.env.kindOf n = some .local) (hc : Names X B cb) (tk : Takes X Wout)
    (hv : Vis X.env.scope n) (hg : Gl X g) (hdn : (n == ("__debug__" : Str)) = false) (hdc : (n == ("__classdict__" : Str)) = false) (hdg : (g == ("__debug__" : Str)) = false)
    (hb : ∀ (W : WX) (pn : List (Addr × Obj)) (xe : Value → Shared → Prop), Takes (X.tr pn xe) W → PassesOwn (model X.prog X.w) X.A X.env xe → PSs (X.tr pn xe) body (tb W))
    (he : ∀ (a : Addr) (pn : List (Addr × Obj)), starEach [.Name n q1] (X.suite a pn).env = (false, eval (.Name n q1) (X.suite a pn).env) :: starEach [] (X.suite a pn).env := by intro _ _; rfl) (hpl : ∀ (a : Addr) (pn : List (Addr × Obj)), (backTo q3 (starEach [] (X.suite a pn).env)).any (·.1) = false := by intro _ _; rfl) :
    PS X (.Try body [.ExceptHandler (some (.Name B np)) (some n) [.Return (some (.Call (.Name g q2) [.Name n q1] [] q3)) q4] pos'] [] [] pos)
      (fun D σ H => tb (wAs X.K cb i (fun a c d => tRet (tCallS (spH X.prog X.w X.K RE nl F a c d) E' (tCons (tVar i) tNil))) Wout D) D σ H) := by
  obtain ⟨f, fd, ps, Fh, hm, kp, b⟩ := T.ex
  refine ps_try_as (i := i) hs hf hN hi hln hc tk hb fun a oe cls d pn hz hfl => pss_one (ps_ret ?_)
  exact pe_callHp (p := (a, oe)) Fh ⟨by have := (hr.mono hk).dp; exact this, by have := (hr.mono hk).un; exact this⟩ List.mem_cons_self hz hfl hg hm kp b (pa_cons (pe_var (i := i) hi hv hdn hdc) pa_nil (he _ _)) hdg (he _ _) (hpl _ _)
end
end
end Ml

set_option linter.all false
set_option autoImplicit false
set_option maxRecDepth 100000
set_option maxHeartbeats 1000000
namespace Ml
open L2
open PySem (Addr Str sizeLine)
section
variable {C : Cc} {te : TE} {me : ME Dv}
theorem wipe_lt {τ : L2.St} : ∀ {vs : List Nat} {j : Nat}, j ∈ vs → (wipe τ vs)[j]? = if j < τ.length then some none else none
  | [], j, h => by cases h
  | v :: vs, j, h => by
    unfold wipe
    by_cases z : v = j
    · subst z
      by_cases hl : v < τ.length
      · rw [List.getElem?_set_self (by rw [wipe_length]; exact hl), if_pos hl]
      · rw [if_neg hl]
        apply List.getElem?_eq_none
        rw [List.length_set, wipe_length]; omega
    · rw [List.getElem?_set_ne z]
      exact wipe_lt ((List.mem_cons.mp h).resolve_left (Ne.symm z))
theorem wipe_in {τ : L2.St} {vs vs1 : List Nat} (h : ∀ j, j ∈ vs1 → j ∈ vs) : wipe (wipe τ vs1) vs = wipe τ vs := by
  apply List.ext_getElem?
  intro j
  by_cases hj : j ∈ vs
  · rw [wipe_lt hj, wipe_lt hj, wipe_length]
  · rw [wipe_get hj, wipe_get hj, wipe_get fun z => hj (h j z)]
theorem seo_lc2 {wi wi1 : TI} {mi mi1 : ME (List Dv)} {g g1 : TG} {mg mg1 : MG} {tt tt1 : TT} {mt mt1 : ME Bool} {A A1 : List Nat} {vs vs1 : List Nat} (hi : SI C wi mi) (hg : SG C A g mg) (ht : ST C tt mt) (hi1 : SI C wi1 mi1) (hg1 : SG C A1 g1 mg1) (ht1 : ST C tt1 mt1) (h : SE C te me)
    (hA : ∀ j, j ∈ A → j ∈ vs := by decide) (hA1 : ∀ j, j ∈ A1 → j ∈ vs1 := by decide) (hv : ∀ j, j ∈ vs1 → j ∈ vs := by decide) :
    SEO C (tLc2 wi g tt wi1 g1 tt1 te vs vs1) (mLc2 mi mg mt mi1 mg1 mt1 me vs vs1) := fun Z Hs e σ H k Q w =>
  hi Z Hs e σ H k _ (we_bind (fun ds e1 J Hs1 H1 p1 k1 it w1 => by
    split at w1
    · rename_i hno
      split at w1
      · rename_i accF eF hF
        intro D hD
        have h0 : C.H0 D = none := k1.h0_none hD
        have hzD : Z D = none := k1.z_none hD
        have kD : StOk C (upd Z D (.lst [])) Hs1 (wipeE e1 vs) (wipe σ vs) (upd H1 D (.lst [])) := ((stok_wipe k1 vs).newO hD).hide upd_same (k1.hs_none hD) ((stok_wipe k1 vs).fresh hD)
        refine ⟨fun i mm H' => mm = ds.length - i ∧ i ≤ ds.length ∧ ∃ Hs' e' acc xs, Post Hs1 H1 Hs' H' ∧ StOk C (upd Z D (.lst xs)) Hs' e' (wipe σ vs) H' ∧ Reps C.K C.sc Hs' acc xs ∧ lcGo2 mg mt mi1 mg1 mt1 me vs vs1 (ds.drop i) acc e' = some (accF, eF),
          ⟨ds.length, rfl, Nat.zero_le _, Hs1, wipeE e1 vs, [], [], Post.newO, kD, reps_nil, hF⟩, ?_⟩
        rintro i mm H' ⟨rfl, hle, Hs', e', acc, xs, p', k', rx, hgo⟩
        obtain ⟨itg, its⟩ := it i _ Hs' e' _ H' k' p'.le
        by_cases hlt : i < ds.length
        · obtain ⟨d, hd, hdr⟩ := drop_cons hlt
          obtain ⟨go, yl⟩ := itg d hd
          rw [hdr] at hgo
          refine .inr ⟨go, fun H3 => ∃ Hs' e' acc xs, Post Hs1 H1 Hs' H3 ∧ StOk C (upd Z D (.lst xs)) Hs' e' (wipe σ vs) H3 ∧ Reps C.K C.sc Hs' acc xs ∧ lcGo2 mg mt mi1 mg1 mt1 me vs vs1 (ds.drop (i + 1)) acc e' = some (accF, eF), fun H3 h3 => ⟨ds.length - (i + 1), by omega, rfl, hlt, h3⟩, fun x H2 hy => ?_⟩
          obtain ⟨Hs2, p2, k2, r2⟩ := yl x H2 hy
          unfold lcGo2 at hgo
          cases qg : mg d e' with
          | none => simp only [qg] at hgo; cases hgo
          | some e2 =>
            simp only [qg] at hgo
            refine hg _ Hs2 e' _ H2 k2 d x e2 r2 qg _ fun σ2 k3 kp3 => ?_
            have hw : wipe σ2 vs = wipe σ vs := wipe_idem (kp3.sub hA) (by rw [kp3.1, wipe_length])
            refine ⟨hw, ht _ Hs2 e2 σ2 H2 k3 _ ?_⟩
            cases qt : mt e2 with
            | ud => simp only [qt] at hgo; cases hgo
            | er x e => simp only [qt] at hgo; cases hgo
            | ok b e3 =>
              intro b' Hs3 H3 p3 k3' rb
              have rb : b = b' := rb
              subst rb
              cases b with
              | false =>
                simp only [qt] at hgo
                exact ⟨Hs3, wipeE e3 vs, acc, xs, (p'.trans p2).trans p3, stok_zr (stok_wipe k3' vs) hw, reps_le (p2.trans p3).le rx, hgo⟩
              | true =>
                simp only [qt] at hgo
                refine hi1 _ Hs3 e3 σ2 H3 k3' _ ?_
                cases qi : mi1 e3 with
                | ud => simp only [qi] at hgo; cases hgo
                | er x e => simp only [qi] at hgo; cases hgo
                | ok ds1 e4 =>
                  simp only [qi] at hgo
                  intro J1 Hs4 H4 p4 k4 it1
                  cases qL : lcGo mg1 mt1 me vs1 ds1 acc (wipeE e4 vs1) with
                  | none => simp only [qL] at hgo; cases hgo
                  | some r =>
                    obtain ⟨acc2, eE⟩ := r
                    simp only [qL] at hgo
                    have P4 := ((p'.trans p2).trans p3).trans p4
                    refine ⟨fun j kk H5 => kk = ds1.length - j ∧ j ≤ ds1.length ∧ ∃ Hs' e' acc xs, Post Hs1 H1 Hs' H5 ∧ Le Hs4 Hs' ∧ StOk C (upd Z D (.lst xs)) Hs' e' (wipe σ2 vs1) H5 ∧ Reps C.K C.sc Hs' acc xs ∧ lcGo mg1 mt1 me vs1 (ds1.drop j) acc e' = some (acc2, eE),
                      ⟨ds1.length, rfl, Nat.zero_le _, Hs4, wipeE e4 vs1, acc, xs, P4, Le.rfl', stok_wipe k4 vs1, reps_le ((p2.trans p3).trans p4).le rx, qL⟩, ?_⟩
                    rintro j kk H5 ⟨rfl, hle1, Hs5, e5, acc5, xs5, p5, l5, k5, rx5, hgo5⟩
                    obtain ⟨itg1, its1⟩ := it1 j _ Hs5 e5 _ H5 k5 l5
                    by_cases hlt1 : j < ds1.length
                    · obtain ⟨d1, hd1, hdr1⟩ := drop_cons hlt1
                      obtain ⟨go1, yl1⟩ := itg1 d1 hd1
                      rw [hdr1] at hgo5
                      refine .inr ⟨go1, fun H6 => ∃ Hs' e' acc xs, Post Hs1 H1 Hs' H6 ∧ Le Hs4 Hs' ∧ StOk C (upd Z D (.lst xs)) Hs' e' (wipe σ2 vs1) H6 ∧ Reps C.K C.sc Hs' acc xs ∧ lcGo mg1 mt1 me vs1 (ds1.drop (j + 1)) acc e' = some (acc2, eE), fun H6 h6 => ⟨ds1.length - (j + 1), by omega, rfl, hlt1, h6⟩, fun x6 H6 hy6 => ?_⟩
                      obtain ⟨Hs6, p6, k6, r6⟩ := yl1 x6 H6 hy6
                      unfold lcGo at hgo5
                      cases qg1 : mg1 d1 e5 with
                      | none => simp only [qg1] at hgo5; cases hgo5
                      | some e6 =>
                        simp only [qg1] at hgo5
                        refine hg1 _ Hs6 e5 _ H6 k6 d1 x6 e6 r6 qg1 _ fun σ7 k7 kp7 => ?_
                        have hw1 : wipe σ7 vs1 = wipe σ2 vs1 := wipe_idem (kp7.sub hA1) (by rw [kp7.1, wipe_length])
                        refine ⟨hw1, ht1 _ Hs6 e6 σ7 H6 k7 _ ?_⟩
                        cases qt1 : mt1 e6 with
                        | ud => simp only [qt1] at hgo5; cases hgo5
                        | er x e => simp only [qt1] at hgo5; cases hgo5
                        | ok b1 e7 =>
                          intro b1' Hs7 H7 p7 k7' rb1
                          have rb1 : b1 = b1' := rb1
                          subst rb1
                          cases b1 with
                          | false =>
                            simp only [qt1] at hgo5
                            exact ⟨Hs7, wipeE e7 vs1, acc5, xs5, (p5.trans p6).trans p7, l5.trans (p6.trans p7).le, stok_zr (stok_wipe k7' vs1) hw1, reps_le (p6.trans p7).le rx5, hgo5⟩
                          | true =>
                            simp only [qt1] at hgo5
                            refine h _ Hs7 e7 σ7 H7 k7' _ ?_
                            cases qm : me e7 with
                            | ud => simp only [qm] at hgo5; cases hgo5
                            | er x e => simp only [qm] at hgo5; cases hgo5
                            | ok y e8 =>
                              simp only [qm] at hgo5
                              intro v Hs8 H8 p8 k8 r8
                              split at hgo5
                              · rename_i hlen
                                have rx8 := reps_le ((p6.trans p7).trans p8).le rx5
                                exact ⟨xs5, (k8.hid D _ upd_same).1, by rw [reps_len rx5]; exact lim_lt hlen, Hs8, wipeE e8 vs1, acc5 ++ [y], xs5 ++ [v], ((p5.trans p6).trans (p7.trans p8)).trans Post.newO, l5.trans ((p6.trans p7).trans p8).le, stok_zr ((stok_wipe k8 vs1).hmut h0) hw1, reps_app rx8 (reps_cons r8 reps_nil), hgo5⟩
                              · cases hgo5
                    · have e0 : ds1.drop j = [] := List.drop_eq_nil_of_le (by omega)
                      rw [e0] at hgo5
                      cases hgo5
                      exact .inl ⟨its1 (by omega), Hs5, wipeE eE vs, acc2, xs5, p5, stok_zr (stok_wipe k5 vs) ((wipe_in hv).trans hw), rx5, hgo⟩
        · have e0 : ds.drop i = [] := List.drop_eq_nil_of_le (by omega)
          rw [e0] at hgo
          cases hgo
          obtain ⟨hx, hn⟩ := k'.hid D _ upd_same
          refine .inl ⟨its (by omega), w1 _ Hs' H' p' (stok_back k1 p'.le (k'.zle (Le.new hzD)) hno) ⟨D, rfl, hn, ⟨h0, hzD⟩, ⟨xs, hx, rx⟩, fun i j u h1 h2 => ?_⟩⟩
          have hi' : i ∉ vs := fun hi => by
            have q := backE_in hi h1
            rcases noOw_at hno hi with z | ⟨d, z⟩ <;> (rw [z] at q; cases q)
          rw [backE_out hi'] at h1
          have q := k'.hids i j u D h1 (by rw [wipe_get hi']; exact h2)
          rw [upd_same] at q; cases q
      · exact w1.elim
    · exact w1.elim) w)
end
end Ml

set_option linter.all false
set_option autoImplicit false
set_option maxRecDepth 100000
set_option maxHeartbeats 1000000
namespace Ml
open L2
open PySem (Addr Str sizeLine)
section
variable {C : Cc} {te : TE} {me : ME Dv} {A B : List Nat} {t : TS} {m : MS}
theorem own_turn {Z Hs : Hp} {e : Loc} {σ : L2.St} {H : Hp} (k : StOk C Z Hs e σ H) {i : Nat} {j : Option Nat} {ds : List Dv} {p : Addr} (he : e[i]? = some (.ow j (.lst ds))) (hp : σ[i]? = some (some (.ref p))) :
    ∃ xs, SqL C.K H p xs ∧ Reps C.K C.sc Hs ds xs := by
  obtain ⟨q, e1, _, ⟨xs, hx, rx⟩, _⟩ := k.own he
  rw [hp] at e1; cases e1
  exact ⟨xs, SqL.of hx, rx⟩
theorem ss_forO {K : PySem.W.Frag} (hK : C.K = K) {i : Nat} {g : TG} {mg : MG} (hg : SG C A g mg) (hb : SS C B t m) (hi : i ∉ A ++ B) : SS C (A ++ B) (tFor (iList K (tVar i)) g t) (sForO i mg m) := fun Z Hs e σ H k Dn w => by
  subst hK
  have h0 : ∃ p, σ[i]? = some (some (.ref p)) ∧ ∃ xs, SqL C.K H p xs := by
    have w' : WS C Z (A ++ B) σ Hs H (loopO i mg m lim 0 e) Dn := w
    rw [show lim = 15999999 + 1 from rfl, loopO] at w'
    split at w'
    · rename_i j ds he
      obtain ⟨p, e1, _, ⟨xs, hx, rx⟩, _⟩ := k.own he
      exact ⟨p, e1, xs, SqL.of hx⟩
    · exact w'.elim
  obtain ⟨p, hp, xs0, hx0⟩ := h0
  refine ⟨.ref p, hp, p, rfl, ⟨xs0, hx0⟩, ?_⟩
  refine ⟨fun j n σ' H' => σ'[i]? = some (some (.ref p)) ∧ ∃ Hs' e', Post Hs H Hs' H' ∧ StOk C Z Hs' e' σ' H' ∧ WS C Z (A ++ B) σ' Hs' H' (loopO i mg m n j e') Dn, ⟨lim, hp, Hs, e, Post.refl, k, w⟩, ?_⟩
  rintro j n σ' H' ⟨hp', Hs', e', p', k', w'⟩
  cases n with
  | zero => exact w'.elim
  | succ n =>
    rw [loopO] at w'
    split at w'
    · rename_i jj ds he
      obtain ⟨xs, hx, rx⟩ := own_turn k' he hp'
      split at w'
      · rename_i hd
        have hl : ds.length ≤ j := by simpa using hd
        exact .inl ⟨⟨xs, hx, by rw [reps_len rx]; exact hl⟩, w' Hs' σ' H' Post.refl k' Kp.refl⟩
      · rename_i d hd
        obtain ⟨v, e1, e2⟩ := reps_get rx hd
        refine .inr ⟨⟨xs, v, hx, e1⟩, fun σ3 H3 => σ3[i]? = some (some (.ref p)) ∧ ∃ Hs3 e3, Post Hs H Hs3 H3 ∧ StOk C Z Hs3 e3 σ3 H3 ∧ WS C Z (A ++ B) σ3 Hs3 H3 (loopO i mg m n (j + 1) e3) Dn, fun σ3 H3 h3 => ⟨n, by omega, h3⟩, fun x H2 hy => ?_⟩
        obtain ⟨rfl, hyx⟩ := hy
        have ex := hyx xs hx
        rw [e1] at ex; cases ex
        cases q : mg d e' with
        | none => rw [q] at w'; exact w'.elim
        | some e2' =>
          rw [q] at w'
          refine hg Z Hs' e' σ' H2 k' d v e2' e2 q _ fun σ2 k3 kp3 => ?_
          refine hb Z Hs' e2' σ2 H2 k3 _ ?_
          have hp2 : ∀ {σ4 : L2.St}, Kp B σ2 σ4 → σ4[i]? = some (some (.ref p)) := fun {σ4} kp4 => by
            rw [kp4.2 i fun z => hi (List.mem_append_right _ z), kp3.2 i fun z => hi (List.mem_append_left _ z)]; exact hp'
          have cvt : ∀ {σ4 : L2.St} {r : Sr} {Hs4 H4 : Hp} {D2 : Ends}, Post Hs' H2 Hs4 H4 → Kp B σ2 σ4 → WS C Z (A ++ B) σ' Hs' H2 r D2 → WS C Z (A ++ B) σ4 Hs4 H4 r D2 := fun {σ4 r Hs4 H4 D2} p4 kp4 h4 =>
            ws_step p4 (fun _ z => ⟨z.1.trans (kp4.1.trans kp3.1), fun j hj => ((z.2 j hj).trans (kp4.2 j fun q => hj (List.mem_append_right _ q))).trans (kp3.2 j fun q => hj (List.mem_append_left _ q))⟩) h4
          cases q2 : m e2' with
          | nx e3 => simp only [q2] at w'; exact fun Hs4 σ4 H4 p4 k4 kp4 => ⟨hp2 kp4, Hs4, e3, p'.trans p4, k4, cvt p4 kp4 w'⟩
          | ct e3 => simp only [q2] at w'; exact fun Hs4 σ4 H4 p4 k4 kp4 => ⟨hp2 kp4, Hs4, e3, p'.trans p4, k4, cvt p4 kp4 w'⟩
          | bk e3 => simp only [q2] at w'; exact fun Hs4 σ4 H4 p4 k4 kp4 => w' Hs4 σ4 H4 p4 k4 (kp3.trans kp4)
          | rt s e3 => simp only [q2] at w'; exact fun v Hs4 σ4 H4 p4 k4 r4 => w' v Hs4 σ4 H4 p4 k4 r4
          | er x e3 => simp only [q2] at w'; exact fun Hs4 σ4 H4 c od p4 k4 r4 => w' Hs4 σ4 H4 c od p4 k4 r4
          | ud => simp only [q2] at w'; exact w'.elim
    · exact w'.elim
theorem seo_lcO {K : PySem.W.Frag} (hK : C.K = K) {i : Nat} {g : TG} {mg : MG} {tt : TT} {mt : ME Bool} {vs : List Nat} (hg : SG C A g mg) (ht : ST C tt mt) (h : SE C te me) (hA : ∀ j, j ∈ A → j ∈ vs := by decide) (hi : i ∉ vs := by decide) :
    SEO C (tLc (iList K (tVar i)) g tt te vs) (mLcO i mg mt me vs) := fun Z Hs e σ H k Q w => by
  subst hK
  unfold mLcO at w
  split at w
  · rename_i hno
    obtain ⟨how, hno⟩ := hno
    split at w
    · rename_i accF eF hF
      obtain ⟨j0, ds0, he0⟩ := ls_of how
      obtain ⟨p, hp, _, ho0, _⟩ := k.own he0
      obtain ⟨xs0, hx0, _⟩ := ho0
      refine ⟨.ref p, hp, p, rfl, ⟨xs0, SqL.of hx0⟩, ?_⟩
      intro D hD
      have h0 : C.H0 D = none := k.h0_none hD
      have hzD : Z D = none := k.z_none hD
      have hpw : (wipe σ vs)[i]? = some (some (.ref p)) := by rw [wipe_get hi]; exact hp
      have kD : StOk C (upd Z D (.lst [])) Hs (wipeE e vs) (wipe σ vs) (upd H D (.lst [])) := ((stok_wipe k vs).newO hD).hide upd_same (k.hs_none hD) ((stok_wipe k vs).fresh hD)
      refine ⟨fun j n H' => ∃ Hs' e' acc xs, Post Hs H Hs' H' ∧ StOk C (upd Z D (.lst xs)) Hs' e' (wipe σ vs) H' ∧ Reps C.K C.sc Hs' acc xs ∧ lcGoO i mg mt me vs n j acc e' = some (accF, eF),
        ⟨lim, Hs, wipeE e vs, [], [], Post.newO, kD, reps_nil, hF⟩, ?_⟩
      rintro j n H' ⟨Hs', e', acc, xs, p', k', rx, hgo⟩
      cases n with
      | zero => cases hgo
      | succ n =>
        rw [lcGoO] at hgo
        split at hgo
        · rename_i jj ds he
          obtain ⟨ys, hy, ry⟩ := own_turn k' he hpw
          split at hgo
          · rename_i hd
            have hl : ds.length ≤ j := by simpa using hd
            cases hgo
            obtain ⟨hx, hn⟩ := k'.hid D _ upd_same
            refine .inl ⟨⟨ys, hy, by rw [reps_len ry]; exact hl⟩, w _ Hs' H' p' (stok_back k p'.le (k'.zle (Le.new hzD)) hno) ⟨D, rfl, hn, ⟨h0, hzD⟩, ⟨xs, hx, rx⟩, fun i j u h1 h2 => ?_⟩⟩
            have hi' : i ∉ vs := fun hi => by
              have q := backE_in hi h1
              rcases noOw_at hno hi with z | ⟨d, z⟩ <;> (rw [z] at q; cases q)
            rw [backE_out hi'] at h1
            have q := k'.hids i j u D h1 (by rw [wipe_get hi']; exact h2)
            rw [upd_same] at q; cases q
          · rename_i d hd
            obtain ⟨v, e1, e2⟩ := reps_get ry hd
            refine .inr ⟨⟨ys, v, hy, e1⟩, fun H3 => ∃ Hs' e' acc xs, Post Hs H Hs' H3 ∧ StOk C (upd Z D (.lst xs)) Hs' e' (wipe σ vs) H3 ∧ Reps C.K C.sc Hs' acc xs ∧ lcGoO i mg mt me vs n (j + 1) acc e' = some (accF, eF), fun H3 h3 => ⟨n, by omega, h3⟩, fun x H2 hyy => ?_⟩
            obtain ⟨rfl, hyx⟩ := hyy
            have ex := hyx ys hy
            rw [e1] at ex; cases ex
            cases qg : mg d e' with
            | none => simp only [qg] at hgo; cases hgo
            | some e2' =>
              simp only [qg] at hgo
              refine hg _ Hs' e' _ H2 k' d v e2' e2 qg _ fun σ2 k3 kp3 => ?_
              have hw : wipe σ2 vs = wipe σ vs := wipe_idem (kp3.sub hA) (by rw [kp3.1, wipe_length])
              refine ⟨hw, ht _ Hs' e2' σ2 H2 k3 _ ?_⟩
              cases qt : mt e2' with
              | ud => simp only [qt] at hgo; cases hgo
              | er x e => simp only [qt] at hgo; cases hgo
              | ok b e3 =>
                intro b' Hs3 H3 p3 k3' rb
                have rb : b = b' := rb
                subst rb
                cases b with
                | false =>
                  simp only [qt] at hgo
                  exact ⟨Hs3, wipeE e3 vs, acc, xs, p'.trans p3, stok_zr (stok_wipe k3' vs) hw, reps_le p3.le rx, hgo⟩
                | true =>
                  simp only [qt] at hgo
                  refine h _ Hs3 e3 σ2 H3 k3' _ ?_
                  cases qm : me e3 with
                  | ud => simp only [qm] at hgo; cases hgo
                  | er x e => simp only [qm] at hgo; cases hgo
                  | ok y e4 =>
                    simp only [qm] at hgo
                    intro v Hs4 H4 p4 k4 r4
                    split at hgo
                    · rename_i hlen
                      have rx4 := reps_le (p3.trans p4).le rx
                      refine ⟨xs, (k4.hid D _ upd_same).1, by rw [reps_len rx]; exact lim_lt hlen, Hs4, wipeE e4 vs, acc ++ [y], xs ++ [v], (p'.trans (p3.trans p4)).trans Post.newO, stok_zr ((stok_wipe k4 vs).hmut h0) hw, reps_app rx4 (reps_cons r4 reps_nil), hgo⟩
                    · cases hgo
        · cases hgo
    · exact w.elim
  · exact w.elim
theorem ss_while {tt : TT} {mt : ME Bool} (ht : ST C tt mt) (hb : SS C B t m) : SS C B (tWhile tt t) (sWhile mt m) := fun Z Hs e σ H k Dn w => by
  refine ⟨fun n σ' H' => ∃ Hs' e', Post Hs H Hs' H' ∧ StOk C Z Hs' e' σ' H' ∧ WS C Z B σ' Hs' H' (loopW mt m n e') Dn, ⟨lim, Hs, e, Post.refl, k, w⟩, ?_⟩
  rintro n σ' H' ⟨Hs', e', p', k', w'⟩
  cases n with
  | zero => exact w'.elim
  | succ n =>
    rw [loopW] at w'
    refine ht Z Hs' e' σ' H' k' _ (we_go (fun b e1 b' Hs1 H1 p1 k1 r1 w1 => ?_) w')
    have r1 : b = b' := r1
    subst r1
    cases b with
    | false =>
      rw [if_neg Bool.false_ne_true] at w1 ⊢
      exact w1 Hs1 σ' H1 Post.refl k1 Kp.refl
    | true =>
      rw [if_pos rfl] at w1 ⊢
      refine ⟨fun σ3 H3 => ∃ Hs3 e3, Post Hs H Hs3 H3 ∧ StOk C Z Hs3 e3 σ3 H3 ∧ WS C Z B σ3 Hs3 H3 (loopW mt m n e3) Dn, fun σ3 H3 h3 => ⟨n, by omega, h3⟩, hb Z Hs1 e1 σ' H1 k1 _ ?_⟩
      cases q2 : m e1 with
      | nx e3 => simp only [q2] at w1; exact fun Hs4 σ4 H4 p4 k4 kp4 => ⟨Hs4, e3, (p'.trans p1).trans p4, k4, ws_step p4 (fun _ z => ⟨z.1.trans kp4.1, fun j hj => (z.2 j hj).trans (kp4.2 j hj)⟩) w1⟩
      | ct e3 => simp only [q2] at w1; exact fun Hs4 σ4 H4 p4 k4 kp4 => ⟨Hs4, e3, (p'.trans p1).trans p4, k4, ws_step p4 (fun _ z => ⟨z.1.trans kp4.1, fun j hj => (z.2 j hj).trans (kp4.2 j hj)⟩) w1⟩
      | bk e3 => simp only [q2] at w1; exact fun Hs4 σ4 H4 p4 k4 kp4 => w1 Hs4 σ4 H4 p4 k4 kp4
      | rt s e3 => simp only [q2] at w1; exact fun v Hs4 σ4 H4 p4 k4 r4 => w1 v Hs4 σ4 H4 p4 k4 r4
      | er x e3 => simp only [q2] at w1; exact fun Hs4 σ4 H4 c od p4 k4 r4 => w1 Hs4 σ4 H4 c od p4 k4 r4
      | ud => simp only [q2] at w1; exact w1.elim
end
theorem mem_look {c : List Nat} {b : Bool} : ∀ {tab : List (List Nat × Bool)}, tab.lookup c = some b → (c, b) ∈ tab
  | [], h => by cases h
  | (a, x) :: r, h => by
    simp only [List.lookup] at h
    split at h
    · rename_i e
      cases h
      have : c = a := by simpa using e
      rw [this]; exact List.mem_cons_self
    · exact List.mem_cons_of_mem _ (mem_look h)
theorem tab_all {tab : List (List Nat × Bool)} (h : tab.all (·.2) = true) : ∀ c b, tab.lookup c = some b → b = true := fun c b hl => by
  have := List.all_eq_true.mp h _ (mem_look hl)
  exact this
section
variable {K : PySem.W.Frag} {tab : List (List Nat × Bool)} {cv : PySem.Value} {nl : List Str}
theorem kt_mk (h : ∀ p ∈ tab, ∃ A, PySem.W.nsIn K PySem.mainGlobals (sOf p.1) = some (some (.ref A)) ∧ PySem.W.kitOne K (.ref A) cv = some p.2) : ∀ c b E0, tab.lookup c = some b → PySem.W.nsIn K PySem.mainGlobals (sOf c) = some (some (.ref E0)) → PySem.W.kitOne K (.ref E0) cv = some b := fun c b E0 hl hn => by
  obtain ⟨A, h1, h2⟩ := h _ (mem_look hl)
  rw [hn] at h1; cases h1; exact h2
theorem xm_mk (h : ∀ p ∈ tab, ∃ A, PySem.W.nsIn K PySem.mainGlobals (sOf p.1) = some (some (.ref A)) ∧ PySem.W.exmOne K (.ref A) cv = some p.2) : ∀ c b E0, tab.lookup c = some b → PySem.W.nsIn K PySem.mainGlobals (sOf c) = some (some (.ref E0)) → PySem.W.exmOne K (.ref E0) cv = some b := fun c b E0 hl hn => by
  obtain ⟨A, h1, h2⟩ := h _ (mem_look hl)
  rw [hn] at h1; cases h1; exact h2
theorem xf_mk (h : ∀ p ∈ tab, ∃ A, PySem.W.nsIn K PySem.mainGlobals (sOf p.1) = some (some (.ref A)) ∧ ErrF K nl A) : ∀ c E0, tab.lookup c = some true → PySem.W.nsIn K PySem.mainGlobals (sOf c) = some (some (.ref E0)) → ErrF K nl E0 := fun c E0 hl hn => by
  obtain ⟨A, h1, h2⟩ := h _ (mem_look hl)
  rw [hn] at h1; cases h1; exact h2
theorem conR {x : Str} {a : Addr} (h : PySem.W.nsIn K PySem.mainGlobals x = some (some (.ref a))) : ConK K x (.ref a) := ⟨_, h, rfl⟩
end
section
variable {X : L2.Cx} {K : PySem.W.Frag} {l tg : PySem.Expr} {tl : TE}
theorem pi_tupK (hK : X.K = K) (hl : PE X l tl) : PI X tg l (iTup K tl) := by subst hK; exact pi_tup hl
theorem pi_listK (hK : X.K = K) (hl : PE X l tl) : PI X tg l (iList K tl) := by subst hK; exact pi_list hl
end
section
variable {C : Cc} {K : PySem.W.Frag}
theorem any_eqv {a : Dv} {n m : Nat} (ha : lowD n a = true) : ∀ {ds : List Dv}, lowDs m ds = true → (toPs ds).any (fun z => PySem.PyData.eqv z (toP a)) = ds.any fun y => eqD y a
  | [], _ => rfl
  | d :: ds, h => by
    simp only [lowDs, Bool.and_eq_true] at h
    simp only [toPs, List.any_cons]
    rw [eqD_ok d a h.1 ha, any_eqv ha h.2]
theorem rv_inD (hK : C.K = K) : RV C (rInD K) oInD := fun Z Hs e σ H k x y a b c Q ra rb hf w => by
  subst hK
  unfold oInD at hf
  split at hf
  · rename_i ds
    split at hf
    · rename_i hc
      cases hf
      obtain ⟨a1, a2, a3⟩ := dp_ok k.le hc.1 ra
      obtain ⟨b1, b2, b3⟩ := dp_ok k.le hc.2 rb
      have e1 : toP (.lst ds) = .list (toPs ds) := by simp only [toP]
      rw [e1] at b1 b2 b3
      refine ⟨_, _, a1, b1, shaped_ok a2 a3 (by decide), shaped_ok b2 b3 (by decide), ?_⟩
      rw [any_eqv hc.1 (m := 59) (by have := hc.2; simpa only [lowD] using this)]
      exact we_ok w k (by simp only [rD, Rep])
    · cases hf
  · cases hf
theorem rv_niD (hK : C.K = K) : RV C (rNotInD K) oNiD := fun Z Hs e σ H k x y a b c Q ra rb hf w => by
  subst hK
  unfold oNiD at hf
  split at hf
  · rename_i ds
    split at hf
    · rename_i hc
      cases hf
      obtain ⟨a1, a2, a3⟩ := dp_ok k.le hc.1 ra
      obtain ⟨b1, b2, b3⟩ := dp_ok k.le hc.2 rb
      have e1 : toP (.lst ds) = .list (toPs ds) := by simp only [toP]
      rw [e1] at b1 b2 b3
      refine ⟨_, _, a1, b1, shaped_ok a2 a3 (by decide), shaped_ok b2 b3 (by decide), ?_⟩
      rw [any_eqv hc.1 (m := 59) (by have := hc.2; simpa only [lowD] using this)]
      exact we_ok w k (by simp only [rD, Rep])
    · cases hf
  · cases hf
theorem inDK {X : L2.Cx} (hK : X.K = K) {k : Nat} (hr : L2.Room k X.A) : OpR X (PySem.compareOp .In) (rInD K) := by subst hK; have := hr.un; exact op_inD (by omega)
theorem niDK {X : L2.Cx} (hK : X.K = K) {k : Nat} (hr : L2.Room k X.A) : OpR X (PySem.compareOp .NotIn) (rNotInD K) := by subst hK; have := hr.un; exact op_notInD (by omega)
end
theorem kit_own {K : PySem.W.Frag} {t : PySem.Value} {C : Addr} {b : Bool} (h : PySem.W.subIn K t (.ref C) = some b) (hr : PySem.W.subIn K (.ref C) (.ref C) = some true) (hc : PySem.W.isClsIn K C = true) (ht : PySem.W.typeIn K (.ref C) = some (.type "type")) : PySem.W.kitOne K t (.ref C) = some b := by
  unfold PySem.W.kitOne
  by_cases e : (t == PySem.Value.ref C) = true
  · rw [if_pos e]
    have e' : t = .ref C := beq_iff_eq.mp e
    rw [e', hr] at h
    exact h
  · rw [if_neg e]
    have e2 : ((PySem.W.clsIn K C).isSome && PySem.W.typeIn K (.ref C) == some (.type "type")) = true := by
      have hc' : (PySem.W.clsIn K C).isSome = true := hc
      rw [hc', ht]; rfl
    show (if ((PySem.W.clsIn K C).isSome && PySem.W.typeIn K (.ref C) == some (.type "type")) = true then PySem.W.subIn K t (.ref C) else none) = some b
    rw [if_pos e2]; exact h
theorem kit_blt {K : PySem.W.Frag} {C : Addr} {T : String} {b : Bool} (h : PySem.W.subIn K (.ref C) (.type T) = some b) (hm : PySem.W.kitMeta T = true) : PySem.W.kitOne K (.ref C) (.type T) = some b := by
  unfold PySem.W.kitOne
  have e : ((PySem.Value.ref C) == PySem.Value.type T) = false := by
    cases q : ((PySem.Value.ref C) == PySem.Value.type T) with
    | false => rfl
    | true => exact absurd (beq_iff_eq.mp q) (fun z => nomatch z)
  rw [e, if_neg Bool.false_ne_true]
  show (if PySem.W.kitMeta T = true then PySem.W.subIn K (.ref C) (.type T) else none) = some b
  rw [if_pos hm]; exact h
end Ml

set_option autoImplicit false
/-! Starred displays; deep in a tuple, in an owned list; order of tuples of ints. -/
namespace Ml
def mACons (ma : ME Dv) (mr : ME (List Dv)) : ME (List Dv) := fun e => (ma e).bind fun a e => (mr e).bind fun ds e => .ok (a :: ds) e
def mAStar (ma : ME Dv) (mr : ME (List Dv)) : ME (List Dv) := fun e => (ma e).bind fun a e => match seqD a with
  | some xs => (mr e).bind fun ds e => .ok (xs ++ ds) e
  | none => .ud
def mTupA (mr : ME (List Dv)) : ME Dv := fun e => (mr e).bind fun ds e => if ds.length ≤ lim then .ok (.tup ds) e else .ud
def mLstA (mr : ME (List Dv)) : ME Ob := fun e => (mr e).bind fun ds e => if ds.length ≤ lim then .ok (.lst ds) e else .ud
/-- x in a tuple of data -/
def oInT (a b : Dv) : Option Dv := match b with
  | .tup ds => if lowD 60 a = true ∧ lowD 60 (.tup ds) = true then some (.bl (ds.any fun y => eqD y a)) else none
  | _ => none
def oNiT (a b : Dv) : Option Dv := match b with
  | .tup ds => if lowD 60 a = true ∧ lowD 60 (.tup ds) = true then some (.bl (!(ds.any fun y => eqD y a))) else none
  | _ => none
/-- x in an owned list of data -/
def wInD (ds : List Dv) (a : Dv) : Option Dv := if lowD 60 a = true ∧ lowD 60 (.lst ds) = true then some (.bl (ds.any fun y => eqD y a)) else none
def wNiD (ds : List Dv) (a : Dv) : Option Dv := if lowD 60 a = true ∧ lowD 60 (.lst ds) = true then some (.bl (!(ds.any fun y => eqD y a))) else none
def mInOD (neg : Bool) (ma : ME Dv) (i : Nat) : ME Dv := fun e => (ma e).bind fun a e => match e[i]? with
  | some (.ow _ (.lst ds)) => .of (if neg = true then wNiD ds a else wInD ds a) e
  | _ => .ud
/-- tuples of ints in their order -/
def tupI0 : Dv → Option (List Int)
  | .tup ds => intsD ds
  | _ => none
def oLtT (a b : Dv) : Option Dv := match tupI0 a, tupI0 b with
  | some x, some y => some (.bl (ltI x y))
  | _, _ => none
def oGeT (a b : Dv) : Option Dv := match tupI0 a, tupI0 b with
  | some x, some y => some (.bl (!ltI x y))
  | _, _ => none
/-! sets of tuples of ints -/
def isSt : Option Slt → Bool
  | some (.ow _ (.set _)) => true
  | _ => false
def mSet0 : ME Ob := fun e => .ok (.set []) e
def mInS (neg : Bool) (ma : ME Dv) (i : Nat) : ME Dv := fun e => (ma e).bind fun a e => match e[i]?, tupI0 a with
  | some (.ow _ (.set ks)), some k => .ok (.bl (if neg = true then !decide (k ∈ ks) else decide (k ∈ ks))) e
  | _, _ => .ud
/-- x.add(y) -/
def sAddS (i : Nat) (m : ME Dv) : MS := fun e => if isSt e[i]? = true then (m e).go fun d e => match e[i]?, tupI0 d with
    | some (.ow j (.set ks)), some k => if ks.length + 1 < 64 then .nx (e.set i (.ow j (.set (if k ∈ ks then ks else k :: ks)))) else .ud
    | _, _ => .ud
  else .ud
/-- sorted(set(xs)), xs tuples of ints -/
def dedupL : List (List Int) → List (List Int)
  | [] => []
  | x :: r => if x ∈ r then dedupL r else x :: dedupL r
def insL (x : List Int) : List (List Int) → List (List Int)
  | [] => [x]
  | y :: r => if ltI y x = true then y :: insL x r else x :: y :: r
def srtL : List (List Int) → List (List Int)
  | [] => []
  | x :: r => insL x (srtL r)
def keysI : List Dv → Option (List (List Int))
  | [] => some []
  | d :: ds => match tupI d, keysI ds with
    | some k, some r => some (k :: r)
    | _, _ => none
def tupOf (k : List Int) : Dv := .tup (k.map .int)
def sortSet (ds : List Dv) : Option (List Dv) := match keysI ds with
  | some ks => if ks.length < 64 then some ((srtL (dedupL ks)).map tupOf) else none
  | none => none
def oSortSetT : Dv → Option (List Dv)
  | .tup ds => sortSet ds
  | _ => none
def oSortSetL : Dv → Option (List Dv)
  | .lst ds => sortSet ds
  | _ => none
/-- sorted of a tuple of tuples of ints -/
def oSortTT : Dv → Option (List Dv)
  | .tup ds => (tupsI ds).map fun ps => (srtD ps).map (·.2)
  | _ => none
/-- x[a:c] = ys, x owned -/
def slEnd (i : Nat) (ys : List Dv) (a c : Option Int) : MS := fun e => match e[i]?, a, c with
  | some (.ow j (.lst ds)), some a, some c => if 0 ≤ a ∧ a ≤ c ∧ c ≤ ds.length ∧ ds.length + ys.length ≤ lim then .nx (e.set i (.ow j (.lst (ds.take a.toNat ++ ys ++ ds.drop c.toNat)))) else .ud
  | _, _, _ => .ud
def sSlSet (i : Nat) (mo : ME Ob) (mlo mhi : ME (Option Int)) : MS := fun e => (mo e).go fun o e => match o with
  | .lst ys => if isLs e[i]? = true then (mlo e).go fun a e => (mhi e).go fun c e => slEnd i ys a c e else .ud
  | _ => .ud
/-- x + ys, x owned -/
def mCatO (i : Nat) (mb : ME Dv) : ME Ob := fun e => match e[i]? with
  | some (.ow _ _) => (mb e).bind fun b e => match e[i]?, b with
    | some (.ow _ (.lst ds)), .lst ys => if ds.length + ys.length ≤ lim then .ok (.lst (ds ++ ys)) e else .ud
    | _, _ => .ud
  | _ => .ud
end Ml

set_option linter.all false
set_option maxRecDepth 100000
set_option maxHeartbeats 1000000
namespace Ml
open L2
open PySem (Addr Str sizeLine)
section
variable {C : Cc} {K : PySem.W.Frag} {te : TE} {t : TA} {ma : ME Dv} {mr : ME (List Dv)}
theorem sa_consA (ha : SE C te ma) (hr : SA C t mr) : SA C (tCons te t) (mACons ma mr) := fun Z Hs e σ H k Q w =>
  ha Z Hs e σ H k _ (we_bind (fun a e1 x Hs1 H1 _ k1 r1 w1 => hr Z Hs1 e1 σ H1 k1 _ (we_bind (fun b e2 y Hs2 H2 p2 k2 r2 w2 => we_ok w2 k2 (reps_cons (rep_le p2.le r1) r2)) w1)) w)
theorem sa_starA (hK : C.K = K) (ha : SE C te ma) (hr : SA C t mr) : SA C (StX.tStar K te t) (mAStar ma mr) := fun Z Hs e σ H k Q w =>
  ha Z Hs e σ H k _ (we_bind (fun a e1 x Hs1 H1 _ k1 r1 w1 => by
    subst hK
    split at w1
    · rename_i ds hd
      obtain ⟨p, xs, rfl, hx, rx⟩ := seq_rep k1 hd r1
      refine ⟨p, xs, rfl, hx.symm, hr Z Hs1 e1 σ H1 k1 _ (we_bind (fun b e2 y Hs2 H2 p2 k2 r2 w2 => we_ok w2 k2 (reps_app (reps_le p2.le rx) r2)) w1)⟩
    · exact w1.elim) w)
theorem se_tupA (h : SA C t mr) : SE C (tTupP t) (mTupA mr) := fun Z Hs e σ H k Q w =>
  h Z Hs e σ H k _ (we_bind (fun ds e1 xs Hs1 H1 _ k1 r1 w1 => by
    split at w1
    · rename_i hl
      exact ⟨by rw [reps_len r1]; exact Nat.le_trans hl (by decide), we_newT w1 k1 r1⟩
    · exact w1.elim) w)
theorem seo_lstA (h : SA C t mr) : SEO C (tLst t) (mLstA mr) := fun Z Hs e σ H k Q w =>
  h Z Hs e σ H k _ (we_bind (fun ds e1 xs Hs1 H1 _ k1 r1 w1 => by
    split at w1
    · rename_i hl
      exact ⟨by rw [reps_len r1]; exact Nat.le_trans hl (by decide), fun p hp => we_newO w1 k1 hp r1⟩
    · exact w1.elim) w)
end
section
variable {X : L2.Cx} {K : PySem.W.Frag} {e : PySem.Expr} {es : List PySem.Expr} {te : TE} {t : TA} {p : PySem.Pos}
theorem pa_starK (hK : X.K = K) (he : PE X e te) (hr : PA X es t) (hs : PySem.starEach (.Starred e p :: es) X.env = (true, PySem.eval e X.env) :: PySem.starEach es X.env := by rfl) : PA X (.Starred e p :: es) (StX.tStar K te t) := by
  subst hK; exact StX.pa_star he hr hs
end
/-! deep in a tuple -/
section
variable {X : L2.Cx}
def rInT (K : PySem.W.Frag) (neg : Bool) : R2 := fun x y H Q => ∃ d ds, Dp K H x d ∧ Dp K H y (.tuple ds) ∧ PySem.SeqAt.shaped d = true ∧ PySem.SeqAt.shaped (.tuple ds) = true ∧ Q (.bl (if neg = true then !(ds.any fun z => PySem.PyData.eqv z d) else ds.any fun z => PySem.PyData.eqv z d)) H
theorem op_inT (hu : X.A.units + 65 < PySem.cLine) : OpR X (PySem.compareOp .In) (rInT X.K false) := by
  intro pins s σ H x y v u Q J ra rb ⟨d, ds, hd, he, sd, se, q⟩
  obtain ⟨_, r1⟩ := Dp.reads J d x v hd ra
  obtain ⟨_, r2⟩ := Dp.reads J (.tuple ds) y u he rb
  exact PySem.SeqAt.in_tuple_reads r2 r1 (PySem.SeqAt.canLay_of_shaped se) (PySem.SeqAt.canLay_of_shaped sd) (PyProof.Rows.room_in_shaped sd hu) ⟨.bl _, H, J, rfl, q⟩
theorem op_notInT (hu : X.A.units + 65 < PySem.cLine) : OpR X (PySem.compareOp .NotIn) (rInT X.K true) := by
  intro pins s σ H x y v u Q J ra rb ⟨d, ds, hd, he, sd, se, q⟩
  obtain ⟨_, r1⟩ := Dp.reads J d x v hd ra
  obtain ⟨_, r2⟩ := Dp.reads J (.tuple ds) y u he rb
  exact PySem.SeqAt.notIn_tuple_reads r2 r1 (PySem.SeqAt.canLay_of_shaped se) (PySem.SeqAt.canLay_of_shaped sd) (PyProof.Rows.room_in_shaped sd hu) ⟨.bl _, H, J, rfl, q⟩
end
section
variable {C : Cc} {K : PySem.W.Frag}
theorem rv_inT (hK : C.K = K) : RV C (rInT K false) oInT := fun Z Hs e σ H k x y a b c Q ra rb hf w => by
  subst hK
  unfold oInT at hf
  split at hf
  · rename_i ds
    split at hf
    · rename_i hc
      cases hf
      obtain ⟨a1, a2, a3⟩ := dp_ok k.le hc.1 ra
      obtain ⟨b1, b2, b3⟩ := dp_ok k.le hc.2 rb
      have e1 : toP (.tup ds) = .tuple (toPs ds) := by simp only [toP]
      rw [e1] at b1 b2 b3
      refine ⟨_, _, a1, b1, shaped_ok a2 a3 (by decide), shaped_ok b2 b3 (by decide), ?_⟩
      rw [if_neg Bool.false_ne_true, any_eqv hc.1 (m := 59) (by have := hc.2; simpa only [lowD] using this)]
      exact we_ok w k (by simp only [rD, Rep])
    · cases hf
  · cases hf
theorem rv_niT (hK : C.K = K) : RV C (rInT K true) oNiT := fun Z Hs e σ H k x y a b c Q ra rb hf w => by
  subst hK
  unfold oNiT at hf
  split at hf
  · rename_i ds
    split at hf
    · rename_i hc
      cases hf
      obtain ⟨a1, a2, a3⟩ := dp_ok k.le hc.1 ra
      obtain ⟨b1, b2, b3⟩ := dp_ok k.le hc.2 rb
      have e1 : toP (.tup ds) = .tuple (toPs ds) := by simp only [toP]
      rw [e1] at b1 b2 b3
      refine ⟨_, _, a1, b1, shaped_ok a2 a3 (by decide), shaped_ok b2 b3 (by decide), ?_⟩
      rw [if_pos rfl, any_eqv hc.1 (m := 59) (by have := hc.2; simpa only [lowD] using this)]
      exact we_ok w k (by simp only [rD, Rep])
    · cases hf
  · cases hf
theorem inTK {X : L2.Cx} (hK : X.K = K) {k : Nat} (hr : L2.Room k X.A) : OpR X (PySem.compareOp .In) (rInT K false) := by subst hK; have := hr.un; exact op_inT (by omega)
theorem niTK {X : L2.Cx} (hK : X.K = K) {k : Nat} (hr : L2.Room k X.A) : OpR X (PySem.compareOp .NotIn) (rInT K true) := by subst hK; have := hr.un; exact op_notInT (by omega)
/-! deep in an owned list -/
theorem own_dp {Hs H : Hp} {ds : List Dv} {xs : List V} {p : Addr} (l : Le Hs H) (hx : H p = some (.lst xs)) (rx : Reps C.K C.sc Hs ds xs) (hl : lowD 60 (.lst ds) = true) :
    Dp C.K H (.ref p) (.list (toPs ds)) ∧ PySem.SeqAt.shaped (.list (toPs ds)) = true := by
  simp only [lowD] at hl
  obtain ⟨h1, h2, h3⟩ := dps_ok l hl rx
  exact ⟨.lst (SqL.of hx) h1, shaped_ok (n := 60) (by simp only [PySem.PyData.canLay0]; exact h2) (by simp only [PySem.PyData.depth]; omega) (by decide)⟩
theorem se_inOD {i : Nat} {ta : TE} {ma : ME Dv} (hK : C.K = K) (ha : SE C ta ma) : SE C (tOp (rInD K) ta (tVar i)) (mInOD false ma i) := fun Z Hs e σ H k Q w =>
  ha Z Hs e σ H k _ (we_bind (fun a e1 x Hs1 H1 p1 k1 r1 w1 => by
    subst hK
    split at w1
    · rename_i j ds he
      obtain ⟨p, e2, hn, ⟨xs, hx, rx⟩, _⟩ := k1.own he
      obtain ⟨c, hc, w2⟩ := we_of w1
      rw [if_neg Bool.false_ne_true] at hc
      unfold wInD at hc
      split at hc
      · rename_i hf
        cases hc
        obtain ⟨a1, a2, a3⟩ := dp_ok k1.le hf.1 r1
        obtain ⟨b1, b2⟩ := own_dp k1.le hx rx hf.2
        refine ⟨_, e2, _, _, a1, b1, shaped_ok a2 a3 (by decide), b2, ?_⟩
        rw [any_eqv hf.1 (m := 59) (by have := hf.2; simpa only [lowD] using this)]
        exact we_ok w2 k1 (by simp only [rD, Rep])
      · cases hc
    · exact w1.elim) w)
theorem se_niOD {i : Nat} {ta : TE} {ma : ME Dv} (hK : C.K = K) (ha : SE C ta ma) : SE C (tOp (rNotInD K) ta (tVar i)) (mInOD true ma i) := fun Z Hs e σ H k Q w =>
  ha Z Hs e σ H k _ (we_bind (fun a e1 x Hs1 H1 p1 k1 r1 w1 => by
    subst hK
    split at w1
    · rename_i j ds he
      obtain ⟨p, e2, hn, ⟨xs, hx, rx⟩, _⟩ := k1.own he
      obtain ⟨c, hc, w2⟩ := we_of w1
      rw [if_pos rfl] at hc
      unfold wNiD at hc
      split at hc
      · rename_i hf
        cases hc
        obtain ⟨a1, a2, a3⟩ := dp_ok k1.le hf.1 r1
        obtain ⟨b1, b2⟩ := own_dp k1.le hx rx hf.2
        refine ⟨_, e2, _, _, a1, b1, shaped_ok a2 a3 (by decide), b2, ?_⟩
        rw [any_eqv hf.1 (m := 59) (by have := hf.2; simpa only [lowD] using this)]
        exact we_ok w2 k1 (by simp only [rD, Rep])
      · cases hc
    · exact w1.elim) w)
end
/-! the order of tuples of ints -/
theorem lexLt_ltI : ∀ a b : List Int, HT.lexLt a b = ltI a b
  | [], [] => rfl
  | [], _ :: _ => rfl
  | _ :: _, [] => rfl
  | x :: a, y :: b => by simp only [HT.lexLt, ltI, lexLt_ltI a b]
theorem lexAt_ge : ∀ (a b ns ms : List Int) (i : Nat), ns = a.drop i → ms = b.drop i → i ≤ a.length → i ≤ b.length →
    Ob.lexAt (fun j => decide (a.getD j 0 = b.getD j 0)) (fun j => decide (b.getD j 0 ≤ a.getD j 0)) (decide (a.length ≥ b.length)) i (min ns.length ms.length) = !ltI ns ms
  | a, b, [], [], i, h1, h2, h3, h4 => by
    have e1 := congrArg List.length h1
    have e2 := congrArg List.length h2
    simp only [List.length_nil, List.length_drop] at e1 e2
    have : decide (a.length ≥ b.length) = true := decide_eq_true (by omega)
    simp [Ob.lexAt_zero, ltI, this]
  | a, b, [], y :: ms, i, h1, h2, h3, h4 => by
    have e1 := congrArg List.length h1
    have e2 := congrArg List.length h2
    simp only [List.length_nil, List.length_cons, List.length_drop] at e1 e2
    have : decide (a.length ≥ b.length) = false := decide_eq_false (by omega)
    simp [Ob.lexAt_zero, ltI, this]
  | a, b, x :: ns, [], i, h1, h2, h3, h4 => by
    have e1 := congrArg List.length h1
    have e2 := congrArg List.length h2
    simp only [List.length_nil, List.length_cons, List.length_drop] at e1 e2
    have : decide (a.length ≥ b.length) = true := decide_eq_true (by omega)
    simp [Ob.lexAt_zero, ltI, this]
  | a, b, x :: ns, y :: ms, i, h1, h2, h3, h4 => by
    have e1 := congrArg List.length h1
    have e2 := congrArg List.length h2
    simp only [List.length_cons, List.length_drop] at e1 e2
    have q1 : a.getD i 0 = x := by
      have : a[i]? = some x := by rw [← List.head?_drop, ← h1]; rfl
      simp [List.getD, this]
    have q2 : b.getD i 0 = y := by
      have : b[i]? = some y := by rw [← List.head?_drop, ← h2]; rfl
      simp [List.getD, this]
    have hm : min (x :: ns).length (y :: ms).length = min ns.length ms.length + 1 := by simp only [List.length_cons]; omega
    have ih := lexAt_ge a b ns ms (i + 1) (by rw [← List.drop_drop, ← h1]; rfl) (by rw [← List.drop_drop, ← h2]; rfl) (by omega) (by omega)
    rw [hm, Ob.lexAt_succ, ih, q1, q2]
    by_cases c : x = y
    · simp [ltI, c]
    · simp only [c, decide_false, Bool.false_eq_true, if_false, ltI]
      by_cases d : x < y
      · have : ¬ y ≤ x := by omega
        simp [d, this]
      · have : y ≤ x := by omega
        simp [d, this]
def rCmpT (K : PySem.W.Frag) (f : List Int → List Int → Bool) : R2 := fun x y H Q => ∃ (a b : Addr) (ns ms : List Int), x = .ref a ∧ y = .ref b ∧ SqT K H a (ns.map V.int) ∧ SqT K H b (ms.map V.int) ∧ Q (.bl (f ns ms)) H
theorem op_geT {X : Cx} (hu : X.A.units < PySem.cLine) : OpR X (PySem.compareOp .GtE) (rCmpT X.K fun a b => !ltI a b) := by
  intro pins s σ H x y v u Q J ra rb ⟨a, b, ns, ms, e1, e2, ha, hb, q⟩
  subst e1; subst e2
  cases ra
  cases rb
  obtain ⟨its, r1, p1, z1⟩ := J.tuple ha
  obtain ⟨its2, r2, p2, z2⟩ := J.tuple hb
  have i1 := Vals.ints r1
  have i2 := Vals.ints r2
  have f1 : its.toArray.size = ns.length := by rw [List.size_toArray, i1.length]
  have f2 : its2.toArray.size = ms.length := by rw [List.size_toArray, i2.length]
  have g1 : ∀ j (h : j < its.toArray.size), ∃ t, its.toArray[j] = .int (ns.getD j 0) t := fun j h => PyProof.Rows.IntsAre.int_at i1 _ _ (by simp at h; simp [h])
  have g2 : ∀ j (h : j < its2.toArray.size), ∃ t, its2.toArray[j] = .int (ms.getD j 0) t := fun j h => PyProof.Rows.IntsAre.int_at i2 _ _ (by simp at h; simp [h])
  have R := Ob.RcOp.tuples_ge (A := X.A) (s := s) (e := fun j => decide (ns.getD j 0 = ms.getD j 0)) (r := fun j => decide (ms.getD j 0 ≤ ns.getD j 0)) p1 p2 hu
    (fun j l1 l2 => by
      obtain ⟨t, et⟩ := g1 j l1
      obtain ⟨t', et'⟩ := g2 j l2
      have z : decide (ns.getD j 0 = ms.getD j 0) = (ns.getD j 0 == ms.getD j 0) := rfl
      rw [et, et', z]
      exact PySem.SeqAt.EqAt.int_int _ _ _ _)
    (fun j l1 l2 _ => by
      obtain ⟨t, et⟩ := g1 j l1
      obtain ⟨t', et'⟩ := g2 j l2
      rw [et, et']
      exact Ob.RcOp.ge_int _ _ _ _)
  rw [f1, f2, lexAt_ge ns ms ns ms 0 rfl rfl (by omega) (by omega)] at R
  have z : PySem.wpAny (PySem.model X.prog X.w) X.A (PySem.compareOp .GtE (.ref a) (.ref b)) (EP X pins σ Q) X.xe s := R X.prog X.w X.xe (EP X pins σ Q) ⟨.bl _, H, J, rfl, q⟩
  exact z
theorem geTK {X : L2.Cx} {K : PySem.W.Frag} (hK : X.K = K) {k : Nat} (hr : L2.Room k X.A) : OpR X (PySem.compareOp .GtE) (rCmpT K fun a b => !ltI a b) := by subst hK; have := hr.un; exact op_geT (by omega)
theorem ltTK {X : L2.Cx} {K : PySem.W.Frag} (hK : X.K = K) {k : Nat} (hr : L2.Room k X.A) : OpR X (PySem.compareOp .Lt) (rCmpT K ltI) := by
  subst hK
  have := hr.un
  intro pins s σ H x y v u Q J ra rb ⟨a, b, ns, ms, e1, e2, ha, hb, q⟩
  exact op_ltT (by omega) pins s σ H x y v u Q J ra rb ⟨a, b, ns, ms, e1, e2, ha, hb, by rw [lexLt_ltI]; exact q⟩
section
variable {C : Cc} {K : PySem.W.Frag}
theorem ints_rep {Hs : Hp} : ∀ {ds : List Dv} {ns : List Int} {xs : List V}, intsD ds = some ns → Reps C.K C.sc Hs ds xs → xs = ns.map V.int
  | [], ns, xs, h, r => by simp only [intsD] at h; cases h; simp only [Reps] at r; subst r; rfl
  | .int i :: ds, ns, xs, h, r => by
    simp only [intsD] at h
    obtain ⟨ms, h1, rfl⟩ := Option.map_eq_some_iff.mp h
    simp only [Reps, Rep] at r
    obtain ⟨v, q, rfl, rfl, r2⟩ := r
    rw [ints_rep h1 r2]; rfl
theorem tupI0_rep {Hs H : Hp} {a : Dv} {x : V} {ns : List Int} (l : Le Hs H) (h : tupI0 a = some ns) (r : Rep C.K C.sc Hs a x) : ∃ p, x = .ref p ∧ PlT C.K H p (ns.map V.int) := by
  unfold tupI0 at h
  split at h
  · simp only [Rep] at r
    obtain ⟨p, xs, rfl, hx, rx⟩ := r
    have := ints_rep h rx
    subst this
    exact ⟨p, rfl, plt_le l hx⟩
  · cases h
theorem rv_ltT (hK : C.K = K) : RV C (rCmpT K ltI) oLtT := fun Z Hs e σ H k x y a b c Q ra rb hf w => by
  subst hK
  unfold oLtT at hf
  split at hf
  · rename_i ns ms h1 h2
    cases hf
    obtain ⟨p, rfl, hp⟩ := tupI0_rep k.le h1 ra
    obtain ⟨q, rfl, hq⟩ := tupI0_rep k.le h2 rb
    exact ⟨p, q, ns, ms, rfl, rfl, hp.sq, hq.sq, we_ok w k (by simp only [rD, Rep])⟩
  · cases hf
theorem rv_geT (hK : C.K = K) : RV C (rCmpT K fun a b => !ltI a b) oGeT := fun Z Hs e σ H k x y a b c Q ra rb hf w => by
  subst hK
  unfold oGeT at hf
  split at hf
  · rename_i ns ms h1 h2
    cases hf
    obtain ⟨p, rfl, hp⟩ := tupI0_rep k.le h1 ra
    obtain ⟨q, rfl, hq⟩ := tupI0_rep k.le h2 rb
    exact ⟨p, q, ns, ms, rfl, rfl, hp.sq, hq.sq, we_ok w k (by simp only [rD, Rep])⟩
  · cases hf
end
end Ml

set_option linter.all false
set_option Elab.async false
set_option maxRecDepth 100000
set_option maxHeartbeats 4000000
/-! A tuple of ints looked up in a set of such. -/
namespace TSF
open L2 PySem PySem.Spec PyProof.Rows
variable {P : Program} {w : World} {A : Around} {E : Value → Shared → Prop} {s : Shared} {a : Addr} {L : List (Addr × List Int)} {es : Array (Int × Value)} {ep : Nat} {t : SetTable}
abbrev road (t : SetTable) (h : Int) (c : Nat) : SetTable.Probe := nth t.mask (runAt t.mask (SetTable.bits h % (t.mask + 1)) (SetTable.bits h)) c
theorem road_dummy (t : SetTable) (h : Int) (c : Nat) : (road t h c).dummy = none := by
  have key : ∀ (n : Nat) (p : SetTable.Probe), p.dummy = none → (nth t.mask p n).dummy = none := by
    intro n
    induction n with
    | zero => exact fun p e => e
    | succ n ih => exact fun p e => ih (adv t.mask p) (by unfold adv; split <;> exact e)
  exact key c _ rfl
theorem find_from (R : SetTR P w s.heap a L es ep t) {x : Addr} {k : List Int} (hx : IsT P w s.heap k x) (hu : A.units < cLine) {K : Nat} (hKf : K < 10 * SetTable.turns t.mask)
    (hK : way t.mask (thash P w k) K ∉ t.place.toList) (hKb : ∀ c, c < K → way t.mask (thash P w k) c ∈ t.place.toList) {Q : SetFound → Shared → Prop}
    (yes : ∀ i, k ∈ L.map (·.2) → Q (.there (some i)) s) (no : ∀ j b, k ∉ L.map (·.2) → Q (.free j b) s) :
    ∀ (f c : Nat) (stand : Option SetTable.Probe), stand.getD (t.probeStart (thash P w k)) = road t (thash P w k) c → c ≤ K → K - c < f →
      (∀ (i : Nat) p, L[i]? = some p → p.2 = k → ∃ c', c ≤ c' ∧ c' < K ∧ t.place.toList[i]? = some (way t.mask (thash P w k) c')) →
      wpAny (model P w) A (setSearchFrom a (.ref x) (thash P w k) false f stand) Q E s
  | 0, _, _, _, _, hf, _ => absurd hf (Nat.not_lt_zero _)
  | f + 1, c, stand, hst, hc, hf, hre => by
    obtain ⟨o, ho, ex, hd⟩ := R.ob
    have st0 : ∀ {Q' : Array (Int × Value) × Nat × SetTable → Shared → Prop}, Q' (es, ep, t) s → wpAny (model P w) A (setState a) Q' E s := fun h => wpAny_setState_of ho hd R.fits h
    rw [setSearchFrom_succ]
    refine wpAny_bind (st0 ?_)
    dsimp only
    refine wp_if_neg R.gw ?_
    try refine wpAny_bind (wpAny_pure ?_)
    have sh : ∀ q, nth t.mask (road t (thash P w k) c) q = road t (thash P w k) (c + q) := fun q => by rw [← nth_add]
    have e1 : ∀ q, (nth t.mask (road t (thash P w k) c) q).j = way t.mask (thash P w k) (c + q) := fun q => by rw [sh q]
    have eK : c + (K - c) = K := by omega
    have spec := go_spec t R.tab.ris R.tab.dm (fun i => (es[i]?.map (·.1)).getD 0) (thash P w k) (10 * SetTable.turns t.mask) (K - c) _ (road_dummy t (thash P w k) c) (by omega)
      (fun q hq => by rw [e1]; exact hKb (c + q) (by omega)) (by rw [e1, eK]; exact hK)
    have hashAt : ∀ (i : Nat) p, L[i]? = some p → (es[i]?.map (·.1)).getD 0 = thash P w p.2 := fun i p hp => by rw [R.entry hp]; rfl
    have szL : ∀ i, i < t.place.toList.length → i < L.length := fun i h1 => by
      have h2 := R.tab.sz
      rw [List.length_map] at h2
      rw [Array.length_toList] at h1
      omega
    rcases spec with ⟨q, i, hq, hi, hh, hno, hpr⟩ | ⟨hno, hpr⟩
    · have pr : t.probe (fun i => (es[i]?.map (·.1)).getD 0) (thash P w k) (stand.getD (t.probeStart (thash P w k))) = some (.candidate (way t.mask (thash P w k) (c + q)) i (road t (thash P w k) (c + (q + 1)))) := by
        rw [hst, ← e1, ← sh]; exact hpr
      rw [pr]
      dsimp only
      rw [e1] at hi
      have hil : i < L.length := szL i (List.getElem?_eq_some_iff.mp hi).1
      have hp0 : L[i]? = some L[i] := List.getElem?_eq_getElem hil
      generalize hpe : L[i] = p at hp0
      have hpt := R.tup p (List.mem_of_getElem? hp0)
      have hsl : t.slot (way t.mask (thash P w k) (c + q)) = .live i := slot_live R.tab.ris hi
      have tail : wpAny (model P w) A (searchRest a (.ref x) (thash P w k) false f es t (way t.mask (thash P w k) (c + q)) i (road t (thash P w k) (c + (q + 1)))) Q E s := by
        unfold searchRest
        rw [R.entry hp0]
        dsimp only
        refine wpAny_bind (wpAny_holding (wpAny_eqBool_tuple hu hpt hx ?_))
        refine wpAny_bind (st0 ?_)
        dsimp only
        refine wp_if_neg (by simp) ?_
        try refine wpAny_bind (wpAny_pure ?_)
        rw [sameMem]
        dsimp only
        simp only [if_true, hsl, R.entry hp0]
        refine wpAny_bind (wpAny_isSame_ref_self (wpAny_bind (wpAny_pure ?_)))
        simp only [if_true]
        by_cases hkk : p.2 = k
        · refine wp_if_pos (by simp [hkk]) ?_
          exact wpAny_pure (yes i (List.mem_map.mpr ⟨p, List.mem_of_getElem? hp0, hkk⟩))
        · refine wp_if_neg (by simp [hkk]) ?_
          refine find_from R hx hu hKf hK hKb yes no f (c + (q + 1)) _ rfl (by omega) (by omega) fun i0 p0 h0 hk0 => ?_
          obtain ⟨c', a1, a2, a3⟩ := hre i0 p0 h0 hk0
          refine ⟨c', ?_, a2, a3⟩
          rcases Nat.lt_trichotomy c' (c + q) with z | z | z
          · refine (hno (c' - c) i0 (by omega) (by rw [e1, show c + (c' - c) = c' by omega]; exact a3) ?_).elim
            exact (hashAt i0 p0 h0).trans (congrArg (thash P w) hk0)
          · rw [z] at a3
            have s0 := slot_live R.tab.ris a3
            rw [hsl] at s0
            injection s0 with s0
            rw [← s0, hp0] at h0
            exact absurd ((congrArg Prod.snd (Option.some.inj h0)).trans hk0) hkk
          · omega
      by_cases hl : t.led = true
      · refine wp_if_neg (by simp [hl]) ?_
        try refine wpAny_bind (wpAny_pure ?_)
        exact tail
      · refine wp_if_pos (by simp [hl]) ?_
        refine wpAny_bind (seen_tup hx (fun y hy => ?_) (wp_if_neg (by decide) ?_))
        · obtain ⟨r, hr, er⟩ := List.mem_map.mp hy
          have r1 : r ∈ es ∧ r.1 = thash P w k := by simpa using hr
          have r2 : r ∈ es.toList := by simpa using r1.1
          rw [R.rows] at r2
          obtain ⟨p2, hp2, e2⟩ := List.mem_map.mp r2
          exact ⟨p2.2, p2.1, by rw [← er, ← e2], R.tup p2 hp2⟩
        · try refine wpAny_bind (wpAny_pure ?_)
          exact tail
    · have pr : t.probe (fun i => (es[i]?.map (·.1)).getD 0) (thash P w k) (stand.getD (t.probeStart (thash P w k))) = some (.empty (way t.mask (thash P w k) K) none) := by
        have e2 : way t.mask (thash P w k) K = (nth t.mask (road t (thash P w k) c) (K - c)).j := by rw [e1, eK]
        rw [hst, e2]; exact hpr
      rw [pr]
      dsimp only
      refine wpAny_pure (no _ _ fun hm => ?_)
      obtain ⟨p0, h0, hk0⟩ := List.mem_map.mp hm
      obtain ⟨i0, hi0, e0⟩ := List.getElem_of_mem h0
      have h00 : L[i0]? = some p0 := by rw [List.getElem?_eq_getElem hi0, e0]
      obtain ⟨c', a1, a2, a3⟩ := hre i0 p0 h00 hk0
      exact hno (c' - c) i0 (by omega) (by rw [e1, show c + (c' - c) = c' by omega]; exact a3) ((hashAt i0 p0 h00).trans (congrArg (thash P w) hk0))
theorem find_at (R : SetTR P w s.heap a L es ep t) {x : Addr} {k : List Int} (hx : IsT P w s.heap k x) (hu : A.units < cLine) {Q : Option Nat → Shared → Prop} (h : ∀ r, r.isSome = decide (k ∈ L.map (·.2)) → Q r s) :
    wpAny (model P w) A (setFind a (.ref x) (thash P w k)) Q E s := by
  obtain ⟨o, ho, ex, hd⟩ := R.ob
  have hroom := R.room
  obtain ⟨K, hKf, hK, hKb⟩ := R.tab.first (by rw [List.length_map]; omega) (thash P w k)
  have big : K < 100000 := by
    have : 10 * SetTable.turns t.mask ≤ 1420 := by
      unfold SetTable.turns
      rcases R.tab.mok with e | e | e <;> omega
    omega
  unfold setFind
  rw [show (100000 : Nat) = 99999 + 1 from rfl]
  unfold setFindIn
  refine wpAny_bind (wpAny_setState_of ho hd R.fits ?_)
  dsimp only
  refine wp_if_neg (by simp [byScan, Value.scannable]) ?_
  try refine wpAny_bind (wpAny_pure ?_)
  unfold setSearch
  refine wpAny_bind (find_from R hx hu hKf hK hKb (fun i hm => ?_) (fun j b hm => ?_) 100000 0 none rfl (Nat.zero_le _) (by omega) fun i p hp hk => ?_)
  · exact wpAny_pure (h _ (by rw [decide_eq_true hm]; rfl))
  · exact wpAny_pure (h _ (by rw [decide_eq_false hm]; rfl))
  · have hi : (L.map fun p => thash P w p.2)[i]? = some (thash P w k) := by rw [List.getElem?_map, hp, ← hk]; rfl
    have hil : i < t.place.toList.length := by
      have h1 := (List.getElem?_eq_some_iff.mp hp).1
      have h2 := R.tab.sz
      rw [List.length_map] at h2
      rw [Array.length_toList]
      omega
    obtain ⟨c, hc, e⟩ := R.tab.before hK hi (List.getElem?_eq_getElem hil)
    exact ⟨c, Nat.zero_le _, hc, by rw [List.getElem?_eq_getElem hil, e]⟩
end TSF

set_option linter.all false
set_option Elab.async false
set_option maxRecDepth 100000
set_option maxHeartbeats 4000000
namespace TSF
open L2 PySem PySem.Spec PyProof.Rows
section
variable {P : Program} {w : World} {A : Around} {E : Value → Shared → Prop} {s : Shared} {a : Addr} {L : List (Addr × List Int)} {es : Array (Int × Value)} {ep : Nat} {t : SetTable}
theorem is_set (R : SetTR P w s.heap a L es ep t) : s.TypeIs (.ref a) "set" := let ⟨o, ho, ex, _⟩ := R.ob; ⟨o, ho, ex.1⟩
theorem later (R : SetTR P w s.heap a L es ep t) (n : Nat) : SetTR P w ({ s with toks := n } : Shared).heap a L es ep t := R
/-- the body of set.__contains__ -/
theorem holds_raw (R : SetTR P w s.heap a L es ep t) {x : Addr} {k : List Int} (hx : IsT P w s.heap k x) (hu : A.units < cLine) {Q : Bool → Shared → Prop} (h : ∀ n, Q (decide (k ∈ L.map (·.2))) { s with toks := n }) :
    wpAny (model P w) A (setContains a (.ref x)) Q E s := by
  unfold setContains
  refine wpAny_holding ?_
  refine wpAny_bind (wpAny_pyHash_tuple hu hx ?_)
  refine wpAny_bind (find_at (s := { s with toks := s.toks + (k.length + 1) }) R hx hu fun r hr => ?_)
  refine wpAny_pure ?_
  rw [hr]
  exact h _
theorem contains_raw (R : SetTR P w s.heap a L es ep t) {x : Addr} {k : List Int} (hx : IsT P w s.heap k x) (hu : A.units + 8 < cLine) {Q : Bool → Shared → Prop} (h : ∀ n, Q (decide (k ∈ L.map (·.2))) { s with toks := n }) :
    wpAny (model P w) A (contains (.ref a) (.ref x)) Q E s := by
  unfold contains
  try with_reducible refine wpAny_holding ?_
  refine wpAny_bind (wpAny_specialOf (is_set R) F.slot_set_contains.lookup ?_)
  refine wp_if_neg (by rw [beq_builtin_none]; exact Bool.false_ne_true) ?_
  refine wpAny_bind (wpAny_callSpecialUnlessNone?_slot (name := Str.ofString "__contains__") (is_set R) F.slot_set_contains
    (wpAny_call_entry F.slot_set_contains (is_set R) entry_set_contains ?_ (F.args_set_contains_2 _ _)))
  unfold Builtin.«frozenset.__contains__» Builtin.Frozenset.oneOther
  simp only [List.isEmpty_nil, bind_assoc]
  unfold Builtin.Frozenset.addrOf Builtin.Frozenset.withSetAsKey
  refine wpAny_bind (wpAny_pure ?_)
  try dsimp only
  refine wpAny_bind (wpAny_pure ?_)
  try dsimp only
  refine wpAny_bind (wpAny_tryCatch ?_)
  refine holds_raw R hx (by simp; omega) fun n => ?_
  exact wpAny_pure ⟨_, rfl, wpAny_truthy_bool (h n)⟩
/-- set.add -/
theorem add_raw (R : SetTR P w s.heap a L es ep t) {x : Addr} {k : List Int} (hx : IsT P w s.heap k x) (hu : A.units + 8 < cLine) (hfew : L.length + 1 < 64) {Q : Value → Shared → Prop}
    (h : ∀ n h' L' es' ep' t', Heap.SameBut a s.heap h' → SetTR P w h' a L' es' ep' t' → (k ∈ L.map (·.2) → L' = L) → (k ∉ L.map (·.2) → L'.Perm ((x, k) :: L)) → Q .none { s with heap := h', toks := n }) :
    wpAny (model P w) A (call (.builtin "set.add") [.ref a, .ref x]) Q E s := by
  refine wpAny_call_entry F.slot_set_add (is_set R) F.entry_set_add ?_ (F.args_set_add_2 _ _)
  unfold Builtin.«set.add» Builtin.Frozenset.oneOther
  simp only [List.isEmpty_nil, bind_assoc]
  unfold Builtin.Frozenset.addrOf setAdd
  refine wpAny_bind (wpAny_pure ?_)
  try dsimp only
  refine wpAny_bind (wpAny_pure ?_)
  try dsimp only
  refine wpAny_bind (wpAny_holding ?_)
  refine wpAny_bind (wpAny_pyHash_tuple (by simp; omega) hx ?_)
  refine add_at (s := { s with toks := s.toks + (k.length + 1) }) R hx (by simp; omega) hfew fun b h' L' es' ep' t' sb R' c1 c2 => ?_
  exact wpAny_pure ⟨_, rfl, h _ h' L' es' ep' t' sb R' c1 c2⟩
end
section
variable {X : Cx} {pins : List (Addr × Obj)} {σ : L2.St} {H : Hp} {s : Shared} {a : Addr} {L : List (Addr × List Int)}
/-- the tuples of a set stand -/
def TupsIn (K : PySem.W.Frag) (H : Hp) (L : List (Addr × List Int)) : Prop := ∀ p ∈ L, SqT K H p.1 (p.2.map V.int)
theorem whole (J : Inv X pins σ H s) (ha : H a = some (SetTO X.prog X.w a L)) (hk : TupsIn X.K H L) : ∃ es ep t, SetTR X.prog X.w s.heap a L es ep t :=
  SetT0.full (show SetT0 X.prog X.w s.heap a L from (J.hok a _ ha).1) fun p hp => J.isT (hk p hp)
def rInS (K : PySem.W.Frag) (P : Program) (w : World) (neg : Bool) : R2 := fun x y H Q => ∃ (b a : Addr) (k : List Int) (L : List (Addr × List Int)), x = .ref b ∧ y = .ref a ∧ SqT K H b (k.map V.int) ∧ H a = some (SetTO P w a L) ∧ TupsIn K H L ∧
  Q (.bl (if neg = true then !decide (k ∈ L.map (·.2)) else decide (k ∈ L.map (·.2)))) H
theorem op_inS (hu : X.A.units + 8 < cLine) : OpR X (compareOp .In) (rInS X.K X.prog X.w false) := by
  intro pins s σ H x y v u Q J ra rb ⟨b, a, k, L, e1, e2, hb, ha, hk, q⟩
  subst e1; subst e2
  cases ra; cases rb
  obtain ⟨es, ep, t, R⟩ := whole J ha hk
  refine wpAny_bind (m := contains (.ref a) (.ref b)) (contains_raw R (J.isT hb) hu fun n => wpAny_pure ?_)
  exact ⟨.bl _, H, J.tok n, rfl, q⟩
theorem op_niS (hu : X.A.units + 8 < cLine) : OpR X (compareOp .NotIn) (rInS X.K X.prog X.w true) := by
  intro pins s σ H x y v u Q J ra rb ⟨b, a, k, L, e1, e2, hb, ha, hk, q⟩
  subst e1; subst e2
  cases ra; cases rb
  obtain ⟨es, ep, t, R⟩ := whole J ha hk
  refine wpAny_bind (m := contains (.ref a) (.ref b)) (contains_raw R (J.isT hb) hu fun n => wpAny_pure ?_)
  exact ⟨.bl _, H, J.tok n, rfl, q⟩
/-- set() -/
def rSet0 (P : Program) (w : World) : List V → Hp → VK → Prop := fun xs H Q => xs = [] ∧ ∀ p, H p = none → Q (.ref p) (upd H p (SetTO P w p []))
theorem cr_set0 : CallR X (.type "set") (rSet0 X.prog X.w) := by
  intro pins s σ H xs us Q J r ⟨e1, q⟩
  subst e1
  cases r
  refine setR_new fun _ => ?_
  have new := (setTR_fresh (P := X.prog) (w := X.w) (Heap.get?_push_size s.heap (o := { cls := .type "set", dict := none, data := .set #[] 0 (.fresh 0 0 (!X.w.params.followText "set-order")) }) rfl)).t0
  exact ⟨.ref _, upd H s.heap.objs.size (SetTO X.prog X.w s.heap.objs.size []), J.laid (t' := s.toks) (fun b u e => Heap.get?_push_of_some _ e) (Nat.le_refl _) (setTO_new new), rfl, q _ (J.hok.fresh (Nat.le_refl _))⟩
/-- x.add(y) -/
def rAddS (K : PySem.W.Frag) (P : Program) (w : World) : V → List V → Hp → VK → Prop := fun x xs H Q => ∃ (a b : Addr) (k : List Int) (L : List (Addr × List Int)), x = .ref a ∧ xs = [.ref b] ∧ SqT K H b (k.map V.int) ∧ H a = some (SetTO P w a L) ∧ TupsIn K H L ∧ L.length + 1 < 64 ∧
  ∀ L', (k ∈ L.map (·.2) → L' = L) → (k ∉ L.map (·.2) → L'.Perm ((b, k) :: L)) → Q .non (upd H a (SetTO P w a L'))
theorem mt_addS (hu : X.A.units + 8 < cLine) : MtR X "set.add" (rAddS X.K X.prog X.w) := by
  intro pins s σ H x xs v us Q J ra rb ⟨a, b, k, L, e1, e2, hb, ha, hk, hf, q⟩
  subst e1; subst e2
  cases ra
  cases rb with
  | cons r1 r2 =>
    cases r2; cases r1
    obtain ⟨es, ep, t, R⟩ := whole J ha hk
    refine add_raw R (J.isT hb) hu hf fun n h' L' es' ep' t' sb R' c1 c2 => ?_
    have he : ∃ u, h'.get? a = some u := let ⟨o, ho, _⟩ := R'.ob; ⟨o, ho⟩
    exact ⟨.non, upd H a (SetTO X.prog X.w a L'), J.write (e := a) (t' := n) (by rw [ha]; trivial) (.inl rfl) (fun b u hb hu => (sb.2 b hb).trans hu) he (setTO_new R'.t0), rfl, q L' c1 c2⟩
end
section
variable {X : Cx} {o e : Expr} {es : List Expr} {to : TE} {t : TA} {apos cpos : Pos}
def tAddS (K : PySem.W.Frag) (P : Program) (w : World) (to : TE) (t : TA) : TE := fun σ H Q => to σ H fun x H1 => (∃ a L, x = V.ref a ∧ H1 a = some (SetTO P w a L)) ∧ t σ H1 fun xs H2 => rAddS K P w x xs H2 Q
theorem pe_addS (hu : X.A.units + 8 < cLine) (ho : PE X o to) (ha : PA X (e :: es) t)
    (h1 : attributeBase o "add" X.env (eval o X.env) = eval o X.env := by rfl)
    (h2 : ((backTo cpos (starEach (e :: es) X.env)).all (fun x => !x.1) && (backToKw cpos (keywordEach [] X.env)).all (fun x => x.1.isSome) && decide ((e :: es).length + ([] : List Keyword).length + (if ([] : List Keyword).isEmpty then 0 else 1) < 30)) = true := by rfl)
    (h3 : (apos.endLine == cpos.line) = true := by rfl) (h4 : starEach (e :: es) X.env = (false, eval e X.env) :: starEach es X.env := by rfl) (h5 : (backTo cpos (starEach es X.env)).any (·.1) = false := by rfl) :
    PE X (.Call (.Attribute o "add" apos) (e :: es) [] cpos) (tAddS X.K X.prog X.w to t) := by
  refine ⟨fun pins s σ H Q J h => ?_⟩
  refine wpAny_Call_method_late h1 h2 h3 rfl (thn (ho.run pins s σ H _ J h) fun v s1 ⟨x, H1, J1, r1, ⟨a, L, ex, ha1⟩, q1⟩ => ?_)
  subst ex
  cases r1
  have R : SetT0 X.prog X.w s1.heap a L := (J1.hok a _ ha1).1
  obtain ⟨es', ep, tb, ⟨ob, hob, exs, hd⟩, _⟩ := R.ex
  refine ⟨"set", "set.add", F.plainAttrs_set, F.slot_set_add, F.type_set_add, ⟨ob, hob, exs.1⟩, fun b e0 => by injection e0 with e0; subst e0; exact ⟨ob, hob, exs.2.1⟩, ?_⟩
  have hA := ha.run cpos pins s1 σ H1 _ J1 q1
  rw [h4] at hA ⊢
  refine Calls.callWith_builtin (by show (false || (backTo cpos (starEach es X.env)).any (·.1)) = false; rw [h5]; rfl) (Calls.evalArgs_plain ?_)
  exact thn hA fun us s2 ⟨vs, H2, J2, r2, q2⟩ => mt_addS hu pins s2 σ H2 (.ref a) vs (.ref a) us Q J2 rfl r2 q2
end
end TSF

set_option linter.all false
set_option maxRecDepth 100000
set_option maxHeartbeats 1000000
namespace Ml
open L2
open PySem (Addr Str sizeLine)
/-! Owned sets of tuples of ints. -/
section
variable {C : Cc} {P : PySem.Program} {w0 : PySem.World} {K : PySem.W.Frag}
theorem perm_dec {L : List (Addr × List Int)} {ks : List (List Int)} (h : (L.map (·.2)).Perm ks) (k : List Int) : decide (k ∈ L.map (·.2)) = decide (k ∈ ks) := by
  by_cases c : k ∈ ks
  · rw [decide_eq_true c, decide_eq_true (h.mem_iff.mpr c)]
  · rw [decide_eq_false c, decide_eq_false fun z => c (h.mem_iff.mp z)]
theorem st_of {x : Option Slt} (h : isSt x = true) : ∃ j ks, x = some (.ow j (.set ks)) := by
  cases x with
  | none => cases h
  | some s => cases s with
    | ow j o => cases o with
      | lst ds => cases h
      | set ks => exact ⟨j, ks, rfl⟩
      | dct t ks vs => cases h
    | un => cases h
    | fz d => cases h
theorem se_inS {i : Nat} {ta : TE} {ma : ME Dv} {neg : Bool} (hK : C.K = K) (hP : C.sc.P = P) (hw : C.sc.w = w0) (ha : SE C ta ma) : SE C (tOp (TSF.rInS K P w0 neg) ta (tVar i)) (mInS neg ma i) := fun Z Hs e σ H k Q w =>
  ha Z Hs e σ H k _ (we_bind (fun a e1 x Hs1 H1 p1 k1 r1 w1 => by
    subst hK; subst hP; subst hw
    split at w1
    · rename_i j ks kk he hk
      obtain ⟨p, e2, hn, ⟨L, hL, ht, pm⟩, _⟩ := k1.own he
      obtain ⟨b, rfl, hb⟩ := tupI0_rep k1.le hk r1
      refine ⟨_, e2, b, p, kk, L, rfl, rfl, hb.sq, hL, fun q hq => sqt_le k1.le (ht q hq).sq, ?_⟩
      rw [perm_dec pm]
      exact we_ok w1 k1 (by simp only [rD, Rep])
    · exact w1.elim) w)
theorem seo_set0 (hP : C.sc.P = P) (hw : C.sc.w = w0) : SEO C (tCB (TSF.rSet0 P w0) tNil) mSet0 := fun Z Hs e σ H k Q w => by
  subst hP; subst hw
  refine ⟨rfl, fun p hp => ?_⟩
  exact w _ Hs (upd H p (L2.SetTO C.sc.P C.sc.w p [])) Post.newO (k.newO hp) ⟨p, rfl, k.hs_none hp, ⟨k.h0_none hp, k.z_none hp⟩, ⟨[], upd_same, fun q hq => (nomatch hq), .nil⟩, k.fresh hp⟩
theorem ss_addS {i : Nat} {te : TE} {me : ME Dv} (hK : C.K = K) (hP : C.sc.P = P) (hw : C.sc.w = w0) (h : SE C te me) : SS C [] (tDrop (TSF.tAddS K P w0 (tVar i) (tCons te tNil))) (sAddS i me) := fun Z Hs e σ H k Dn w => by
  subst hK; subst hP; subst hw
  unfold sAddS at w
  split at w
  · rename_i ho
    obtain ⟨j, ks0, he⟩ := st_of ho
    obtain ⟨p, e1, hn, ⟨L0, hL0, _⟩, _⟩ := k.own he
    refine ⟨_, e1, ⟨p, L0, rfl, hL0⟩, h Z Hs e σ H k _ (we_go (fun d e2 v Hs2 H2 p2 k2 r2 w2 => ?_) w)⟩
    split at w2
    · rename_i j2 ks kk he2 hk
      obtain ⟨p', e1', hn', ⟨L, hL, ht, pm⟩, _⟩ := k2.own he2
      rw [e1] at e1'; cases e1'
      split at w2
      · rename_i hl
        obtain ⟨b, rfl, hb⟩ := tupI0_rep (H := Hs2) Le.rfl' hk r2
        have hlen : L.length + 1 < 64 := by have := pm.length_eq; rw [List.length_map] at this; omega
        refine ⟨p, b, kk, L, rfl, rfl, sqt_le k2.le hb.sq, hL, fun q hq => sqt_le k2.le (ht q hq).sq, hlen, fun L' c1 c2 => ?_⟩
        refine w2 Hs2 σ _ Post.newO (k2.mut he2 e1 ⟨L', upd_same, fun q hq => ?_, ?_⟩) Kp.refl
        · by_cases c : kk ∈ L.map (·.2)
          · rw [c1 c] at hq; exact ht q hq
          · rcases List.mem_cons.mp ((c2 c).mem_iff.mp hq) with rfl | hq
            · exact hb
            · exact ht q hq
        · by_cases c : kk ∈ L.map (·.2)
          · rw [if_pos (pm.mem_iff.mp c), c1 c]; exact pm
          · rw [if_neg fun z => c (pm.mem_iff.mpr z)]
            have q : (L'.map (·.2)).Perm (kk :: L.map (·.2)) := (c2 c).map (fun q : Addr × List Int => q.2)
            exact q.trans (pm.cons kk)
      · exact w2.elim
    · exact w2.elim
  · exact w.elim
end
section
variable {X : L2.Cx} {P : PySem.Program} {w0 : PySem.World} {K : PySem.W.Frag} {k : Nat}
theorem inSK (hK : X.K = K) (hP : X.prog = P) (hw : X.w = w0) (hr : L2.Room k X.A) : OpR X (PySem.compareOp .In) (TSF.rInS K P w0 false) := by subst hK; subst hP; subst hw; have := hr.un; exact TSF.op_inS (by omega)
theorem niSK (hK : X.K = K) (hP : X.prog = P) (hw : X.w = w0) (hr : L2.Room k X.A) : OpR X (PySem.compareOp .NotIn) (TSF.rInS K P w0 true) := by subst hK; subst hP; subst hw; have := hr.un; exact TSF.op_niS (by omega)
theorem set0K (hP : X.prog = P) (hw : X.w = w0) : CallR X (.type "set") (TSF.rSet0 P w0) := by subst hP; subst hw; exact TSF.cr_set0
variable {o e : PySem.Expr} {es : List PySem.Expr} {to : TE} {t : TA} {apos cpos : PySem.Pos}
theorem addSK (hK : X.K = K) (hP : X.prog = P) (hw : X.w = w0) (hr : L2.Room k X.A) (ho : PE X o to) (ha : PA X (e :: es) t)
    (h1 : PySem.attributeBase o "add" X.env (PySem.eval o X.env) = PySem.eval o X.env := by rfl)
    (h2 : ((PySem.backTo cpos (PySem.starEach (e :: es) X.env)).all (fun x => !x.1) && (PySem.backToKw cpos (PySem.keywordEach [] X.env)).all (fun x => x.1.isSome) && decide ((e :: es).length + ([] : List PySem.Keyword).length + (if ([] : List PySem.Keyword).isEmpty then 0 else 1) < 30)) = true := by rfl)
    (h3 : (apos.endLine == cpos.line) = true := by rfl) (h4 : PySem.starEach (e :: es) X.env = (false, PySem.eval e X.env) :: PySem.starEach es X.env := by rfl) (h5 : (PySem.backTo cpos (PySem.starEach es X.env)).any (·.1) = false := by rfl) :
    PE X (.Call (.Attribute o "add" apos) (e :: es) [] cpos) (TSF.tAddS K P w0 to t) := by
  subst hK; subst hP; subst hw
  have := hr.un
  exact TSF.pe_addS (by omega) ho ha h1 h2 h3 h4 h5
end
end Ml

set_option linter.all false
set_option Elab.async false
set_option maxRecDepth 100000
set_option maxHeartbeats 4000000
/-! set of a tuple of tuples of ints. -/
namespace TSF
open L2 PySem PySem.Spec PyProof.Rows
abbrev emptySet (w : World) : Obj := { cls := .type "set", dict := none, data := .set #[] 0 (.fresh 0 0 (!w.params.followText "set-order")) }
section
variable {P : Program} {w : World} {A : Around} {E : Value → Shared → Prop} {s : Shared}
theorem gone {h : Heap} {b : Addr} (hb : h.objs.size ≤ b) : h.get? b = none := by
  cases q : h.get? b with
  | none => rfl
  | some o => exact absurd (Nat.lt_of_lt_of_le (Heap.lt_size q) hb) (Nat.lt_irrefl _)
theorem set_of_tup {l : Addr} {items : Array Value} (ks : List (Addr × List Int)) {Q : Value → Shared → Prop} (hand : A.handled = none) (ht : s.heap.IsTuple l items) (hi : items.toList = ks.map fun p => Value.ref p.1)
    (hk : ∀ p ∈ ks, IsT P w s.heap p.2 p.1) (few : ks.length < 64) (room : A.units + 3 < cLine)
    (fin : ∀ (h' : Heap) (n : Nat) L es ep t, SetTR P w h' s.heap.objs.size L es ep t → Got ks ks.length L → (∀ b o, s.heap.get? b = some o → h'.get? b = some o) → Q (.ref s.heap.objs.size) { s with heap := h', toks := n }) :
    wpAny (model P w) A (call (.type "set") [.ref l]) Q E s := by
  have sz : items.size = ks.length := by rw [← Array.length_toList, hi, List.length_map]
  obtain ⟨c, tl, m1⟩ := F.called_set.mro
  have m2 := F.called_set.made
  have m3 := F.called_set.sub
  refine wpAny_call (codeAny_of_tree ?_)
  show wpAny _ _ (callAny (.type "set") _) _ _ _
  refine wpAny_pure ⟨Code.quiet_builtin _ (by decide +kernel), codeAny_builtin F.entry_type_call ?_⟩
  rw [Around.under_plain (weight_type_call_type "set" [.ref l] []) rfl]
  have m4 := F.called_set.notType
  have m5 := F.called_set.canCreate
  have m6 := F.typeCall_set_1 (.ref l)
  repeat (any_goals (first | assumption | wp_step))
  refine codeAny_mono (code_set_led1 (.ref l) (E := E) (Q₁ := fun ob s1 => ob = .ref s.heap.objs.size ∧ s1 = { s with heap := s.heap.push (emptySet w) }) ⟨rfl, rfl⟩) fun r s1 hr => ?_
  cases r with
  | error e => exact hr
  | ok fl =>
    cases fl with
    | ret ob =>
      obtain ⟨rfl, rfl⟩ := hr
      have atS : (s.heap.push (emptySet w)).get? s.heap.objs.size = some (emptySet w) := Heap.get?_push_size _ rfl
      have tyS : Shared.TypeIs { s with heap := s.heap.push (emptySet w) } (.ref s.heap.objs.size) "set" := ⟨_, atS, rfl⟩
      have m7 := F.called_set.init.lookup
      have m8 := F.called_set.init.bind (.ref s.heap.objs.size)
      repeat (any_goals (first | assumption | wp_step))
      refine codeAny_mono (codeAny_call_builtin (R := wants (fun r s2 => r = .none ∧ ∃ h' n L es ep t, s2 = { s with heap := h', toks := n } ∧ SetTR P w h' s.heap.objs.size L es ep t ∧ Got ks ks.length L ∧ (∀ b o, s.heap.get? b = some o → h'.get? b = some o)) E)
        F.called_set.init.plain F.entry_set_init (check_set_init_1 tyS ?_)) fun r2 s2 hr2 => ?_
      · obtain ⟨o, ho, hc, nl, hd⟩ := ht
        obtain ⟨cl, dc, da, sl⟩ := o
        simp only at hc hd
        subst hc; subst hd
        have ho' : (s.heap.push (emptySet w)).get? l = some { cls := .type "tuple", dict := dc, data := .seq items nl, slots := sl } := Heap.get?_push_of_some _ ho
        have m9 := F.sub_tuple_set
        have m10 := F.sub_tuple_frozenset
        have m11 : (Value.type "tuple" == Value.type "dict") = false := by decide
        have tup1 : (s.heap.push (emptySet w)).IsTuple l items := ⟨_, ho', rfl, nl, rfl⟩
        unfold Builtin.«set.__init__» noKeywords Builtin.Frozenset.updateFrom
        generalize pI : pyIter = PI
        wp_walk
        subst pI
        refine wpAny_pyIter_tuple tup1 ?_
        refine wpAny_bind (wpAny_runValue ?_)
        have lt : l < s.heap.objs.size := Heap.lt_size ho
        have h3 : A.in1.in1.in1.handled = none := by simp [hand]
        have z1 : (s.heap.push (emptySet w)).objs.size = s.heap.objs.size + 1 := Heap.size_push ..
        have ne1 : l ≠ (s.heap.push (emptySet w)).objs.size := by rw [z1]; exact Nat.ne_of_lt (Nat.lt_succ_of_lt lt)
        have nin : s.heap.objs.size ∉ [(s.heap.push (emptySet w)).objs.size, l] := by
          rw [z1]; simp only [List.mem_cons, List.not_mem_nil, or_false, not_or]; exact ⟨Nat.ne_of_lt (Nat.lt_succ_self _), Nat.ne_of_gt lt⟩
        have vals : ∀ (i : Nat) (v : Value), items[i]? = some v → ∃ p, ks[i]? = some p ∧ v = .ref p.1 := fun i v hv => by
          rw [← Array.getElem?_toList, hi, List.getElem?_map] at hv
          obtain ⟨p, hp, rfl⟩ := Option.map_eq_some_iff.mp hv
          exact ⟨p, hp, rfl⟩
        refine set_update_tups ((Walks.tuple h3 _ l ne1 items).toS) s.heap.objs.size nin ks sz few vals s.heap hk (gone (Nat.le_refl _))
          (fun b hb => gone (by rw [List.mem_singleton.mp hb, z1]; exact Nat.le_succ _)) room (items.size - 0) 0 _ (by omega) (Nat.zero_le _)
          ⟨⟨_, Heap.get?_push_size _ rfl, rfl, rfl⟩, (tup1.push _)⟩ (fun b o e => Heap.get?_push_of_some _ (Heap.get?_push_of_some _ e)) ?z ?f
        case z =>
          have g : ((s.heap.push (emptySet w)).push { cls := .type "tuple_iterator", data := .fields #[.ref l, .int 0 0] }).get? s.heap.objs.size = some (emptySet w) := Heap.get?_push_of_some _ atS
          exact ⟨[], #[], 0, _, setTR_fresh g, Got.zero ks⟩
        case f =>
          intro s' L es ep t mv R g kp
          obtain ⟨h', g2, d', n', os'⟩ := s'
          have q1 : g2 = s.gens := mv.gens
          have q2 : d' = s.drawn := mv.drawn
          have q3 : os' = s.os := mv.os
          subst q1; subst q2; subst q3
          show wpAny _ _ _ _ _ _
          refine wpAny_pure ?_
          show wpAny _ _ (ret Value.none) _ _ _
          rw [sz] at g
          exact wpAny_pure ⟨rfl, h', n', L, es, ep, t, rfl, R, g, kp⟩
      · cases r2 with
        | error e => exact hr2
        | ok f2 =>
          cases f2 with
          | ret r =>
            obtain ⟨rfl, h', n, L, es, ep, t, rfl, R, g, kp⟩ := hr2
            repeat (any_goals (first | assumption | wp_step))
            exact fin _ _ _ _ _ _ R g kp
          | _ => exact hr2.elim
    | _ => exact hr.elim
end
section
variable {X : Cx}
/-- set(xs), xs a tuple of tuples of ints -/
def rSetOfTT (K : PySem.W.Frag) (P : Program) (w : World) : List V → Hp → VK → Prop := fun xs H Q => ∃ (l : Addr) (ks : List (Addr × List Int)), xs = [V.ref l] ∧ SqT K H l (ks.map fun p => V.ref p.1) ∧ TupsIn K H ks ∧ ks.length < 64 ∧
  ∀ a L, H a = none → (∀ p ∈ L, p ∈ ks) → (∀ p ∈ ks, p.2 ∈ L.map (·.2)) → Q (.ref a) (upd H a (SetTO P w a L))
theorem cr_setOfTT (hc : X.calm = true) (hu : X.A.units + 64 < cLine) : CallR X (.type "set") (rSetOfTT X.K X.prog X.w) := by
  intro pins s σ H xs us Q J r ⟨l, ks, e1, hl, hk, hf, q⟩
  subst e1
  rw [Vals.ref1 r]
  obtain ⟨its, rv, pl, hz⟩ := J.tuple hl
  refine set_of_tup (P := X.prog) (w := X.w) ks (J.ok.hd hc) pl (by simpa using refs_of_vals rv) (fun p hp => J.isT (hk p hp)) hf (by omega) fun h' n L es ep t R g kp => ?_
  refine ⟨.ref s.heap.objs.size, upd H s.heap.objs.size (SetTO X.prog X.w s.heap.objs.size L), J.laid (t' := n) kp (Nat.le_refl _) (setTO_new R.t0), rfl, q _ L (J.hok.fresh (Nat.le_refl _)) (fun p hp => ?_) fun p hp => ?_⟩
  · exact List.mem_of_mem_take (g.sub p hp)
  · exact g.all p (by rw [List.take_length]; exact hp)
end
end TSF

set_option linter.all false
set_option Elab.async false
set_option maxRecDepth 100000
set_option maxHeartbeats 4000000
/-! sorted of a tuple, of a set, of tuples of ints. -/
namespace Srt3
open PySem PySem.Spec PyProof.Rows SrtO Srt2 L2
theorem items_vi {P : Program} {w : World} : ∀ {k : List Int} {vs : List Value}, ItemsAre (intKind P w) k vs → VI vs k
  | [], [], _ => .nil
  | n :: k, v :: vs, .cons h r => by
    obtain ⟨t, rfl⟩ := Value.isInt_shape h
    exact .cons ⟨t, rfl⟩ (items_vi r)
section
variable {prog : Program} {w : World} {A : Around} {E : Value → Shared → Prop} {s : Shared}
theorem collect_tup {l : Addr} {vs : List Value} {Q : List Value → Shared → Prop} (hl : s.heap.IsTuple l vs.toArray) (hz : vs.length ≤ sizeLine)
    (h : Q vs { s with heap := (s.heap.push (seqObj "list" #[] 0)).update s.heap.objs.size (Obj.mapSeq (· ++ vs.toArray)) }) : wpAny (model prog w) A (collect (.ref l)) Q E s := by
  obtain ⟨o, ho, hc, n, hd⟩ := id hl
  unfold collect
  refine wpAny_bind (wpAny_runValue (codeAny_builtin entry_proto_collect' ?_))
  show wpAny _ _ (do again (.builtin "list.__iadd__" ⟨[← newList [], .ref l], []⟩)) _ _ s
  refine wpAny_bind (wpAny_newList (wpAny_pure ⟨Code.quiet_builtin _ (by decide +kernel), codeAny_builtin entry_list_iadd' ?_⟩))
  show wpAny _ _ (Builtin.List.listExtendWith (.ref s.heap.objs.size) (.ref l) (.ref s.heap.objs.size)) _ _ { s with heap := s.heap.push (seqObj "list" #[] 0) }
  unfold Builtin.List.listExtendWith
  have at1 : (s.heap.push (seqObj "list" #[] 0)).get? l = some o := Heap.get?_push_of_some _ ho
  refine wpAny_bind (wpAny_typeOf (T := "tuple") ⟨o, at1, hc⟩ ?_)
  have tt : (Value.type "tuple" == Value.type "tuple") = true := by rfl
  rw [if_pos (by rw [tt]; simp)]
  refine wpAny_bind (listItems_at at1 hd ?_)
  refine wpAny_bind (listItems_at (xs := #[]) (n := 0) (Heap.get?_push_size _ rfl) rfl ?_)
  rw [if_neg (by simp)]
  refine wpAny_bind (listUpdate_at (xs := #[]) (n := 0) (Heap.get?_push_size _ rfl) rfl ?_ (Nat.zero_le _) (by show (#[] ++ vs.toArray).size ≤ sizeLine + 1; simp only [Array.size_append, List.size_toArray, List.length_nil]; omega))
  refine wpAny_pure ?_
  show wpAny (model prog w) A (do
      let ob ← load s.heap.objs.size
      match ob.data with
      | .seq ys _ => pure ys.toList
      | _ => unsupported "internal:collect") Q E { s with heap := (s.heap.push (seqObj "list" #[] 0)).update s.heap.objs.size (Obj.mapSeq (· ++ vs.toArray)) }
  refine wpAny_bind (wpAny_load (get?_update_seq (Heap.get?_push_size _ rfl) _) ?_)
  show wpAny _ _ (pure ((#[] : Array Value) ++ vs.toArray).toList) Q E _
  rw [show ((#[] : Array Value) ++ vs.toArray).toList = vs by simp]
  exact wpAny_pure h
/-- from what is collected on -/
theorem sort_rest {vs : List Value} {ltv : Value → Value → Bool} {h1 : Heap} {Q : Value → Shared → Prop} (O : Swo ltv) (hz : vs.length ≤ sizeLine) (old : ∀ b o, s.heap.get? b = some o → h1.get? b = some o) (hlt : s.heap.objs.size ≤ h1.objs.size)
    (hS : 2 ≤ vs.length → SortableO prog w A.in1 { s with heap := h1.push (seqObj "list" vs.toArray 0) } h1.objs.size vs ltv)
    (h : ∀ (h' : Heap) (d : Addr), (∀ b o, s.heap.get? b = some o → h'.get? b = some o) → s.heap.objs.size ≤ d → (∃ n, h'.get? d = some (seqObj "list" (isortB ltv vs).toArray n)) → Q (.ref d) { s with heap := h' }) :
    wpAny (model prog w) A (do
      let l ← newList vs
      let _ ← holding [l] (call (.builtin "list.sort") [l])
      ret l) (fun fin s' => ∃ r, fin = .done (.ret r) ∧ Q r s') E { s with heap := h1 } := by
  refine wpAny_bind (wpAny_newList ?_ hz)
  have at1 : (h1.push (seqObj "list" vs.toArray 0)).get? h1.objs.size = some (seqObj "list" vs.toArray 0) := Heap.get?_push_size _ rfl
  refine wpAny_bind (wpAny_holding (wpAny_call_entry slot_list_sort ⟨_, at1, rfl⟩ entry_list_sort (list_sort_ord O at1 hz hS fun out hs hb => ⟨_, rfl, ?_⟩) (args_list_sort _)))
  rw [isortB_uniq O hs hb]
  refine wpAny_pure ⟨_, rfl, h _ h1.objs.size (fun b o e => ?_) hlt (sortedHeap_at (vs := vs) at1)⟩
  have q := old b o e
  have lt := Heap.lt_size q
  show (sortedHeap (h1.push (seqObj "list" vs.toArray 0)) h1.objs.size vs _).get? b = some o
  rw [sortedHeap_old (Nat.ne_of_lt lt) (by rw [size_push']; exact Nat.lt_succ_of_lt lt)]
  exact Heap.get?_push_of_some _ q
end
section
variable {prog : Program} {w : World} {A : Around} {E : Value → Shared → Prop} {s : Shared}
theorem sorted_tupO {l : Addr} {vs : List Value} {k : Value → List Int} {Q : Value → Shared → Prop} (hl : s.heap.IsTuple l vs.toArray) (hz : vs.length ≤ sizeLine) (hp : ∀ v ∈ vs, IsInts s.heap v (k v)) (hn : ∀ v ∈ vs, k v ≠ [])
    (h : ∀ (h' : Heap) (d : Addr), (∀ b o, s.heap.get? b = some o → h'.get? b = some o) → s.heap.objs.size ≤ d → (∃ n, h'.get? d = some (seqObj "list" (isortB (fun v u => lexI (k v) (k u)) vs).toArray n)) → Q (.ref d) { s with heap := h' }) :
    wpAny (model prog w) A (call (.builtin "sorted") [.ref l]) Q E s := by
  refine Calls.call_function_entry kind_sorted plain_sorted entry_sorted (args_sorted1 _) ?_
  unfold Builtin.«sorted»
  refine wpAny_bind (m := checkCount "sorted" 1 1 _) (wpAny_pure ?_)
  refine wpAny_bind (collect_tup hl hz ?_)
  have old : ∀ b o, s.heap.get? b = some o → ((s.heap.push (seqObj "list" #[] 0)).update s.heap.objs.size (Obj.mapSeq (· ++ vs.toArray))).get? b = some o := fun b o q => by
    rw [Heap.get?_update_ne _ _ _ _ (Nat.ne_of_lt (Heap.lt_size q))]
    exact Heap.get?_push_of_some _ q
  have big : s.heap.objs.size ≤ ((s.heap.push (seqObj "list" #[] 0)).update s.heap.objs.size (Obj.mapSeq (· ++ vs.toArray))).objs.size := by
    rw [Heap.size_update, size_push']; exact Nat.le_succ _
  refine sort_rest (s := s) (lexI_swo k) hz old big (fun h2 => ?_) h
  refine ints_sortable (by omega) (fun v hm => (hp v hm).keeps fun b o e _ => Heap.get?_push_of_some _ (old b o e)) hn fun o e => ?_
  have e' : some o = some (seqObj "list" vs.toArray 0) := e.symm.trans (Heap.get?_push_size _ rfl)
  cases e'
  intro c
  exact absurd (Value.type.inj c) (by decide)
end
section
variable {P : Program} {w : World} {A : Around} {E : Value → Shared → Prop} {s : Shared} {a : Addr} {L : List (Addr × List Int)} {es : Array (Int × Value)} {ep : Nat} {t : SetTable}
theorem sorted_setO {k : Value → List Int} {Q : Value → Shared → Prop} (R : SetTR P w s.heap a L es ep t) (hand : A.handled = none) (hp : ∀ p ∈ L, k (.ref p.1) = p.2) (hn : ∀ p ∈ L, p.2 ≠ [])
    (h : ∀ (s1 : Shared) (vs : List Value) (h' : Heap) (d : Addr), vs.Perm (L.map fun p => Value.ref p.1) → (∀ b o, s.heap.get? b = some o → h'.get? b = some o) → s1.gens = s.gens → s1.os = s.os → s.heap.objs.size ≤ d →
      (∃ n, h'.get? d = some (seqObj "list" (isortB (fun v u => lexI (k v) (k u)) vs).toArray n)) → Q (.ref d) { s1 with heap := h' }) :
    wpAny (model P w) A (call (.builtin "sorted") [.ref a]) Q E s := by
  obtain ⟨o, ho, ex, hd⟩ := R.ob
  have few := R.few
  refine Calls.call_function_entry kind_sorted plain_sorted entry_sorted (args_sorted1 _) ?_
  unfold Builtin.«sorted»
  refine wpAny_bind (m := checkCount "sorted" 1 1 _) (wpAny_pure ?_)
  refine wpAny_bind (collect_set (A := A.in1) hand ⟨o, ho, ex.1, hd⟩ R.fits (by rw [R.size]; unfold scanBound; omega) R.tab.ris R.led fun s1 vs kp sz g1 o1 pm => ?_)
  have es1 : es.toList.map (·.2) = L.map fun p => Value.ref p.1 := by
    rw [R.rows]; unfold rowsOf; rw [List.map_map]; rfl
  rw [es1] at pm
  have hz : vs.length ≤ sizeLine := by rw [pm.length_eq, List.length_map, sizeLine_eq]; omega
  have iv : ∀ v ∈ vs, IsInts s1.heap v (k v) ∧ k v ≠ [] := fun v hv => by
    obtain ⟨p, hpm, rfl⟩ := List.mem_map.mp (pm.mem_iff.mp hv)
    rw [hp p hpm]
    obtain ⟨o, its, n, ho, hc, hd, hi⟩ := R.tup p hpm
    exact ⟨⟨p.1, o, its.toList, n, rfl, kp _ _ ho, hc, by rw [hd], items_vi hi⟩, hn p hpm⟩
  refine sort_rest (s := s1) (h1 := s1.heap) (lexI_swo k) hz (fun b o e => e) (Nat.le_refl _) (fun h2 => ?_) fun h' d kp2 hd2 hn2 => h s1 vs h' d pm (fun b o e => kp2 b o (kp b o e)) g1 o1 (Nat.le_trans sz hd2) hn2
  refine ints_sortable (by omega) (fun v hm => (iv v hm).1.keeps fun b o e _ => Heap.get?_push_of_some _ e) (fun v hm => (iv v hm).2) fun o e => ?_
  have e' : some o = some (seqObj "list" vs.toArray 0) := e.symm.trans (Heap.get?_push_size _ rfl)
  cases e'
  intro c
  exact absurd (Value.type.inj c) (by decide)
end
end Srt3

namespace L2
open PySem PySem.Spec PyProof.Rows SrtO Srt2 Srt3
section
variable {X : Cx}
/-- sorted(xs), xs a tuple of tuples of ints -/
def rSortNT (K : PySem.W.Frag) : List V → Hp → VK → Prop := fun vs H Q => ∃ (a : Addr) (ps : List (List Int × V)), vs = [V.ref a] ∧ SqT K H a (ps.map (·.2)) ∧ (∀ p ∈ ps, p.1 ≠ [] ∧ ∃ t, p.2 = V.ref t ∧ SqT K H t (p.1.map V.int)) ∧
  ∀ p, H p = none → Q (.ref p) (upd H p (.lst ((isortB lexP ps).map (·.2))))
theorem cr_sortNT : CallR X (.builtin "sorted") (rSortNT X.K) := by
  intro pins s σ H vs us Q J r ⟨a, ps, e0, hs, hx, q⟩
  subst e0
  obtain ⟨its, rv, hl, hz⟩ := J.tuple hs
  obtain ⟨u, e0, ru⟩ := vals1 r
  subst e0
  obtain rfl : u = Value.ref a := ru
  obtain ⟨e1, e2⟩ := refs_back rv fun x m => by
    obtain ⟨p, hp, rfl⟩ := List.mem_map.mp m
    obtain ⟨_, t, e, _⟩ := hx p hp
    exact ⟨t, e⟩
  have key : ∀ p ∈ ps, ∃ t, p.2 = V.ref t ∧ IsInts s.heap (.ref t) p.1 := fun p hp => by
    obtain ⟨_, t, e, ht⟩ := hx p hp
    obtain ⟨ts, rt, ⟨o, ho, hc, n, hd⟩, _⟩ := J.tuple ht
    exact ⟨t, e, t, o, ts, n, rfl, ho, hc, hd, vi_of rt⟩
  have back : ∀ v ∈ its, ∃ p ∈ ps, backV v = p.2 ∧ IsInts s.heap v p.1 := fun v hv => by
    obtain ⟨t, rfl⟩ := e2 v hv
    have hm : V.ref t ∈ ps.map (·.2) := by rw [e1]; exact List.mem_map.mpr ⟨_, hv, rfl⟩
    obtain ⟨p, hp, ep⟩ := List.mem_map.mp hm
    obtain ⟨t', e', hi⟩ := key p hp
    have : t = t' := by
      have ep : p.2 = V.ref t := ep
      rw [e'] at ep; cases ep; rfl
    subst this
    exact ⟨p, hp, ep.symm, hi⟩
  refine sorted_tupO (k := intsAt s.heap) hl (by rw [← rv.length]; exact hz) (fun v hv => ?_) (fun v hv => ?_) fun h' d kp hd hn => ?_
  · obtain ⟨p, hp, _, hi⟩ := back v hv
    rw [intsAt_of hi]; exact hi
  · obtain ⟨p, hp, _, hi⟩ := back v hv
    rw [intsAt_of hi]; exact (hx p hp).1
  · obtain ⟨n, hn⟩ := hn
    have e3 : (isortB (fun v u => lexI (intsAt s.heap v) (intsAt s.heap u)) its).map backV = (isortB lexP ps).map (·.2) := by
      let fw : V → List Int := fun x => match x with
        | .ref t => intsAt s.heap (.ref t)
        | _ => []
      have f1 : ∀ p ∈ ps, fw p.2 = p.1 := fun p hp => by
        obtain ⟨t, e, hi⟩ := key p hp
        rw [e]; exact intsAt_of hi
      have f2 : ∀ v ∈ its, fw (backV v) = intsAt s.heap v := fun v hv => by
        obtain ⟨t, rfl⟩ := e2 v hv
        rfl
      rw [isortB_congr (lt' := fun v u => (fun x y => lexI (fw x) (fw y)) (backV v) (backV u)) fun v hv u hu => by simp only [f2 v hv, f2 u hu]]
      rw [← isortB_map (fun x y => lexI (fw x) (fw y)) backV, ← e1]
      rw [isortB_map (fun x y => lexI (fw x) (fw y)) (fun p : List Int × V => p.2)]
      rw [isortB_congr (lt' := lexP) fun p hp u hu => by simp only [f1 p hp, f1 u hu]]
    have hlen : (isortB (fun v u => lexI (intsAt s.heap v) (intsAt s.heap u)) its).length = its.length := (isortB_ok (lexI_swo _) its).2.len
    have h3 : ∀ u ∈ isortB (fun v u => lexI (intsAt s.heap v) (intsAt s.heap u)) its, ∃ a, u = Value.ref a := fun u hu => e2 u ((isortB_ok (lexI_swo _) its).2.perm.mem_iff.mp hu)
    refine ⟨.ref d, upd H d (.lst ((isortB lexP ps).map (·.2))), J.laid (t' := s.toks) kp hd ⟨?_, _, n, ?_, hn⟩, rfl, q d (J.hok.fresh hd)⟩
    · rw [← e3, List.length_map, hlen, ← rv.length]; exact hz
    · rw [← e3]; exact vals_back h3
/-- sorted(xs), xs a set of tuples of ints -/
def rSortNS (K : PySem.W.Frag) (P : Program) (w : World) : List V → Hp → VK → Prop := fun vs H Q => ∃ (a : Addr) (L : List (Addr × List Int)), vs = [V.ref a] ∧ H a = some (SetTO P w a L) ∧ TSF.TupsIn K H L ∧ (∀ p ∈ L, p.2 ≠ []) ∧
  ∀ (L' : List (Addr × List Int)) (p : Addr), L'.Perm L → (L.map (·.2)).Nodup → L.length < 64 → H p = none → Q (.ref p) (upd H p (.lst ((isortB (fun q r : Addr × List Int => lexI q.2 r.2) L').map fun q => V.ref q.1)))
theorem cr_sortNS (hc : X.calm = true) : CallR X (.builtin "sorted") (rSortNS X.K X.prog X.w) := by
  intro pins s σ H vs us Q J r ⟨a, L, e0, ha, hk, hn, q⟩
  subst e0
  obtain ⟨es, ep, t, R⟩ := TSF.whole J ha hk
  rw [Vals.ref1 r]
  have at1 : ∀ p ∈ L, intsAt s.heap (.ref p.1) = p.2 := fun p hp => by
    obtain ⟨o, its, n, ho, hc, hd, hi⟩ := R.tup p hp
    exact intsAt_of ⟨p.1, o, its.toList, n, rfl, ho, hc, by rw [hd], items_vi hi⟩
  refine sorted_setO (k := intsAt s.heap) R (J.ok.hd hc) at1 hn fun s1 vs h' d pm kp g1 o1 hd ⟨n, hl⟩ => ?_
  obtain ⟨L', pL, eL⟩ := perm_lift (fun p : Addr × List Int => Value.ref p.1) pm L rfl
  have e3 : isortB (fun v u => lexI (intsAt s.heap v) (intsAt s.heap u)) vs = (isortB (fun q r : Addr × List Int => lexI q.2 r.2) L').map fun q => Value.ref q.1 := by
    rw [← eL, isortB_map (fun v u => lexI (intsAt s.heap v) (intsAt s.heap u)) (fun p : Addr × List Int => Value.ref p.1)]
    rw [isortB_congr (lt' := fun q r : Addr × List Int => lexI q.2 r.2) fun p hp u hu => by rw [at1 p (pL.mem_iff.mp hp), at1 u (pL.mem_iff.mp hu)]]
  have hfew := R.few
  have len : ((isortB (fun q r : Addr × List Int => lexI q.2 r.2) L').map fun q => V.ref q.1).length ≤ sizeLine := by
    rw [List.length_map, (isortB_ok (lexI_swo (fun q : Addr × List Int => q.2)) L').2.len, pL.length_eq, sizeLine_eq]; omega
  have hnone : H d = none := J.hok.fresh hd
  rw [e3] at hl
  have J2 : Inv X pins σ (upd H d (.lst ((isortB (fun q r : Addr × List Int => lexI q.2 r.2) L').map fun q => V.ref q.1))) { s with heap := h', gens := s1.gens, drawn := s1.drawn, toks := s1.toks } :=
    J.call (ch := []) (Un.laid kp hd hnone) (J.hok.laid kp hd ⟨len, _, n, vals_of_refs _, hl⟩) (by rw [g1]; exact J.bare) (fun _ z => nomatch z)
  have e4 : ({ s1 with heap := h' } : Shared) = { s with heap := h', gens := s1.gens, drawn := s1.drawn, toks := s1.toks } := by
    cases s1; cases s; cases o1; rfl
  rw [e4]
  exact ⟨.ref d, _, J2, rfl, q L' d pL R.nd hfew hnone⟩
end
end L2

set_option linter.all false
set_option maxRecDepth 100000
set_option maxHeartbeats 1000000
namespace Ml
open L2 Srt2 SrtO
open PySem (Addr Str sizeLine)
theorem lexI_tri : ∀ a b : List Int, lexI a b = false → lexI b a = false → a = b
  | [], [], _, _ => rfl
  | [], _ :: _, h, _ => by simp [lexI] at h
  | _ :: _, [], _, h => by simp [lexI] at h
  | x :: a, y :: b, h1, h2 => by
    simp only [lexI] at h1 h2
    by_cases c : x = y
    · subst c
      simp only [if_true] at h1 h2
      rw [lexI_tri a b h1 h2]
    · have c' : ¬ y = x := fun z => c z.symm
      simp only [c, c', if_false, decide_eq_false_iff_not] at h1 h2
      omega
theorem isort_perm {l1 l2 : List (List Int)} (h : l1.Perm l2) : isortB lexI l1 = isortB lexI l2 := by
  obtain ⟨a1, a2⟩ := isortB_ok (lexI_swo fun x : List Int => x) l1
  obtain ⟨b1, b2⟩ := isortB_ok (lexI_swo fun x : List Int => x) l2
  exact List.Perm.eq_of_pairwise (fun a b _ _ h1 h2 => lexI_tri a b h2 h1) a1 b1 ((a2.perm.trans h).trans b2.perm.symm)
theorem insL_is (x : List Int) : ∀ l, insL x l = insB lexI x l
  | [] => rfl
  | y :: r => by simp only [insL, insB, ltI_lex, insL_is x r]
theorem srtL_is : ∀ l, srtL l = isortB lexI l
  | [] => rfl
  | x :: r => by simp only [srtL, isortB, srtL_is r, insL_is]
theorem dedupL_mem {x : List Int} : ∀ {l : List (List Int)}, x ∈ dedupL l ↔ x ∈ l
  | [] => Iff.rfl
  | a :: l => by
    unfold dedupL
    split
    · rename_i h
      rw [dedupL_mem, List.mem_cons]
      exact ⟨.inr, fun z => z.elim (fun e => e ▸ h) id⟩
    · rw [List.mem_cons, List.mem_cons, dedupL_mem]
theorem dedupL_nd : ∀ {l : List (List Int)}, (dedupL l).Nodup
  | [] => List.nodup_nil
  | a :: l => by
    unfold dedupL
    split
    · exact dedupL_nd
    · rename_i h
      exact List.nodup_cons.mpr ⟨fun z => h (dedupL_mem.mp z), dedupL_nd⟩
section
variable {C : Cc} {P : PySem.Program} {w0 : PySem.World} {K : PySem.W.Frag} {te : TE} {me : ME Dv}
theorem keysI_ok {Hs : Hp} : ∀ {ds : List Dv} {ks : List (List Int)} {xs : List V}, keysI ds = some ks → Reps C.K C.sc Hs ds xs →
    ∃ T : List (Addr × List Int), xs = T.map (fun p => V.ref p.1) ∧ T.map (·.2) = ks ∧ ∀ p ∈ T, p.2 ≠ [] ∧ PlT C.K Hs p.1 (p.2.map V.int)
  | [], ks, xs, h, r => by cases h; simp only [Reps] at r; exact ⟨[], r, rfl, fun _ h => nomatch h⟩
  | d :: ds, ks, xs, h, r => by
    simp only [Reps] at r
    obtain ⟨v, q, rfl, r1, r2⟩ := r
    simp only [keysI] at h
    split at h
    · rename_i k r' hk hr
      cases h
      obtain ⟨T, rfl, rfl, hT⟩ := keysI_ok hr r2
      obtain ⟨h1, t, rfl, h3⟩ := tupI_ok hk r1
      exact ⟨(t, k) :: T, rfl, rfl, fun p hp => by
        rcases List.mem_cons.mp hp with rfl | hp
        · exact ⟨h1, h3⟩
        · exact hT p hp⟩
    · cases h
theorem reps_tupOf {Hs : Hp} : ∀ {M : List (Addr × List Int)}, (∀ p ∈ M, PlT C.K Hs p.1 (p.2.map V.int)) → Reps C.K C.sc Hs ((M.map (·.2)).map tupOf) (M.map fun p => V.ref p.1)
  | [], _ => reps_nil
  | p :: M, h => by
    refine reps_cons ?_ (reps_tupOf fun q hq => h q (List.mem_cons_of_mem _ hq))
    simp only [tupOf, Rep]
    exact ⟨p.1, _, rfl, h p List.mem_cons_self, reps_ints⟩
/-- behind set(xs) -/
theorem sortSet_core {Z Hs : Hp} {e : Loc} {σ : L2.St} {H : Hp} (k : StOk C Z Hs e σ H) {ks : List (List Int)} {T : List (Addr × List Int)} (hT : ∀ p ∈ T, p.2 ≠ [] ∧ PlT C.K Hs p.1 (p.2.map V.int)) (eT : T.map (·.2) = ks) {Q : V → Hp → Prop}
    (w : WE C Z σ Hs H (rO C Z σ) (.ok (.lst ((srtL (dedupL ks)).map tupOf)) e) Q) {a : Addr} {L : List (Addr × List Int)} (ha : H a = none) (sub : ∀ p ∈ L, p ∈ T) (cov : ∀ p ∈ T, p.2 ∈ L.map (·.2)) :
    rSortNS C.K C.sc.P C.sc.w [V.ref a] (upd H a (SetTO C.sc.P C.sc.w a L)) Q := by
  have tL : ∀ p ∈ L, PlT C.K Hs p.1 (p.2.map V.int) := fun p hp => (hT p (sub p hp)).2
  have k2 := k.newO (o := SetTO C.sc.P C.sc.w a L) ha
  refine ⟨a, L, rfl, upd_same, fun p hp => sqt_le k2.le (tL p hp).sq, fun p hp => (hT p (sub p hp)).1, fun L' p pL nd few hp => ?_⟩
  have same : (isortB (fun q r : Addr × List Int => lexI q.2 r.2) L').map (·.2) = srtL (dedupL ks) := by
    rw [← isortB_map lexI (fun q : Addr × List Int => q.2) L', srtL_is]
    refine isort_perm ((pL.map (fun q : Addr × List Int => q.2)).trans ((List.perm_ext_iff_of_nodup nd dedupL_nd).mpr fun x => ?_))
    rw [dedupL_mem, ← eT]
    exact ⟨fun h => by
      obtain ⟨q, hq, rfl⟩ := List.mem_map.mp h
      exact List.mem_map.mpr ⟨q, sub q hq, rfl⟩, fun h => by
      obtain ⟨q, hq, rfl⟩ := List.mem_map.mp h
      exact cov q hq⟩
  refine we_newO (we_mono Post.newO w) k2 hp ?_
  rw [← same]
  refine reps_tupOf fun q hq => tL q (pL.mem_iff.mp ((isortB_ok (lexI_swo fun q : Addr × List Int => q.2) L').2.perm.mem_iff.mp hq))
theorem seo_sortSetT (hK : C.K = K) (hP : C.sc.P = P) (hw : C.sc.w = w0) (h : SE C te me) : SEO C (tCB (rSortNS K P w0) (tCons (tCB (TSF.rSetOfTT K P w0) (tCons te tNil)) tNil)) (mN1 oSortSetT me) := fun Z Hs e σ H k Q w =>
  h Z Hs e σ H k _ (we_bind (fun a e1 x Hs1 H1 p1 k1 r1 w1 => by
    subst hK; subst hP; subst hw
    obtain ⟨o, ho, w2⟩ := we_of w1
    obtain ⟨c, hc, rfl⟩ := Option.map_eq_some_iff.mp ho
    unfold oSortSetT at hc
    split at hc
    · rename_i ds
      unfold sortSet at hc
      split at hc
      · rename_i ks hk
        split at hc
        · rename_i hl
          cases hc
          simp only [rD, Rep] at r1
          obtain ⟨l, xs, rfl, hx, rx⟩ := r1
          obtain ⟨T, rfl, eT, hT⟩ := keysI_ok hk rx
          have lT : T.length < 64 := by rw [← eT, List.length_map] at hl; exact hl
          exact ⟨l, T, rfl, sqt_le k1.le hx.sq, fun p hp => sqt_le k1.le (hT p hp).2.sq, lT, fun a L ha sub cov => sortSet_core k1 hT eT w2 ha sub cov⟩
        · cases hc
      · cases hc
    · cases hc) w)
theorem seo_sortSetL (hK : C.K = K) (hP : C.sc.P = P) (hw : C.sc.w = w0) (h : SE C te me) : SEO C (tCB (rSortNS K P w0) (tCons (tCB (rSetOfT K P w0) (tCons te tNil)) tNil)) (mN1 oSortSetL me) := fun Z Hs e σ H k Q w =>
  h Z Hs e σ H k _ (we_bind (fun a e1 x Hs1 H1 p1 k1 r1 w1 => by
    subst hK; subst hP; subst hw
    obtain ⟨o, ho, w2⟩ := we_of w1
    obtain ⟨c, hc, rfl⟩ := Option.map_eq_some_iff.mp ho
    unfold oSortSetL at hc
    split at hc
    · rename_i ds
      unfold sortSet at hc
      split at hc
      · rename_i ks hk
        split at hc
        · rename_i hl
          cases hc
          simp only [rD, Rep] at r1
          obtain ⟨l, xs, rfl, hx, rx⟩ := r1
          obtain ⟨T, rfl, eT, hT⟩ := keysI_ok hk rx
          have lT : T.length < 64 := by rw [← eT, List.length_map] at hl; exact hl
          exact ⟨l, T, rfl, SqL.of (k1.le _ _ hx), fun p hp => sqt_le k1.le (hT p hp).2.sq, lT, fun a L ha sub cov => sortSet_core k1 hT eT w2 ha sub cov⟩
        · cases hc
      · cases hc
    · cases hc) w)
theorem rn_sortTT (hK : C.K = K) : RCN C (rSortNT K) oSortTT := fun Z Hs e σ H k x a c Q ra hf w => by
  subst hK
  cases a with
  | tup ds =>
    simp only [Rep] at ra
    obtain ⟨a, xs, rfl, hx, rx⟩ := ra
    obtain ⟨ps, hps, rfl⟩ := Option.map_eq_some_iff.mp (show ((tupsI ds).map fun ps => (srtD ps).map (·.2)) = some c from hf)
    obtain ⟨T, rfl, rfl, hT⟩ := tupsI_ok hps rx
    refine ⟨a, T.map fun t => (t.1, t.2.2), rfl, by rw [List.map_map]; exact sqt_le k.le hx.sq, fun p hp => ?_, fun p np => ?_⟩
    · obtain ⟨t, ht, rfl⟩ := List.mem_map.mp hp
      obtain ⟨h1, t', h2, h3⟩ := tupI_ok (hT t ht).2 (hT t ht).1
      exact ⟨h1, t', h2, sqt_le k.le h3.sq⟩
    · refine we_newO w k np ?_
      rw [srtD_is, Srt2.isortB_map (fun p q : List Int × Dv => Srt2.lexI p.1 q.1) (fun t : List Int × Dv × V => (t.1, t.2.1)), Srt2.isortB_map lexP (fun t : List Int × Dv × V => (t.1, t.2.2)), List.map_map, List.map_map]
      exact reps_all fun t ht => (hT t ((Srt2.isortB_ok (Srt2.lexI_swo _) T).2.perm.mem_iff.mp ht)).1
  | _ => cases hf
end
section
variable {X : L2.Cx} {P : PySem.Program} {w0 : PySem.World} {K : PySem.W.Frag} {k : Nat}
theorem sortNTK (hK : X.K = K) : CallR X (.builtin "sorted") (rSortNT K) := by subst hK; exact cr_sortNT
theorem sortNSK (hc : X.calm = true) (hK : X.K = K) (hP : X.prog = P) (hw : X.w = w0) : CallR X (.builtin "sorted") (rSortNS K P w0) := by subst hK; subst hP; subst hw; exact cr_sortNS hc
theorem setOfTTK (hc : X.calm = true) (hK : X.K = K) (hP : X.prog = P) (hw : X.w = w0) (hr : L2.Room k X.A) : CallR X (.type "set") (TSF.rSetOfTT K P w0) := by subst hK; subst hP; subst hw; have := hr.un; exact TSF.cr_setOfTT hc (by omega)
theorem setOfTK (hc : X.calm = true) (hK : X.K = K) (hP : X.prog = P) (hw : X.w = w0) (hr : L2.Room k X.A) : CallR X (.type "set") (rSetOfT K P w0) := by subst hK; subst hP; subst hw; have := hr.un; exact cr_setOfT hc (by omega)
end
end Ml

set_option linter.all false
set_option maxRecDepth 100000
set_option maxHeartbeats 1000000
namespace L2
open PySem PySem.Spec PyProof.Rows
section
variable {X : Cx} {o : Expr} {lo hi : Option Expr} {to : TE} {tl th : TO} {pos p2 : Pos}
/-- x[a:c] = another list -/
def gSlL (to : TE) (tl th : TO) : TG := fun v σ H Q => to σ H fun ob H1 => tl σ H1 fun lo H2 => th σ H2 fun hi H3 => ∃ (l b : Addr) (xs ys : List V) (a c : Int), ob = .ref l ∧ v = .ref b ∧ lo = some a ∧ hi = some c ∧
  H3 l = some (.lst xs) ∧ H3 b = some (.lst ys) ∧ l ≠ b ∧ 0 ≤ a ∧ a ≤ c ∧ c ≤ xs.length ∧ xs.length + ys.length ≤ sizeLine ∧ Q σ (upd H3 l (.lst (xs.take a.toNat ++ ys ++ xs.drop c.toNat)))
theorem part_rel {v : Value} {a : Int} (h : IsPart v (some a)) : RelV (.int a) v := by
  cases h
  exact ⟨_, rfl⟩
theorem pg_slL (ho : PE X o to) (hl : PO X lo tl) (hh : PO X hi th)
    (ha : ∀ v, assign (.Subscript o (.Slice lo hi none p2) pos) X.env v = (do
      let ov ← holding [v] (eval o X.env)
      let iv ← holding [v, ov] (eval (.Slice lo hi none p2) X.env)
      standAt pos
      holding [v, ov, iv] (setItem ov iv v)
      release [iv, v, ov] []) := by intro _; rfl) : PG X (.Subscript o (.Slice lo hi none p2) pos) (gSlL to tl th) := by
  refine ⟨fun pins s σ H v u Q J r h => ?_⟩
  rw [ha]
  refine wpAny_bind (wpAny_holding (thn (ho.run pins s σ H _ J h) fun ov s1 ⟨x, H1, J1, r1, q1⟩ => ?_))
  refine wpAny_bind (wpAny_holding (wpAny_Slice (thn (hl.run pins s1 σ H1 _ J1 q1) fun vl s2 ⟨a0, H2, J2, pl, q2⟩ => thn (hh.run pins s2 σ H2 _ J2 q2) fun vu s3 ⟨c0, H3, J3, pu, q3⟩ => ?_)))
  rw [evalPart_none]
  refine wpAny_pure ?_
  obtain ⟨l, b, xs, ys, a, c, e1, e2, e3, e4, hx, hy, ne, h0, hac, hc, hz, q⟩ := q3
  subst e1; subst e2; subst e3; subst e4
  cases r1; cases r
  have J4 : Inv X pins σ H3 { s3 with heap := s3.heap.push { cls := .type "slice", data := .fields #[vl, vu, .none] } } := J3.kept (t' := s3.toks) fun b ob q => Heap.get?_push_of_some _ q
  refine wpAny_bind (wpAny_standAt (wpAny_bind (wpAny_holding (set_slice J4 hx hy ne (Heap.IsSliceOf.new ..) (part_rel pl) (part_rel pu) h0 hac hc hz fun s' J5 => ?_))))
  exact wpAny_release ⟨σ, _, J5, q⟩
end
end L2
namespace Ml
open L2
open PySem (Addr Str sizeLine)
section
variable {C : Cc} {te : TE} {mo : ME Ob} {tl th : TO} {mlo mhi : ME (Option Int)}
theorem ss_slSet {i : Nat} (h : SEO C te mo) (hl : SO C tl mlo) (hh : SO C th mhi) : SS C [] (tAsg te (gSlL (tVar i) tl th)) (sSlSet i mo mlo mhi) := fun Z Hs e σ H k Dn w =>
  h Z Hs e σ H k _ (we_go (fun o e1 v Hs1 H1 p1 k1 r1 w1 => by
    obtain ⟨p, rfl, hn1, ⟨h0, hz⟩, own, fr⟩ := r1
    cases o with
    | set ks => exact w1.elim
    | dct t ks vs => exact w1.elim
    | lst ys =>
      obtain ⟨vs, hv, rv⟩ := own
      replace w1 : WS C Z [] σ Hs1 H1 (if isLs e1[i]? = true then (mlo e1).go fun a e => (mhi e).go fun c e => slEnd i ys a c e else .ud) Dn := w1
      split at w1
      · rename_i ho
        obtain ⟨j, ds0, he⟩ := ls_of ho
        obtain ⟨l, s1, _⟩ := k1.own he
        have kh := k1.hide hv hn1 fr
        refine ⟨_, s1, hl _ Hs1 e1 σ H1 kh _ ?_⟩
        cases q1 : mlo e1 with
        | ud => rw [q1] at w1; exact w1.elim
        | er x e2 => rw [q1] at w1; exact fun Hs' H' c od p' k' re => w1 Hs' σ H' c od p' (k'.zle (Le.new hz)) re
        | ok a e2 =>
          rw [q1] at w1
          rintro a' Hs2 H2 p2 k2 rfl
          refine hh _ Hs2 e2 σ H2 k2 _ ?_
          replace w1 : WS C Z [] σ Hs1 H1 ((mhi e2).go fun c e => slEnd i ys a c e) Dn := w1
          cases q2 : mhi e2 with
          | ud => rw [q2] at w1; exact w1.elim
          | er x e3 => rw [q2] at w1; exact fun Hs' H' c od p' k' re => w1 Hs' σ H' c od (p2.trans p') (k'.zle (Le.new hz)) re
          | ok c e3 =>
            rw [q2] at w1
            rintro c' Hs3 H3 p3 k3 rfl
            replace w1 : WS C Z [] σ Hs1 H1 (slEnd i ys a c e3) Dn := w1
            unfold slEnd at w1
            split at w1
            · rename_i j3 ds a c he3
              split at w1
              · rename_i hb
                obtain ⟨b0, b1, b2, b3⟩ := hb
                obtain ⟨l', s1', _, ⟨xs, hx, rx⟩, _⟩ := k3.own he3
                rw [s1] at s1'; cases s1'
                have hp := (k3.hid p _ upd_same).1
                have ne : l ≠ p := fun z => by
                  have := k3.hids i j3 _ l he3 s1
                  rw [z, upd_same] at this; cases this
                refine ⟨l, p, xs, vs, a, c, rfl, rfl, rfl, rfl, hx, hp, ne, b0, b1, by rw [reps_len rx]; exact b2, by rw [reps_len rx, reps_len rv]; exact Nat.le_trans b3 (by decide), ?_⟩
                have rv3 := reps_le (p2.le.trans p3.le) rv
                exact w1 _ σ _ ((p2.trans p3).trans Post.newO) ((k3.zle (Le.new hz)).mut he3 s1 ⟨_, upd_same, reps_app (reps_app (reps_take rx) rv3) (reps_drop rx)⟩) Kp.refl
              · exact w1.elim
            · exact w1.elim
      · exact w1.elim) w)
end
section
variable {C : Cc} {tb : TE} {mb : ME Dv} {i : Nat}
theorem seo_catO (hb : SE C tb mb) : SEO C (tOp rCat (tVar i) tb) (mCatO i mb) := fun Z Hs e σ H k Q w => by
  unfold mCatO at w
  split at w
  · rename_i j o he
    obtain ⟨p, e1, _⟩ := k.own he
    refine ⟨_, e1, hb Z Hs e σ H k _ (we_bind (fun b e2 y Hs2 H2 p2 k2 r2 w2 => ?_) w)⟩
    split at w2
    · rename_i j2 ds ys he2
      obtain ⟨p', e1', _, ⟨xs, hx, rx⟩, _⟩ := k2.own he2
      rw [e1] at e1'; cases e1'
      split at w2
      · rename_i hl
        simp only [rD, Rep] at r2
        obtain ⟨q, zs, rfl, hz, rz⟩ := r2
        exact ⟨p, q, xs, zs, rfl, rfl, hx, k2.le _ _ hz, by rw [reps_len rx, reps_len rz]; exact lim_line hl, fun l hl => we_newO w2 k2 hl (reps_app rx rz)⟩
      · exact w2.elim
    · exact w2.elim
  · exact w.elim
end
end Ml

set_option autoImplicit false
/-! try: .. except C as x: return F(x), the answer never changed any more. -/
namespace Ml
def sTryZ (b : MS) (tab : List (List Nat × Bool)) (i : Nat) (F : Fn) : MS := fun e => match b e with
  | .er x e' => match x.2 with
    | [.str f, d] => match tab.lookup x.1 with
      | some true => if i < e'.length then (match F [.fz (.exc x.1 f d)] with
        | .ok (.fz v) [] => if lowD 60 v = true then .rt (.fz v) e' else .ud
        | .ok (.ow none (.lst ds)) [] => if lowDs 60 ds = true then .rt (.fz (.lst ds)) e' else .ud
        | _ => .ud) else .ud
      | some false => .er x e'
      | none => .ud
    | _ => .ud
  | r => r
end Ml

set_option linter.all false
set_option autoImplicit false
set_option maxRecDepth 100000
set_option maxHeartbeats 1000000
namespace Ml
open PySem PySem.Spec PyProof.Rows L2
section
variable {C : Cc}
theorem ss_tryZ {K : PySem.W.Frag} (hK : C.K = K) (hE : C.RE = REk K) {A : List Nat} {tb : WX → TS} {mb : MS} {tab : List (List Nat × Bool)} {i : Nat} {F : Fn} {cb : Value} {nl : List Str} {E' : L2.St → XK}
    (hex : ∀ c b E0, tab.lookup c = some b → PySem.W.nsIn K mainGlobals (sOf c) = some (some (.ref E0)) → PySem.W.exmOne K (.ref E0) cb = some b)
    {Wout : WX} (hall : ∀ c b, tab.lookup c = some b → b = true) (hcl : ∀ c E0, tab.lookup c = some true → PySem.W.nsIn K mainGlobals (sOf c) = some (some (.ref E0)) → ErrF K nl E0)
    (hb : ∀ W : WX, SS { C with E := W } A (tb W) mb) :
    SS C A (fun D σ H => tb (wAs K cb i (fun a c d => tRet (tCallS (spH C.sc.P C.sc.w K (REk K) nl F a c d) E' (tCons (tVar i) tNil))) Wout D) D σ H) (sTryZ mb tab i F) := fun Z Hs e σ H k Dn w => by
  subst hK
  refine hb _ Z Hs e σ H (stok_E k) Dn ?_
  unfold sTryZ at w
  cases q : mb e with
  | nx e' => rw [q] at w; exact fun Hs' σ' H' p' k' kp => w Hs' σ' H' p' (stok_E' k') kp
  | ct e' => rw [q] at w; exact fun Hs' σ' H' p' k' kp => w Hs' σ' H' p' (stok_E' k') kp
  | bk e' => rw [q] at w; exact fun Hs' σ' H' p' k' kp => w Hs' σ' H' p' (stok_E' k') kp
  | rt s e' => rw [q] at w; exact fun v Hs' σ' H' p' k' r => w v Hs' σ' H' p' (stok_E' k') r
  | ud => rw [q] at w; exact w
  | er x e' =>
    rw [q] at w
    intro Hs' σ' H' cl od p' k' re
    have k1 := stok_E' k'
    have re : C.RE x cl od Hs' H' := re
    rw [hE] at re
    obtain ⟨E0, dd, wv, f, d, hx2, hn, rfl, rfl, hd, hlow, hrep⟩ := re
    simp only [hx2] at w
    cases hl : tab.lookup x.1 with
    | none => rw [hl] at w; exact w.elim
    | some b =>
      rw [hl] at w
      cases b with
      | false =>
        cases hall _ _ hl
      | true =>
        refine ⟨true, hex _ _ _ hl hn, fun _ a na => ?_, (fun z => nomatch z)⟩
        simp only at w
        split at w
        · rename_i hi
          have hi' : i < σ'.length := by rw [k1.len]; exact hi
          refine ⟨.ref a, List.getElem?_set_self hi', E0, dd, x.1, f, d, ⟨C.sc.a, some (a, E0, dd), C.sc.P, C.sc.w⟩, Hs', rfl, rfl, rfl, hcl _ _ hl hn, k1.le, ⟨?_, trivial⟩, ?_⟩
          · simp only [Rep]
            exact ⟨a, E0, dd, wv, rfl, rfl, hn, hd, hrep _⟩
          · split at w
            · rename_i d2 hF
              split at w
              · rename_i hns
                rw [hF]
                intro v Hs2 H2 fp _ rc
                obtain ⟨k2, _⟩ := stok_call (is := []) (os := []) (e' := e') k1 fp trivial trivial List.nodup_nil rfl
                exact w v Hs2 σ' H2 (p'.trans ⟨fp.ext, fp.dom⟩) k2 (rep_any (sc := ⟨C.sc.a, some (a, E0, dd), C.sc.P, C.sc.w⟩) hns rc)
              · exact w.elim
            · rename_i ds hF
              split at w
              · rename_i hns
                rw [hF]
                intro v Hs2 H2 fp _ rc
                obtain ⟨k2, _⟩ := stok_call (is := []) (os := []) (e' := e') k1 fp trivial trivial List.nodup_nil rfl
                obtain ⟨p, rfl, c1, c2, xs, c3, c4⟩ := rc
                have fr : ∀ (i : Nat) j u, e'[i]? = some (.ow j u) → σ'[i]? ≠ some (some (.ref p)) := k1.fresh c2
                refine w (.ref p) (upd Hs2 p (.lst xs)) σ' H2 (p'.trans ⟨fp.ext.trans (Le.new c1), fp.dom⟩) (k2.freeze c3 (k1.h0_none c2) c1 (k1.z_none c2) fr) ?_
                show Rep C.K C.sc _ (.lst ds) _
                simp only [Rep]
                exact ⟨p, xs, rfl, upd_same, reps_le (Le.new c1) (reps_any (sc := ⟨C.sc.a, some (a, E0, dd), C.sc.P, C.sc.w⟩) hns c4)⟩
              · exact w.elim
            · exact w.elim
        · exact w.elim
end
end Ml

set_option autoImplicit false
/-! A def that calls itself, at the end of its fuel; sets of ints. -/
namespace Ml
def Fud : Fn := fun _ => .ud
def dedupZ : List Int → List Int
  | [] => []
  | x :: r => if x ∈ r then dedupZ r else x :: dedupZ r
def insZ (x : Int) : List Int → List Int
  | [] => [x]
  | y :: r => if y < x then y :: insZ x r else x :: y :: r
def srtZ : List Int → List Int
  | [] => []
  | x :: r => insZ x (srtZ r)
/-- len(set(xs)), xs ints -/
def oSetLenL : Dv → Option Dv
  | .lst ds => match intsOf ds with
    | some ns => if ns.length < 64 then some (.int (dedupZ ns).length) else none
    | none => none
  | _ => none
/-- sorted(set(xs)), xs ints or tuples of ints -/
def sortSetA (ds : List Dv) : Option (List Dv) := match intsOf ds with
  | some ns => if ns.length < 64 then some ((srtZ (dedupZ ns)).map .int) else none
  | none => sortSet ds
def oSortSetA : Dv → Option (List Dv)
  | .lst ds => sortSetA ds
  | _ => none
end Ml
namespace Ml
def itRev : Dv → Option (List Dv)
  | .lst ds => some ds.reverse
  | .tup ds => some ds.reverse
  | _ => none
end Ml

set_option linter.all false
set_option autoImplicit false
set_option maxRecDepth 100000
set_option maxHeartbeats 1000000
/-! A def that calls itself: what it does without fuel is nothing that is asked for. -/
namespace Ml
open PySem PySem.Spec PyProof.Rows L2
section
variable {P : Program} {w : World} {K : PySem.W.Frag} {mg : Str → Option Value} {base : Heap}
theorem cl_ud {x : Str} {st : Stmt} {N ps : List Str} {k : Nat} {RE : Err → Value → Option Addr → Hp → Hp → Prop} (D : DefK K x st) (M : Mg K mg)
    (hb : ∀ (kV doc pm : Value) (an : Option Addr) (cdv ct : Value) (us : List Value), us.length = ps.length → bindArgs (PySem.W.fnOf x x (defArgs st) (defBody st) (defScope st) .none kV doc pm an cdv ct) ⟨us, []⟩ = pure (ps.zip us))
    (S : FnScope N ps (defScope st)) : Kept P w K mg base CX0 (k + 1) x (spM P w K RE Fud) := by
  obtain ⟨f, fd, hn, Fd⟩ := D
  refine ⟨f, fd, ps, ?_, M.get hn, Fd.kp, Fd.binds hb⟩
  refine Fd.ok S (fun vs H Q E h => ?_) fun cdv A' outer s H vs Q E hr h => ?_
  · obtain ⟨sc, Hs, as, ps', _, _, _, hf⟩ := h
    exact hf.elim
  · obtain ⟨sc, Hs, as, ps', _, _, _, hf⟩ := h
    exact hf.elim
end
end Ml

set_option linter.all false
set_option Elab.async false
set_option maxRecDepth 100000
set_option maxHeartbeats 4000000
/-! set of a list of ints; how many it has; sorted of it. -/
namespace TSF
open L2 PySem PySem.Spec PyProof.Rows
section
variable {P : Program} {w : World} {A : Around} {E : Value → Shared → Prop} {s : Shared}
theorem set_of_lsI {l : Addr} {items : Array Value} (ns : List Int) {Q : Value → Shared → Prop} (hand : A.handled = none) (ht : s.heap.IsList l items) (hi : IntsAre items.toList ns) (few : ns.length + 1 < scanBound)
    (fin : ∀ (h' : Heap) (n c : Nat), SetR w h' s.heap.objs.size (fun j => decide (j ∈ ns)) c → c ≤ ns.length → (∀ b o, s.heap.get? b = some o → h'.get? b = some o) → Q (.ref s.heap.objs.size) { s with heap := h', toks := n }) :
    wpAny (model P w) A (call (.type "set") [.ref l]) Q E s := by
  have sz : items.size = ns.length := by
    have q := IntsAre.length hi
    rwa [Array.length_toList] at q
  obtain ⟨c, tl, m1⟩ := F.called_set.mro
  have m2 := F.called_set.made
  have m3 := F.called_set.sub
  refine wpAny_call (codeAny_of_tree ?_)
  show wpAny _ _ (callAny (.type "set") _) _ _ _
  refine wpAny_pure ⟨Code.quiet_builtin _ (by decide +kernel), codeAny_builtin F.entry_type_call ?_⟩
  rw [Around.under_plain (weight_type_call_type "set" [.ref l] []) rfl]
  have m4 := F.called_set.notType
  have m5 := F.called_set.canCreate
  have m6 := F.typeCall_set_1 (.ref l)
  repeat (any_goals (first | assumption | wp_step))
  refine codeAny_mono (code_set_led1 (.ref l) (E := E) (Q₁ := fun ob s1 => ob = .ref s.heap.objs.size ∧ s1 = { s with heap := s.heap.push (emptySet w) }) ⟨rfl, rfl⟩) fun r s1 hr => ?_
  cases r with
  | error e => exact hr
  | ok fl =>
    cases fl with
    | ret ob =>
      obtain ⟨rfl, rfl⟩ := hr
      have atS : (s.heap.push (emptySet w)).get? s.heap.objs.size = some (emptySet w) := Heap.get?_push_size _ rfl
      have tyS : Shared.TypeIs { s with heap := s.heap.push (emptySet w) } (.ref s.heap.objs.size) "set" := ⟨_, atS, rfl⟩
      have m7 := F.called_set.init.lookup
      have m8 := F.called_set.init.bind (.ref s.heap.objs.size)
      repeat (any_goals (first | assumption | wp_step))
      refine codeAny_mono (codeAny_call_builtin (R := wants (fun r s2 => r = .none ∧ ∃ h' n c, s2 = { s with heap := h', toks := n } ∧ SetR w h' s.heap.objs.size (fun j => decide (j ∈ ns)) c ∧ c ≤ ns.length ∧ (∀ b o, s.heap.get? b = some o → h'.get? b = some o)) E)
        F.called_set.init.plain F.entry_set_init (check_set_init_1 tyS ?_)) fun r2 s2 hr2 => ?_
      · obtain ⟨o, ho, hc, nl, hd⟩ := ht
        obtain ⟨cl, dc, da, sl⟩ := o
        simp only at hc hd
        subst hc; subst hd
        have ho' : (s.heap.push (emptySet w)).get? l = some { cls := .type "list", dict := dc, data := .seq items nl, slots := sl } := Heap.get?_push_of_some _ ho
        have m9 := F.sub_list_set
        have m10 := F.sub_list_frozenset
        have m11 : (Value.type "list" == Value.type "dict") = false := by decide
        have ls1 : (s.heap.push (emptySet w)).IsList l items := ⟨_, ho', rfl, nl, rfl⟩
        unfold Builtin.«set.__init__» noKeywords Builtin.Frozenset.updateFrom
        generalize pI : pyIter = PI
        wp_walk
        subst pI
        refine wpAny_pyIter_list ls1 ?_
        refine wpAny_bind (wpAny_runValue ?_)
        have lt : l < s.heap.objs.size := Heap.lt_size ho
        have h3 : A.in1.in1.in1.handled = none := by simp [hand]
        have z1 : (s.heap.push (emptySet w)).objs.size = s.heap.objs.size + 1 := Heap.size_push ..
        have ne1 : l ≠ (s.heap.push (emptySet w)).objs.size := by rw [z1]; exact Nat.ne_of_lt (Nat.lt_succ_of_lt lt)
        have nin : s.heap.objs.size ∉ [(s.heap.push (emptySet w)).objs.size, l] := by
          rw [z1]; simp only [List.mem_cons, List.not_mem_nil, or_false, not_or]; exact ⟨Nat.ne_of_lt (Nat.lt_succ_self _), Nat.ne_of_gt lt⟩
        have vals : ∀ (i : Nat) (v : Value), items[i]? = some v → ∃ k t, ns[i]? = some k ∧ v = .int k t := fun i v hv => by
          have il : i < ns.length := by rw [← sz]; exact (Array.getElem?_eq_some_iff.mp hv).1
          obtain ⟨t, e⟩ := IntsAre.int_at hi i v (by rw [Array.getElem?_toList]; exact hv)
          refine ⟨ns[i], t, List.getElem?_eq_getElem il, ?_⟩
          rw [e, List.getD_eq_getElem?_getD, List.getElem?_eq_getElem il] <;> rfl
        refine set_update_ints ((Walks.list h3 _ l ne1 items).toS) s.heap.objs.size nin ns sz few vals (items.size - 0) 0 _ (by omega) (Nat.zero_le _)
          ⟨⟨_, Heap.get?_push_size _ rfl, rfl, rfl⟩, (ls1.push _)⟩ ?z ?f
        case z =>
          have g : ((s.heap.push (emptySet w)).push { cls := .type "list_iterator", data := .fields #[.ref l, .int 0 0] }).get? s.heap.objs.size = some (emptySet w) := Heap.get?_push_of_some _ atS
          exact ⟨0, Nat.le_refl 0, setR_new_at g⟩
        case f =>
          intro s' c mv cl R
          obtain ⟨h', g2, d', n', os'⟩ := s'
          have q1 : g2 = s.gens := mv.gens
          have q2 : d' = s.drawn := mv.drawn
          have q3 : os' = s.os := mv.os
          subst q1; subst q2; subst q3
          show wpAny _ _ _ _ _ _
          refine wpAny_pure ?_
          show wpAny _ _ (ret Value.none) _ _ _
          rw [sz] at cl
          refine wpAny_pure ⟨rfl, h', n', c, rfl, R, cl, fun b o e => ?_⟩
          have b0 : b < s.heap.objs.size := Heap.lt_size e
          refine mv.heap b o ?_ (Heap.get?_push_of_some _ (Heap.get?_push_of_some _ e))
          rw [z1]
          simp only [List.mem_cons, List.not_mem_nil, or_false, not_or]
          exact ⟨Nat.ne_of_lt b0, Nat.ne_of_lt (Nat.lt_succ_of_lt b0)⟩
      · cases r2 with
        | error e => exact hr2
        | ok f2 =>
          cases f2 with
          | ret r =>
            obtain ⟨rfl, h', n, c, rfl, R, cl, kp⟩ := hr2
            repeat (any_goals (first | assumption | wp_step))
            exact fin _ _ _ R cl kp
          | _ => exact hr2.elim
    | _ => exact hr.elim
end
end TSF

set_option linter.all false
set_option maxRecDepth 100000
set_option maxHeartbeats 1000000
namespace Ml
open L2
open PySem (Addr Str sizeLine)
theorem dedupZ_mem {x : Int} : ∀ {l : List Int}, x ∈ dedupZ l ↔ x ∈ l
  | [] => Iff.rfl
  | a :: l => by
    unfold dedupZ
    split
    · rename_i h
      rw [dedupZ_mem, List.mem_cons]
      exact ⟨.inr, fun z => z.elim (fun e => e ▸ h) id⟩
    · rw [List.mem_cons, List.mem_cons, dedupZ_mem]
theorem dedupZ_nd : ∀ {l : List Int}, (dedupZ l).Nodup
  | [] => List.nodup_nil
  | a :: l => by
    unfold dedupZ
    split
    · exact dedupZ_nd
    · rename_i h
      exact List.nodup_cons.mpr ⟨fun z => h (dedupZ_mem.mp z), dedupZ_nd⟩
theorem insZ_perm (x : Int) : ∀ l : List Int, (insZ x l).Perm (x :: l)
  | [] => List.Perm.refl _
  | y :: r => by
    unfold insZ
    split
    · exact ((insZ_perm x r).cons y).trans (List.Perm.swap x y r)
    · exact List.Perm.refl _
theorem srtZ_perm : ∀ l : List Int, (srtZ l).Perm l
  | [] => List.Perm.refl _
  | x :: r => (insZ_perm x (srtZ r)).trans ((srtZ_perm r).cons x)
theorem insZ_lt {x : Int} : ∀ {l : List Int}, l.Pairwise (· < ·) → x ∉ l → (insZ x l).Pairwise (· < ·)
  | [], _, _ => by simp [insZ]
  | y :: r, h, hn => by
    obtain ⟨h1, h2⟩ := List.pairwise_cons.mp h
    simp only [List.mem_cons, not_or] at hn
    unfold insZ
    split
    · rename_i hy
      refine List.pairwise_cons.mpr ⟨fun z hz => ?_, insZ_lt h2 hn.2⟩
      rcases List.mem_cons.mp ((insZ_perm x r).mem_iff.mp hz) with rfl | hz
      · exact hy
      · exact h1 z hz
    · rename_i hy
      refine List.pairwise_cons.mpr ⟨fun z hz => ?_, h⟩
      rcases List.mem_cons.mp hz with rfl | hz
      · omega
      · have := h1 z hz; omega
theorem srtZ_lt : ∀ {l : List Int}, l.Nodup → (srtZ l).Pairwise (· < ·)
  | [], _ => by simp [srtZ]
  | x :: r, h => by
    obtain ⟨h1, h2⟩ := List.nodup_cons.mp h
    exact insZ_lt (srtZ_lt h2) fun z => h1 ((srtZ_perm r).mem_iff.mp z)
theorem lt_ext {a b : List Int} (h1 : a.Pairwise (· < ·)) (h2 : b.Pairwise (· < ·)) (h : ∀ x, x ∈ a ↔ x ∈ b) : a = b := by
  have n1 : a.Nodup := h1.imp fun h => Int.ne_of_lt h
  have n2 : b.Nodup := h2.imp fun h => Int.ne_of_lt h
  exact List.Perm.eq_of_pairwise (fun x y _ _ p q => by omega) h1 h2 ((List.perm_ext_iff_of_nodup n1 n2).mpr h)
section
open PySem PySem.Spec PyProof.Rows
variable {X : Cx} {P : Program} {w0 : World} {K : PySem.W.Frag} {k : Nat}
def rSetOfI (K : PySem.W.Frag) (w : World) : List V → Hp → VK → Prop := fun xs H Q => ∃ (l : Addr) (ns : List Int), xs = [V.ref l] ∧ SqL K H l (ns.map V.int) ∧ ns.length < 64 ∧
  ∀ (a : Addr) (S : Int → Bool) (n : Nat), H a = none → (∀ j, S j = true ↔ j ∈ ns) → n = (dedupZ ns).length → Q (.ref a) (upd H a (SetO w a S n))
theorem setR_len {w : World} {h : Heap} {a : Addr} {ns : List Int} {c : Nat} (R : SetR w h a (fun j => decide (j ∈ ns)) c) : c = (dedupZ ns).length := by
  obtain ⟨o, es, ep, t, _, _, _, _, nd, mem, _, _, hc, _⟩ := R
  have hm : ∀ x, x ∈ es.toList.map keyOf ↔ x ∈ dedupZ ns := fun x => by rw [← mem x, dedupZ_mem]; simp
  have := ((List.perm_ext_iff_of_nodup nd dedupZ_nd).mpr hm).length_eq
  rw [← hc, ← this, List.length_map, Array.length_toList]
theorem cr_setOfI (hc : X.calm = true) : CallR X (.type "set") (rSetOfI X.K X.w) := by
  intro pins s σ H xs us Q I r ⟨l, ns, e, hl, few, q⟩
  subst e
  rw [Vals.ref1 r]
  obtain ⟨its, rv, pl, hz⟩ := I.list hl
  have hn : H s.heap.objs.size = none := I.hok.fresh (Nat.le_refl _)
  refine TSF.set_of_lsI (P := X.prog) (w := X.w) ns (I.ok.hd hc) pl.isList (by simpa using rv.ints) (by unfold scanBound; omega) fun h' tk c R cl kp => ?_
  exact ⟨.ref s.heap.objs.size, upd H s.heap.objs.size (SetO X.w s.heap.objs.size (fun j => decide (j ∈ ns)) c), I.laid (t' := tk) kp (Nat.le_refl _) (setO_new R), rfl, q _ _ c hn (fun j => by simp) (setR_len R)⟩
def rLenI (w : World) : List V → Hp → VK → Prop := fun vs H Q => ∃ (a : Addr) (S : Int → Bool) (n : Nat), vs = [V.ref a] ∧ H a = some (SetO w a S n) ∧ n < 1000 ∧ Q (.int n) H
theorem cr_lenI : CallR X (.builtin "len") (rLenI X.w) := by
  intro pins s σ H vs us Q I r ⟨a, S, n, e, ha, hb, q⟩
  subst e
  rw [Vals.ref1 r]
  obtain ⟨o, es, ep, t, ho, hex, hd, _, _, _, _, hf, hn, _⟩ := setO_get I ha
  exact call_len_set ho hex hd hf (by rw [hn] <;> omega) ⟨.int n, H, I.tok _, ⟨_, by rw [hn]⟩, q⟩
def rSetOfA (K : PySem.W.Frag) (P : Program) (w : World) : List V → Hp → VK → Prop := fun xs H Q => rSetOfI K w xs H Q ∨ rSetOfT K P w xs H Q
def rSortA (K : PySem.W.Frag) (P : Program) (w : World) : List V → Hp → VK → Prop := fun vs H Q => rSortedSet w vs H Q ∨ rSortNS K P w vs H Q
theorem setOfAK (hc : X.calm = true) (hK : X.K = K) (hP : X.prog = P) (hw : X.w = w0) (hr : L2.Room k X.A) : CallR X (.type "set") (rSetOfA K P w0) := by
  subst hK; subst hP; subst hw
  have := hr.un
  intro pins s σ H xs us Q I r h
  rcases h with h | h
  · exact cr_setOfI hc pins s σ H xs us Q I r h
  · exact cr_setOfT hc (by omega) pins s σ H xs us Q I r h
theorem setOfIK (hc : X.calm = true) (hK : X.K = K) (hw : X.w = w0) : CallR X (.type "set") (rSetOfI K w0) := by subst hK; subst hw; exact cr_setOfI hc
theorem sortAK (hc : X.calm = true) (hK : X.K = K) (hP : X.prog = P) (hw : X.w = w0) : CallR X (.builtin "sorted") (rSortA K P w0) := by
  subst hK; subst hP; subst hw
  intro pins s σ H xs us Q I r h
  rcases h with h | h
  · exact cr_sortedSet hc pins s σ H xs us Q I r h
  · exact cr_sortNS hc pins s σ H xs us Q I r h
theorem lenIK (hw : X.w = w0) : CallR X (.builtin "len") (rLenI w0) := by subst hw; exact cr_lenI
end
section
variable {C : Cc} {P : PySem.Program} {w0 : PySem.World} {K : PySem.W.Frag} {te : TE} {me : ME Dv}
theorem intsOf_rep {Hs : Hp} : ∀ {ds : List Dv} {ns : List Int} {xs : List V}, intsOf ds = some ns → Reps C.K C.sc Hs ds xs → xs = ns.map V.int
  | [], ns, xs, h, r => by cases h; simp only [Reps] at r; rw [r]; rfl
  | d :: ds, ns, xs, h, r => by
    simp only [Reps] at r
    obtain ⟨v, q, rfl, r1, r2⟩ := r
    cases d with
    | int i =>
      simp only [intsOf] at h
      obtain ⟨ms, hm, rfl⟩ := Option.map_eq_some_iff.mp h
      simp only [Rep] at r1
      rw [r1, intsOf_rep hm r2]; rfl
    | _ => cases h
theorem se_lenSet (hK : C.K = K) (hw : C.sc.w = w0) (h : SE C te me) : SE C (tCB (rLenI w0) (tCons (tCB (rSetOfI K w0) (tCons te tNil)) tNil)) (mO1 oSetLenL me) := fun Z Hs e σ H k Q w =>
  h Z Hs e σ H k _ (we_bind (fun a e1 x Hs1 H1 p1 k1 r1 w1 => by
    subst hK; subst hw
    obtain ⟨c, hc, w2⟩ := we_of w1
    unfold oSetLenL at hc
    split at hc
    · rename_i ds
      split at hc
      · rename_i ns hns
        split at hc
        · rename_i hl
          cases hc
          simp only [rD, Rep] at r1
          obtain ⟨l, xs, rfl, hx, rx⟩ := r1
          have ex := intsOf_rep hns rx
          subst ex
          refine ⟨l, ns, rfl, SqL.of (k1.le _ _ hx), hl, fun a S n ha _ hn => ?_⟩
          have k2 := k1.newO (o := SetO C.sc.w a S n) ha
          have hle : (dedupZ ns).length ≤ ns.length := by
            have : ∀ l : List Int, (dedupZ l).length ≤ l.length := by
              intro l
              induction l with
              | nil => simp [dedupZ]
              | cons x r ih => unfold dedupZ; split <;> simp <;> omega
            exact this ns
          refine ⟨a, S, n, rfl, upd_same, by omega, ?_⟩
          subst hn
          exact we_ok (we_mono Post.newO w2) k2 (by simp only [rD, Rep])
        · cases hc
      · cases hc
    · cases hc) w)
theorem reps_intsD {Hs : Hp} : ∀ {l : List Int}, Reps C.K C.sc Hs (l.map Dv.int) (l.map V.int)
  | [] => reps_nil
  | i :: l => reps_cons (by simp only [Rep]) reps_intsD
theorem seo_sortSetA (hK : C.K = K) (hP : C.sc.P = P) (hw : C.sc.w = w0) (h : SE C te me) : SEO C (tCB (rSortA K P w0) (tCons (tCB (rSetOfA K P w0) (tCons te tNil)) tNil)) (mN1 oSortSetA me) := fun Z Hs e σ H k Q w =>
  h Z Hs e σ H k _ (we_bind (fun a e1 x Hs1 H1 p1 k1 r1 w1 => by
    subst hK; subst hP; subst hw
    obtain ⟨o, ho, w2⟩ := we_of w1
    obtain ⟨c, hc, rfl⟩ := Option.map_eq_some_iff.mp ho
    unfold oSortSetA at hc
    split at hc
    · rename_i ds
      unfold sortSetA at hc
      split at hc
      · rename_i ns hns
        split at hc
        · rename_i hl
          cases hc
          simp only [rD, Rep] at r1
          obtain ⟨l, xs, rfl, hx, rx⟩ := r1
          have ex := intsOf_rep hns rx
          subst ex
          refine .inl ⟨l, ns, rfl, SqL.of (k1.le _ _ hx), hl, fun a S n ha hS hn => .inl ?_⟩
          have k2 := k1.newO (o := SetO C.sc.w a S n) ha
          have hle : (dedupZ ns).length ≤ ns.length := by
            have : ∀ l : List Int, (dedupZ l).length ≤ l.length := by
              intro l
              induction l with
              | nil => simp [dedupZ]
              | cons x r ih => unfold dedupZ; split <;> simp <;> omega
            exact this ns
          refine ⟨a, S, n, rfl, upd_same, by omega, fun ms p hp hm _ np => ?_⟩
          refine we_newO (we_mono Post.newO w2) k2 np ?_
          have : ms = srtZ (dedupZ ns) := lt_ext hp (srtZ_lt dedupZ_nd) fun x => by
            rw [hm, hS, (srtZ_perm _).mem_iff, dedupZ_mem]
          rw [this]
          exact reps_intsD
        · cases hc
      · unfold sortSet at hc
        split at hc
        · rename_i ks hk
          split at hc
          · rename_i hl
            cases hc
            simp only [rD, Rep] at r1
            obtain ⟨l, xs, rfl, hx, rx⟩ := r1
            obtain ⟨T, rfl, eT, hT⟩ := keysI_ok hk rx
            have lT : T.length < 64 := by rw [← eT, List.length_map] at hl; exact hl
            exact .inr ⟨l, T, rfl, SqL.of (k1.le _ _ hx), fun p hp => sqt_le k1.le (hT p hp).2.sq, lT, fun a L ha sub cov => .inr (sortSet_core k1 hT eT w2 ha sub cov)⟩
          · cases hc
        · cases hc
    · cases hc) w)
end
end Ml

set_option linter.all false
set_option maxRecDepth 100000
set_option maxHeartbeats 1000000
/-! reversed(xs), walked. -/
namespace Ml
open L2 RT
open PySem (Addr Str sizeLine)
section
variable {C : Cc} {te : TE} {me : ME Dv}
theorem rev_get {α : Type} {l : List α} {k : Nat} {d : α} (h : l.reverse[k]? = some d) : l[l.length - 1 - k]? = some d := by
  have hk : k < l.length := by
    have := (List.getElem?_eq_some_iff.mp h).1
    simpa using this
  rw [List.getElem?_reverse hk] at h
  exact h
theorem iter_revT {Hs0 : Hp} {a : Addr} {xs : List V} {ds : List Dv} (h : SqT C.K Hs0 a xs) (r : Reps C.K C.sc Hs0 ds xs) : IterOk C (ItvT C.K a xs.length) Hs0 ds.reverse := iter_same fun k Z Hs1 e1 σ1 H1 k1 l => by
  have h1 : SqT C.K H1 a xs := sqt_le k1.le (sqt_le l h)
  have len := reps_len r
  refine ⟨fun d hd => ?_, fun hk => ?_⟩
  · have hk : k < ds.length := by
      have := (List.getElem?_eq_some_iff.mp hd).1
      simpa using this
    obtain ⟨v, e1, e2⟩ := reps_get r (rev_get hd)
    rw [← len] at e1
    refine ⟨⟨by omega, xs, v, h1, e1⟩, fun x H2 hy => ⟨hy.1, ?_⟩⟩
    have := hy.2 xs h1
    rw [e1] at this; cases this
    exact rep_le l e2
  · show xs.length ≤ k
    rw [List.length_reverse] at hk; omega
theorem iter_revL {Hs0 : Hp} {a : Addr} {xs : List V} {ds : List Dv} (h : Hs0 a = some (.lst xs)) (r : Reps C.K C.sc Hs0 ds xs) : IterOk C (Itv C.K a xs.length) Hs0 ds.reverse := iter_same fun k Z Hs1 e1 σ1 H1 k1 l => by
  have h1 : SqL C.K H1 a xs := SqL.of (k1.le _ _ (l _ _ h))
  have len := reps_len r
  refine ⟨fun d hd => ?_, fun hk => ?_⟩
  · have hk : k < ds.length := by
      have := (List.getElem?_eq_some_iff.mp hd).1
      simpa using this
    obtain ⟨v, e1, e2⟩ := reps_get r (rev_get hd)
    rw [← len] at e1
    refine ⟨⟨by omega, xs, v, h1, e1⟩, fun x H2 hy => ⟨hy.1, ?_⟩⟩
    have := hy.2 xs h1
    rw [e1] at this; cases this
    exact rep_le l e2
  · show xs.length ≤ k
    rw [List.length_reverse] at hk; omega
theorem si_rev {K : PySem.W.Frag} (hK : C.K = K) (h : SE C te me) : SI C (iRevA K te) (mIt itRev me) := fun Z Hs e σ H k R w =>
  h Z Hs e σ H k _ (we_bind (fun a e1 x Hs1 H1 _ k1 r1 w1 => by
    subst hK
    obtain ⟨ds, hd, w2⟩ := we_of w1
    cases a with
    | tup ds' =>
      cases hd
      simp only [rD, Rep] at r1
      obtain ⟨p, xs, rfl, hx, rx⟩ := r1
      exact ⟨p, xs, rfl, .inr ⟨sqt_le k1.le hx.sq, we_ok w2 k1 (iter_revT hx.sq rx)⟩⟩
    | lst ds' =>
      cases hd
      simp only [rD, Rep] at r1
      obtain ⟨p, xs, rfl, hx, rx⟩ := r1
      exact ⟨p, xs, rfl, .inl ⟨SqL.of (k1.le _ _ hx), we_ok w2 k1 (iter_revL hx rx)⟩⟩
    | _ => cases hd) w)
end
end Ml

set_option autoImplicit false
/-! Sets from lists that are longer than the sets. -/
namespace Ml
/-- len(set(xs)), xs ints -/
def oSetLenM : Dv → Option Dv
  | .lst ds => match intsOf ds with
    | some ns => if ns.length < 1000 then some (.int (dedupZ ns).length) else none
    | none => none
  | _ => none
/-- sorted(set(xs)), xs ints or tuples of ints -/
def sortSetB (ds : List Dv) : Option (List Dv) := match intsOf ds with
  | some ns => if ns.length < 1000 ∧ (dedupZ ns).length < 64 then some ((srtZ (dedupZ ns)).map .int) else none
  | none => match keysI ds with
    | some ks => if ks.length < 64 ∨ (dedupL ks).length < 63 then some ((srtL (dedupL ks)).map tupOf) else none
    | none => none
def oSortSetB : Dv → Option (List Dv)
  | .lst ds => sortSetB ds
  | _ => none
end Ml

set_option linter.all false
set_option Elab.async false
set_option maxRecDepth 100000
set_option maxHeartbeats 4000000
/-! set of a long list of tuples of ints with few kinds of them. -/
namespace TSF
open L2 PySem PySem.Spec PyProof.Rows Ml
theorem nd_len {α : Type} [DecidableEq α] : ∀ {a b : List α}, a.Nodup → (∀ x ∈ a, x ∈ b) → a.length ≤ b.length
  | [], _, _, _ => Nat.zero_le _
  | x :: a, b, n, h => by
    obtain ⟨h1, h2⟩ := List.nodup_cons.mp n
    have hx := h x List.mem_cons_self
    have := nd_len (b := b.erase x) h2 fun y hy => (List.mem_erase_of_ne (fun q : y = x => h1 (by rw [← q]; exact hy))).mpr (h y (List.mem_cons_of_mem _ hy))
    rw [List.length_erase_of_mem hx] at this
    have := List.length_pos_of_mem hx
    simp only [List.length_cons]; omega
section
variable {P : Program} {w : World} {A : Around} {E : Value → Shared → Prop} {s : Shared}
/-- how many a set has while it gets a list's items -/
def Few (ks : List (Addr × List Int)) : Prop := ks.length < 64 ∨ (dedupL (ks.map (·.2))).length < 63
theorem few_at {ks L : List (Addr × List Int)} {i : Nat} (f : Few ks) (g : Got ks i L) (hi : i < ks.length) (nd : (L.map (·.2)).Nodup) : L.length + 1 < 64 := by
  rcases f with f | f
  · have := g.len; omega
  · have := nd_len (b := dedupL (ks.map (·.2))) nd fun x hx => by
      obtain ⟨p, hp, rfl⟩ := List.mem_map.mp hx
      exact dedupL_mem.mpr (List.mem_map.mpr ⟨p, List.mem_of_mem_take (g.sub p hp), rfl⟩)
    rw [List.length_map] at this
    omega
theorem up_few {I : Addr} {fp wr : List Addr} {G : Array GenState → Array GenState → Prop} {n : Nat} {Pv : Nat → Value → Prop} {St : Nat → Shared → Prop} {R : Result → Shared → Prop}
    (W : WalksS P w A.in1 I fp wr G n Pv St) (S : Addr) (nS : S ∉ fp) (ks : List (Addr × List Int)) (hn : n = ks.length) (few : Few ks) (vals : ∀ i v, Pv i v → ∃ p, ks[i]? = some p ∧ v = .ref p.1)
    (h0 : Heap) (tk : ∀ p ∈ ks, IsT P w h0 p.2 p.1) (S0 : h0.get? S = none) (w0 : ∀ b ∈ wr, h0.get? b = none) (hu : A.in1.units < cLine) :
    ∀ (k i : Nat) (s : Shared), n - i = k → i ≤ n → St i s → (∀ b o, h0.get? b = some o → s.heap.get? b = some o) → (∃ L es ep t, SetTR P w s.heap S L es ep t ∧ Got ks i L) →
      (∀ s' L es ep t, Moved (S :: wr) G s s' → SetTR P w s'.heap S L es ep t → Got ks n L → (∀ b o, h0.get? b = some o → s'.heap.get? b = some o) → R (.ok (.ret .none)) s') →
      codeAny (model P w) A (.builtin "set.update.loop" ⟨[.ref S, .ref I], []⟩) R s := by
  have nSw : S ∉ wr := fun h => nS (W.sub _ h)
  have inc : ∀ b ∈ wr, b ∈ S :: wr := fun b hb => List.mem_cons_of_mem _ hb
  have kp : ∀ {s s' : Shared}, Moved wr G s s' → (∀ b o, h0.get? b = some o → s.heap.get? b = some o) → ∀ b o, h0.get? b = some o → s'.heap.get? b = some o := fun mv h b o e =>
    mv.heap b o (fun hb => by rw [w0 b hb] at e; cases e) (h b o e)
  intro k
  induction k with
  | zero =>
    intro i s hk hi st old ⟨L, es, ep, t, R0, g⟩ fin
    have e : i = n := by omega
    subst e
    refine codeAny_builtin F.entry_set_update_loop ?_
    rw [Around.under_plainId F.plain_set_update_loop _]
    show wpAny _ A.in1 (pyNext (.ref I) >>= _) _ _ s
    refine wpAny_bind (W.done s _ _ st fun s' mv => ?_)
    show wpAny _ A.in1 (ret Value.none) _ _ s'
    have old' := kp mv old
    exact wpAny_pure (fin s' L es ep t (mv.mono inc) (R0.keep (fun o e => mv.heap S o nSw e) fun p hp => isT_keep (tk p (List.mem_of_mem_take (g.sub p hp))) old') g old')
  | succ k ih =>
    intro i s hk hi st old ⟨L, es, ep, t, R0, g⟩ fin
    have lt : i < n := by omega
    refine codeAny_builtin F.entry_set_update_loop ?_
    rw [Around.under_plainId F.plain_set_update_loop _]
    show wpAny _ A.in1 (pyNext (.ref I) >>= _) _ _ s
    refine wpAny_bind (W.item i s _ _ lt st fun v s' hP st' mv => ?_)
    obtain ⟨p, hp, rfl⟩ := vals i v hP
    have old' := kp mv old
    have R1 : SetTR P w s'.heap S L es ep t := R0.keep (fun o e => mv.heap S o nSw e) fun q hq => isT_keep (tk q (List.mem_of_mem_take (g.sub q hq))) old'
    have tp : IsT P w s'.heap p.2 p.1 := isT_keep (tk p (List.mem_of_getElem? hp)) old'
    show wpAny _ A.in1 (holding [Value.ref p.1] (setAdd S (.ref p.1)) >>= _) _ _ s'
    refine wpAny_bind (wpAny_holding ?_)
    unfold setAdd
    refine wpAny_holding ?_
    refine wpAny_bind (wpAny_pyHash_tuple hu tp ?_)
    refine add_at (s := { s' with toks := s'.toks + (p.2.length + 1) }) R1 tp hu (few_at few g (by omega) R0.nd) fun b h' L' es' ep' t' sb R2 c1 c2 => ?_
    have g' : Got ks (i + 1) L' := by
      by_cases c : p.2 ∈ L.map (·.2)
      · rw [c1 c]; exact g.same hp c
      · exact g.more hp (c2 c)
    have old2 : ∀ b o, h0.get? b = some o → h'.get? b = some o := fun b o e => (sb.2 b (fun z => by rw [z, S0] at e; cases e)).trans (old' b o e)
    refine wpAny_pure ⟨plainId_quiet F.plain_set_update_loop _, ih (i + 1) _ (by omega) lt (W.frame _ s' _ _ st' (Nat.le_add_right _ _) fun b hb o e => ?_) old2 ⟨L', es', ep', t', R2, g'⟩ fun s'' L2 es2 ep2 t2 mv2 R3 g2 old3 => ?_⟩
    · rw [sb.2 b (fun h : b = S => nS (by rw [← h]; exact hb))]; exact e
    · refine fin s'' L2 es2 ep2 t2 (Moved.trans W.gtrans ((mv.mono inc).then_heap (Nat.le_add_right _ _) fun b o hb e => ?_) mv2) R3 g2 old3
      rw [sb.2 b (fun h : b = S => hb (by rw [h]; exact List.mem_cons_self))]; exact e
theorem set_of_lsT {l : Addr} {items : Array Value} (ks : List (Addr × List Int)) {Q : Value → Shared → Prop} (hand : A.handled = none) (ht : s.heap.IsList l items) (hi : items.toList = ks.map fun p => Value.ref p.1)
    (tk : ∀ p ∈ ks, IsT P w s.heap p.2 p.1) (few : Few ks) (hu : A.units + 3 < cLine)
    (fin : ∀ (h' : Heap) (n : Nat) L es ep t, SetTR P w h' s.heap.objs.size L es ep t → Got ks ks.length L → (∀ b o, s.heap.get? b = some o → h'.get? b = some o) → Q (.ref s.heap.objs.size) { s with heap := h', toks := n }) :
    wpAny (model P w) A (call (.type "set") [.ref l]) Q E s := by
  have sz : items.size = ks.length := by
    have q := congrArg List.length hi
    rwa [Array.length_toList, List.length_map] at q
  obtain ⟨c, tl, m1⟩ := F.called_set.mro
  have m2 := F.called_set.made
  have m3 := F.called_set.sub
  refine wpAny_call (codeAny_of_tree ?_)
  show wpAny _ _ (callAny (.type "set") _) _ _ _
  refine wpAny_pure ⟨Code.quiet_builtin _ (by decide +kernel), codeAny_builtin F.entry_type_call ?_⟩
  rw [Around.under_plain (weight_type_call_type "set" [.ref l] []) rfl]
  have m4 := F.called_set.notType
  have m5 := F.called_set.canCreate
  have m6 := F.typeCall_set_1 (.ref l)
  repeat (any_goals (first | assumption | wp_step))
  refine codeAny_mono (code_set_led1 (.ref l) (E := E) (Q₁ := fun ob s1 => ob = .ref s.heap.objs.size ∧ s1 = { s with heap := s.heap.push (emptySet w) }) ⟨rfl, rfl⟩) fun r s1 hr => ?_
  cases r with
  | error e => exact hr
  | ok fl =>
    cases fl with
    | ret ob =>
      obtain ⟨rfl, rfl⟩ := hr
      have atS : (s.heap.push (emptySet w)).get? s.heap.objs.size = some (emptySet w) := Heap.get?_push_size _ rfl
      have tyS : Shared.TypeIs { s with heap := s.heap.push (emptySet w) } (.ref s.heap.objs.size) "set" := ⟨_, atS, rfl⟩
      have m7 := F.called_set.init.lookup
      have m8 := F.called_set.init.bind (.ref s.heap.objs.size)
      repeat (any_goals (first | assumption | wp_step))
      refine codeAny_mono (codeAny_call_builtin (R := wants (fun r s2 => r = .none ∧ ∃ h' n L es ep t, s2 = { s with heap := h', toks := n } ∧ SetTR P w h' s.heap.objs.size L es ep t ∧ Got ks ks.length L ∧ (∀ b o, s.heap.get? b = some o → h'.get? b = some o)) E)
        F.called_set.init.plain F.entry_set_init (check_set_init_1 tyS ?_)) fun r2 s2 hr2 => ?_
      · obtain ⟨o, ho, hc, nl, hd⟩ := ht
        obtain ⟨cl, dc, da, sl⟩ := o
        simp only at hc hd
        subst hc; subst hd
        have ho' : (s.heap.push (emptySet w)).get? l = some { cls := .type "list", dict := dc, data := .seq items nl, slots := sl } := Heap.get?_push_of_some _ ho
        have m9 := F.sub_list_set
        have m10 := F.sub_list_frozenset
        have m11 : (Value.type "list" == Value.type "dict") = false := by decide
        have ls1 : (s.heap.push (emptySet w)).IsList l items := ⟨_, ho', rfl, nl, rfl⟩
        unfold Builtin.«set.__init__» noKeywords Builtin.Frozenset.updateFrom
        generalize pI : pyIter = PI
        wp_walk
        subst pI
        refine wpAny_pyIter_list ls1 ?_
        refine wpAny_bind (wpAny_runValue ?_)
        have lt : l < s.heap.objs.size := Heap.lt_size ho
        have h3 : A.in1.in1.in1.handled = none := by simp [hand]
        have z1 : (s.heap.push (emptySet w)).objs.size = s.heap.objs.size + 1 := Heap.size_push ..
        have ne1 : l ≠ (s.heap.push (emptySet w)).objs.size := by rw [z1]; exact Nat.ne_of_lt (Nat.lt_succ_of_lt lt)
        have nin : s.heap.objs.size ∉ [(s.heap.push (emptySet w)).objs.size, l] := by
          rw [z1]; simp only [List.mem_cons, List.not_mem_nil, or_false, not_or]; exact ⟨Nat.ne_of_lt (Nat.lt_succ_self _), Nat.ne_of_gt lt⟩
        have vals : ∀ (i : Nat) (v : Value), items[i]? = some v → ∃ p, ks[i]? = some p ∧ v = .ref p.1 := fun i v hv => by
          have q : items.toList[i]? = some v := by rw [Array.getElem?_toList]; exact hv
          rw [hi, List.getElem?_map] at q
          obtain ⟨p, e1, e2⟩ := Option.map_eq_some_iff.mp q
          exact ⟨p, e1, e2.symm⟩
        have none_of : ∀ b, s.heap.objs.size ≤ b → s.heap.get? b = none := fun b hb => by
          cases q : s.heap.get? b with
          | none => rfl
          | some o => exact absurd (Nat.lt_of_lt_of_le (Heap.lt_size q) hb) (Nat.lt_irrefl _)
        refine up_few ((Walks.list h3 _ l ne1 items).toS) s.heap.objs.size nin ks sz few vals s.heap tk (none_of _ (Nat.le_refl _)) (fun b hb => none_of b (by
            rw [List.mem_singleton.mp hb, z1]
            exact Nat.le_succ _)) hu (items.size - 0) 0 _ (by omega) (Nat.zero_le _)
          ⟨⟨_, Heap.get?_push_size _ rfl, rfl, rfl⟩, (ls1.push _)⟩ (fun b o e => Heap.get?_push_of_some _ (Heap.get?_push_of_some _ e)) ?z ?f
        case z =>
          have g : ((s.heap.push (emptySet w)).push { cls := .type "list_iterator", data := .fields #[.ref l, .int 0 0] }).get? s.heap.objs.size = some (emptySet w) := Heap.get?_push_of_some _ atS
          exact ⟨[], #[], 0, _, setTR_fresh g, Got.zero ks⟩
        case f =>
          intro s' L es ep t mv R1 g1 old1
          obtain ⟨h', g2, d', n', os'⟩ := s'
          have q1 : g2 = s.gens := mv.gens
          have q2 : d' = s.drawn := mv.drawn
          have q3 : os' = s.os := mv.os
          subst q1; subst q2; subst q3
          show wpAny _ _ _ _ _ _
          refine wpAny_pure ?_
          show wpAny _ _ (ret Value.none) _ _ _
          rw [sz] at g1
          exact wpAny_pure ⟨rfl, h', n', L, es, ep, t, rfl, R1, g1, old1⟩
      · cases r2 with
        | error e => exact hr2
        | ok f2 =>
          cases f2 with
          | ret r =>
            obtain ⟨rfl, h', n, L, es, ep, t, rfl, R1, g1, old1⟩ := hr2
            repeat (any_goals (first | assumption | wp_step))
            exact fin _ _ _ _ _ _ R1 g1 old1
          | _ => exact hr2.elim
    | _ => exact hr.elim
end
end TSF

set_option linter.all false
set_option maxRecDepth 100000
set_option maxHeartbeats 1000000
/-! len(set(xs)), sorted(set(xs)), xs longer than the set. -/
namespace Ml
open L2
open PySem (Addr Str sizeLine)
section
open PySem PySem.Spec PyProof.Rows
variable {X : Cx} {P : Program} {w0 : World} {K : PySem.W.Frag} {k : Nat}
def rSetOfJ (K : PySem.W.Frag) (w : World) : List V → Hp → VK → Prop := fun xs H Q => ∃ (l : Addr) (ns : List Int), xs = [V.ref l] ∧ SqL K H l (ns.map V.int) ∧ ns.length < 1000 ∧
  ∀ (a : Addr) (S : Int → Bool) (n : Nat), H a = none → (∀ j, S j = true ↔ j ∈ ns) → n = (dedupZ ns).length → Q (.ref a) (upd H a (SetO w a S n))
theorem cr_setOfJ (hc : X.calm = true) : CallR X (.type "set") (rSetOfJ X.K X.w) := by
  intro pins s σ H xs us Q I r ⟨l, ns, e, hl, few, q⟩
  subst e
  rw [Vals.ref1 r]
  obtain ⟨its, rv, pl, hz⟩ := I.list hl
  have hn : H s.heap.objs.size = none := I.hok.fresh (Nat.le_refl _)
  refine TSF.set_of_lsI (P := X.prog) (w := X.w) ns (I.ok.hd hc) pl.isList (by simpa using rv.ints) (by unfold scanBound; omega) fun h' tk c R cl kp => ?_
  exact ⟨.ref s.heap.objs.size, upd H s.heap.objs.size (SetO X.w s.heap.objs.size (fun j => decide (j ∈ ns)) c), I.laid (t' := tk) kp (Nat.le_refl _) (setO_new R), rfl, q _ _ c hn (fun j => by simp) (setR_len R)⟩
def rSetOfU (K : PySem.W.Frag) (P : Program) (w : World) : List V → Hp → VK → Prop := fun xs H Q => ∃ (l : Addr) (ks : List (Addr × List Int)), xs = [V.ref l] ∧ SqL K H l (ks.map fun p => V.ref p.1) ∧ (∀ p ∈ ks, SqT K H p.1 (p.2.map V.int)) ∧ TSF.Few ks ∧
  ∀ a L, H a = none → (∀ p ∈ L, p ∈ ks) → (∀ p ∈ ks, p.2 ∈ L.map (·.2)) → Q (.ref a) (upd H a (SetTO P w a L))
theorem cr_setOfU (hc : X.calm = true) (hu : X.A.units + 64 < cLine) : CallR X (.type "set") (rSetOfU X.K X.prog X.w) := by
  intro pins s σ H xs us Q I r ⟨l, ks, e, hl, tk, few, q⟩
  subst e
  rw [Vals.ref1 r]
  obtain ⟨its, rv, pl, hz⟩ := I.list hl
  have hn : H s.heap.objs.size = none := I.hok.fresh (Nat.le_refl _)
  refine TSF.set_of_lsT (P := X.prog) (w := X.w) ks (I.ok.hd hc) pl.isList (by simpa using refs_of_vals rv) (fun p hp => I.isT (tk p hp)) few (by omega) fun h' n L es ep t R g kp => ?_
  exact ⟨.ref s.heap.objs.size, upd H s.heap.objs.size (SetTO X.prog X.w s.heap.objs.size L), I.laid (t' := n) kp (Nat.le_refl _) (setTO_new R.t0), rfl, q _ L hn (fun p hp => List.mem_of_mem_take (g.sub p hp)) fun p hp => g.all p (by rw [List.take_length]; exact hp)⟩
def rSetOfB (K : PySem.W.Frag) (P : Program) (w : World) : List V → Hp → VK → Prop := fun xs H Q => rSetOfJ K w xs H Q ∨ rSetOfU K P w xs H Q
theorem setOfBK (hc : X.calm = true) (hK : X.K = K) (hP : X.prog = P) (hw : X.w = w0) (hr : L2.Room k X.A) : CallR X (.type "set") (rSetOfB K P w0) := by
  subst hK; subst hP; subst hw
  have := hr.un
  intro pins s σ H xs us Q I r h
  rcases h with h | h
  · exact cr_setOfJ hc pins s σ H xs us Q I r h
  · exact cr_setOfU hc (by omega) pins s σ H xs us Q I r h
theorem setOfJK (hc : X.calm = true) (hK : X.K = K) (hw : X.w = w0) : CallR X (.type "set") (rSetOfJ K w0) := by subst hK; subst hw; exact cr_setOfJ hc
end
section
variable {C : Cc} {P : PySem.Program} {w0 : PySem.World} {K : PySem.W.Frag} {te : TE} {me : ME Dv}
theorem dedupZ_le : ∀ l : List Int, (dedupZ l).length ≤ l.length
  | [] => Nat.le_refl _
  | x :: r => by have := dedupZ_le r; unfold dedupZ; split <;> simp <;> omega
theorem se_lenSetM (hK : C.K = K) (hw : C.sc.w = w0) (h : SE C te me) : SE C (tCB (rLenI w0) (tCons (tCB (rSetOfJ K w0) (tCons te tNil)) tNil)) (mO1 oSetLenM me) := fun Z Hs e σ H k Q w =>
  h Z Hs e σ H k _ (we_bind (fun a e1 x Hs1 H1 p1 k1 r1 w1 => by
    subst hK; subst hw
    obtain ⟨c, hc, w2⟩ := we_of w1
    unfold oSetLenM at hc
    split at hc
    · rename_i ds
      split at hc
      · rename_i ns hns
        split at hc
        · rename_i hl
          cases hc
          simp only [rD, Rep] at r1
          obtain ⟨l, xs, rfl, hx, rx⟩ := r1
          have ex := intsOf_rep hns rx
          subst ex
          refine ⟨l, ns, rfl, SqL.of (k1.le _ _ hx), hl, fun a S n ha _ hn => ?_⟩
          have k2 := k1.newO (o := SetO C.sc.w a S n) ha
          have hle := dedupZ_le ns
          refine ⟨a, S, n, rfl, upd_same, by omega, ?_⟩
          subst hn
          exact we_ok (we_mono Post.newO w2) k2 (by simp only [rD, Rep])
        · cases hc
      · cases hc
    · cases hc) w)
theorem seo_sortSetB (hK : C.K = K) (hP : C.sc.P = P) (hw : C.sc.w = w0) (h : SE C te me) : SEO C (tCB (rSortA K P w0) (tCons (tCB (rSetOfB K P w0) (tCons te tNil)) tNil)) (mN1 oSortSetB me) := fun Z Hs e σ H k Q w =>
  h Z Hs e σ H k _ (we_bind (fun a e1 x Hs1 H1 p1 k1 r1 w1 => by
    subst hK; subst hP; subst hw
    obtain ⟨o, ho, w2⟩ := we_of w1
    obtain ⟨c, hc, rfl⟩ := Option.map_eq_some_iff.mp ho
    unfold oSortSetB at hc
    split at hc
    · rename_i ds
      unfold sortSetB at hc
      split at hc
      · rename_i ns hns
        split at hc
        · rename_i hl
          cases hc
          simp only [rD, Rep] at r1
          obtain ⟨l, xs, rfl, hx, rx⟩ := r1
          have ex := intsOf_rep hns rx
          subst ex
          refine .inl ⟨l, ns, rfl, SqL.of (k1.le _ _ hx), hl.1, fun a S n ha hS hn => .inl ?_⟩
          have k2 := k1.newO (o := SetO C.sc.w a S n) ha
          have hl2 := hl.2
          refine ⟨a, S, n, rfl, upd_same, by omega, fun ms p hp hm _ np => ?_⟩
          refine we_newO (we_mono Post.newO w2) k2 np ?_
          have : ms = srtZ (dedupZ ns) := lt_ext hp (srtZ_lt dedupZ_nd) fun x => by
            rw [hm, hS, (srtZ_perm _).mem_iff, dedupZ_mem]
          rw [this]
          exact reps_intsD
        · cases hc
      · split at hc
        · rename_i ks hk
          split at hc
          · rename_i hl
            cases hc
            simp only [rD, Rep] at r1
            obtain ⟨l, xs, rfl, hx, rx⟩ := r1
            obtain ⟨T, rfl, eT, hT⟩ := keysI_ok hk rx
            have fT : TSF.Few T := by
              unfold TSF.Few
              rw [eT]
              have : T.length = ks.length := by rw [← eT, List.length_map]
              omega
            exact .inr ⟨l, T, rfl, SqL.of (k1.le _ _ hx), fun p hp => sqt_le k1.le (hT p hp).2.sq, fT, fun a L ha sub cov => .inr (sortSet_core k1 hT eT w2 ha sub cov)⟩
          · cases hc
        · cases hc
    · cases hc) w)
end
end Ml

set_option autoImplicit false
/-! Rows of two lists each, filled along a row of triples. -/
namespace Ml
abbrev Rw := List (List Int × List Int)
def rowD (p : List Int × List Int) : Dv := .lst [.lst (p.1.map .int), .lst (p.2.map .int)]
def rowsGo (a b c : Nat) : List Dv → Rw → Loc → Option (Rw × Loc)
  | [], R, e => some (R, e)
  | d :: ds, R, e => match gT [gN a, gN b, gN c] d e with
    | none => none
    | some e => match e[a]?, e[b]?, e[c]? with
      | some (.fz (.int x)), some (.fz (.int l)), some (.fz (.int y)) =>
        if 0 ≤ l then match R[l.toNat]? with
          | some p => if p.1.length < lim ∧ p.2.length < lim then rowsGo a b c ds (R.set l.toNat (p.1 ++ [x], p.2 ++ [y])) e else none
          | none => none
        else none
      | _, _, _ => none
/-- rows = [[[], []] for ..]; for a, b, c in ..: rows[b][0].append(a); rows[b][1].append(c) -/
def sRows (i a b c : Nat) (mi mj : ME (List Dv)) : MS := fun e => (mi e).go fun ds e =>
  if ds.length < lim ∧ i < e.length then (mj (e.set i .un)).go fun gs e => match rowsGo a b c gs (List.replicate ds.length ([], [])) e with
    | some (R, e) => .nx (e.set i (.fz (.lst (R.map rowD))))
    | none => .ud
  else .ud
end Ml

set_option linter.all false
set_option maxRecDepth 100000
set_option maxHeartbeats 2000000
/-! Rows of two lists each, filled along a row of triples: the lists stand hidden while they are filled. -/
namespace Ml
open L2
open PySem (Addr Str sizeLine)
section
variable {C : Cc} {Z Z1 Hs H : Hp} {e : Loc} {σ : L2.St}
/-- what is hidden besides Z is laid -/
theorem StOk.freezeZ (k : StOk C Z1 Hs e σ H) (l : Le Z Z1) : ∃ Hs', Post Hs H Hs' H ∧ StOk C Z Hs' e σ H ∧ ∀ a o, Z1 a = some o → Z a = none → C.H0 a = none → Hs' a = some o := by
  classical
  let In : Addr → Prop := fun a => Z1 a ≠ none ∧ Z a = none ∧ C.H0 a = none
  let Hs' : Hp := fun a => if In a then Z1 a else Hs a
  have yes : ∀ a, In a → Hs' a = Z1 a := fun a h => if_pos h
  have no : ∀ a, ¬ In a → Hs' a = Hs a := fun a h => if_neg h
  have le' : Le Hs Hs' := fun a o h => by
    rw [no a fun z => by
      obtain ⟨u, hu⟩ := Option.ne_none_iff_exists'.mp z.1
      rw [(k.hid a u hu).2] at h; cases h]
    exact h
  refine ⟨Hs', ⟨le', fun _ h => h⟩, ⟨k.len, fun a o h => ?_, fun i s hs => ?_, k.sep, k.frame, k.dom, fun a h => ?_, k.par, fun a o h => ⟨(k.hid a o (l a o h)).1, ?_⟩, fun i j o p h1 h2 => le_none l (k.hids i j o p h1 h2)⟩, fun a o h1 h2 h3 => ?_⟩
  · by_cases c : In a
    · rw [yes a c] at h; exact (k.hid a o h).1
    · rw [no a c] at h; exact k.le a o h
  · have q := k.slot i s hs
    cases s with
    | un => trivial
    | fz d => obtain ⟨v, e1, r⟩ := q; exact ⟨v, e1, rep_le le' r⟩
    | ow j u =>
      obtain ⟨p, e1, e2, e3, e4⟩ := q
      refine ⟨p, e1, ?_, e3.mono le' rfl, e4⟩
      rw [no p fun z => z.1 (k.hids i j u p hs e1)]
      exact e2
  · by_cases c : In a
    · exact .inr c.2.2
    · rw [no a c] at h; exact k.news a h
  · rw [no a fun z => by rw [z.2.1] at h; cases h]
    exact (k.hid a o (l a o h)).2
  · rw [yes a ⟨by rw [h1]; exact fun z => (nomatch z), h2, h3⟩]; exact h1
theorem StOk.hput (k : StOk C Z1 Hs e σ H) {D : Addr} {o : HO} (h : Z1 D = some o) (h0 : C.H0 D = none) (o' : HO) : StOk C (upd Z1 D o') Hs e σ (upd H D o') := by
  have q : upd Z1 D o = Z1 := by
    funext b
    by_cases z : b = D
    · subst z; rw [upd_same, h]
    · rw [upd_ne z]
  rw [← q] at k
  exact k.hmut (o' := o') h0
/-- a new object is hidden -/
theorem StOk.hnew (k : StOk C Z1 Hs e σ H) {p : Addr} (h : H p = none) (o : HO) : StOk C (upd Z1 p o) Hs e σ (upd H p o) :=
  (k.newO h).hide upd_same (k.hs_none h) (k.fresh h)

structure At (C : Cc) (Z Z1 : Hp) (f : Addr → Nat × Nat) (a : Addr) (o : HO) (x : Nat × Nat) : Prop where
  at_ : Z1 a = some o
  f_ : f a = x
  h0 : C.H0 a = none
  z : Z a = none
theorem At.ne {f : Addr → Nat × Nat} {a b : Addr} {o u : HO} {x y : Nat × Nat} (h : At C Z Z1 f a o x) (h' : At C Z Z1 f b u y) (n : x ≠ y) : a ≠ b := fun z => n (by rw [← h.f_, ← h'.f_, z])
theorem At.upd {f : Addr → Nat × Nat} {a b : Addr} {o u : HO} {x : Nat × Nat} (h : At C Z Z1 f a o x) (n : a ≠ b) : At C Z (upd Z1 b u) f a o x := ⟨by rw [upd_ne n]; exact h.at_, h.f_, h.h0, h.z⟩
theorem At.same {f : Addr → Nat × Nat} {a : Addr} {o u : HO} {x : Nat × Nat} (h : At C Z Z1 f a o x) : At C Z (L2.upd Z1 a u) f a u x := ⟨upd_same, h.f_, h.h0, h.z⟩
theorem At.fn {f g : Addr → Nat × Nat} {a : Addr} {o : HO} {x : Nat × Nat} (h : At C Z Z1 f a o x) (e : g a = f a) : At C Z Z1 g a o x := ⟨h.at_, e.trans h.f_, h.h0, h.z⟩
structure RowAt (C : Cc) (Z Z1 : Hp) (f : Addr → Nat × Nat) (i : Nat) (t : Addr × Addr × Addr) (p : List Int × List Int) : Prop where
  q : At C Z Z1 f t.1 (.lst [.ref t.2.1, .ref t.2.2]) (i, 1)
  s : At C Z Z1 f t.2.1 (.lst (p.1.map .int)) (i, 2)
  t : At C Z Z1 f t.2.2 (.lst (p.2.map .int)) (i, 3)
structure Nst (C : Cc) (Z Z1 : Hp) (D : Addr) (f : Addr → Nat × Nat) (T : List (Addr × Addr × Addr)) (R : Rw) : Prop where
  le : Le Z Z1
  len : T.length = R.length
  top : At C Z Z1 f D (.lst (T.map fun t => .ref t.1)) (0, 0)
  row : ∀ (i : Nat) t p, T[i]? = some t → R[i]? = some p → RowAt C Z Z1 f i t p
theorem le_upd {a : Addr} {o : HO} (l : Le Z Z1) (h : Z a = none) : Le Z (upd Z1 a o) := fun b u q => by rw [upd_ne (ne_of_none q h)]; exact l b u q
theorem Nst.put {D : Addr} {f : Addr → Nat × Nat} {T : List (Addr × Addr × Addr)} {R : Rw} {i : Nat} {t : Addr × Addr × Addr} {p : List Int × List Int} (N : Nst C Z Z1 D f T R) (ht : T[i]? = some t) (hp : R[i]? = some p) (x y : Int) :
    Nst C Z (upd (upd Z1 t.2.1 (.lst ((p.1 ++ [x]).map .int))) t.2.2 (.lst ((p.2 ++ [y]).map .int))) D f T (R.set i (p.1 ++ [x], p.2 ++ [y])) := by
  have r := N.row i t p ht hp
  refine ⟨le_upd (le_upd N.le r.s.z) r.t.z, by rw [List.length_set]; exact N.len, (N.top.upd (N.top.ne r.s (by simp))).upd (N.top.ne r.t (by simp)), fun j t' p' h1 h2 => ?_⟩
  have hi : i < R.length := (List.getElem?_eq_some_iff.mp hp).1
  by_cases c : i = j
  · subst c
    rw [ht] at h1; cases h1
    rw [List.getElem?_set_self hi] at h2; cases h2
    exact ⟨(r.q.upd (r.q.ne r.s (by simp))).upd (r.q.ne r.t (by simp)), r.s.same.upd (r.s.ne r.t (by simp)), (r.t.upd (r.t.ne r.s (by simp))).same⟩
  · rw [List.getElem?_set_ne c] at h2
    have r' := N.row j t' p' h1 h2
    have n : ∀ {m m' : Nat}, ((j, m) : Nat × Nat) ≠ (i, m') := fun z => c (by cases z; rfl)
    exact ⟨(r'.q.upd (r'.q.ne r.s n)).upd (r'.q.ne r.t n), (r'.s.upd (r'.s.ne r.s n)).upd (r'.s.ne r.t n), (r'.t.upd (r'.t.ne r.s n)).upd (r'.t.ne r.t n)⟩
theorem Nst.one {D : Addr} (hD : Z D = none) (h0 : C.H0 D = none) : Nst C Z (upd Z D (.lst [])) D (fun _ => (0, 0)) [] [] :=
  ⟨Le.new hD, rfl, ⟨upd_same, rfl, h0, hD⟩, fun i t p h => by simp at h⟩
theorem Nst.more {D : Addr} {f : Addr → Nat × Nat} {T : List (Addr × Addr × Addr)} {R : Rw} (N : Nst C Z Z1 D f T R) {q s t : Addr} (hs : Z1 s = none) (ht : Z1 t = none) (hq : Z1 q = none) (hst : t ≠ s) (hqs : q ≠ s) (hqt : q ≠ t)
    (h0s : C.H0 s = none) (h0t : C.H0 t = none) (h0q : C.H0 q = none) :
    Nst C Z (upd (upd (upd (upd Z1 s (.lst [])) t (.lst [])) q (.lst [.ref s, .ref t])) D (.lst ((T.map fun t => V.ref t.1) ++ [.ref q]))) D
      (fun a => if a = s then (T.length, 2) else if a = t then (T.length, 3) else if a = q then (T.length, 1) else f a) (T ++ [(q, s, t)]) (R ++ [([], [])]) := by
  have old : ∀ {a : Addr} {o : HO} {x : Nat × Nat}, At C Z Z1 f a o x → a ≠ D → At C Z (upd (upd (upd (upd Z1 s (.lst [])) t (.lst [])) q (.lst [.ref s, .ref t])) D (.lst ((T.map fun t => V.ref t.1) ++ [.ref q]))) (fun a => if a = s then (T.length, 2) else if a = t then (T.length, 3) else if a = q then (T.length, 1) else f a) a o x := fun {a o x} h n => by
    have n1 := ne_of_none h.at_ hs
    have n2 := ne_of_none h.at_ ht
    have n3 := ne_of_none h.at_ hq
    exact (((((h.upd n1).upd n2).upd n3).upd n).fn (by simp only [if_neg n1, if_neg n2, if_neg n3]))
  have d1 := ne_of_none N.top.at_ hs
  have d2 := ne_of_none N.top.at_ ht
  have d3 := ne_of_none N.top.at_ hq
  have zs := le_none N.le hs
  have zt := le_none N.le ht
  have zq := le_none N.le hq
  refine ⟨le_upd (le_upd (le_upd (le_upd N.le zs) zt) zq) N.top.z, by simp [N.len], ⟨?_, by simp only [if_neg d1, if_neg d2, if_neg d3]; exact N.top.f_, N.top.h0, N.top.z⟩, fun i t' p' h1 h2 => ?_⟩
  · rw [upd_same]; simp
  · by_cases c : i < T.length
    · rw [List.getElem?_append_left c] at h1
      rw [List.getElem?_append_left (by rw [← N.len]; exact c)] at h2
      have r := N.row i t' p' h1 h2
      exact ⟨old r.q (r.q.ne N.top (by simp)), old r.s (r.s.ne N.top (by simp)), old r.t (r.t.ne N.top (by simp))⟩
    · have hi : i = T.length := by
        have := (List.getElem?_eq_some_iff.mp h1).1
        simp only [List.length_append, List.length_cons, List.length_nil] at this
        omega
      subst hi
      rw [List.getElem?_append_right (Nat.le_refl _)] at h1
      rw [List.getElem?_append_right (by rw [← N.len]; exact Nat.le_refl _)] at h2
      simp only [Nat.sub_self, List.getElem?_cons_zero, Option.some.injEq] at h1
      rw [N.len] at h2
      simp only [Nat.sub_self, List.getElem?_cons_zero, Option.some.injEq] at h2
      subst h1; subst h2
      refine ⟨⟨?_, ?_, h0q, zq⟩, ⟨?_, ?_, h0s, zs⟩, ⟨?_, ?_, h0t, zt⟩⟩
      · rw [upd_ne d3.symm, upd_same]
      · simp only [if_neg hqs, if_neg hqt, if_true]
      · rw [upd_ne d1.symm, upd_ne hqs.symm, upd_ne hst.symm, upd_same]; rfl
      · simp only [if_true]
      · rw [upd_ne d2.symm, upd_ne hqt.symm, upd_same]; rfl
      · simp only [if_neg hst, if_true]
theorem reps_rows {K : PySem.W.Frag} {sc : Sc} {f : Addr → Nat × Nat} : ∀ {T : List (Addr × Addr × Addr)} {R : Rw}, T.length = R.length → (∀ (i : Nat) t p, T[i]? = some t → R[i]? = some p → Rep K sc Hs (rowD p) (.ref t.1)) → Reps K sc Hs (R.map rowD) (T.map fun t => V.ref t.1)
  | [], [], _, _ => reps_nil
  | t :: T, p :: R, h, r => reps_cons (r 0 t p rfl rfl) (reps_rows (f := f) (by simpa using h) fun i t' p' h1 h2 => r (i + 1) t' p' (by simpa using h1) (by simpa using h2))
theorem Nst.lay {D : Addr} {f : Addr → Nat × Nat} {T : List (Addr × Addr × Addr)} {R : Rw} (N : Nst C Z Z1 D f T R) (k : StOk C Z1 Hs e σ H) : ∃ Hs', Post Hs H Hs' H ∧ StOk C Z Hs' e σ H ∧ Rep C.K C.sc Hs' (.lst (R.map rowD)) (.ref D) := by
  obtain ⟨Hs', p, k', h⟩ := k.freezeZ N.le
  have A : ∀ {a : Addr} {o : HO} {x : Nat × Nat}, At C Z Z1 f a o x → Hs' a = some o := fun q => h _ _ q.at_ q.z q.h0
  refine ⟨Hs', p, k', ?_⟩
  simp only [Rep]
  refine ⟨D, _, rfl, A N.top, reps_rows (f := f) N.len fun i t q h1 h2 => ?_⟩
  have r := N.row i t q h1 h2
  unfold rowD
  simp only [Rep]
  exact ⟨t.1, _, rfl, A r.q, reps_cons (by simp only [Rep]; exact ⟨_, _, rfl, A r.s, reps_ints⟩) (reps_cons (by simp only [Rep]; exact ⟨_, _, rfl, A r.t, reps_ints⟩) reps_nil)⟩
end
end Ml

set_option linter.all false
set_option maxRecDepth 100000
set_option maxHeartbeats 2000000
namespace Ml
open L2
open PySem (Addr Str sizeLine)
section
variable {C : Cc}
abbrev tAp (K K1 K2 : PySem.W.Frag) (i b : Nat) (m : Int) (x : Nat) : TS := tDrop (tBM K "list" rAppend (tOp (rIxL K1) (tOp (rIxL K2) (tVar i) (tVar b)) (tC (.int m))) (tCons (tVar x) tNil))
theorem set_there {α : Type} {l : List α} {i : Nat} {x : α} (h : l[i]? = some x) : l.set i x = l := by
  apply List.ext_getElem?
  intro j
  by_cases c : i = j
  · subst c
    rw [List.getElem?_set_self (List.getElem?_eq_some_iff.mp h).1, h]
  · rw [List.getElem?_set_ne c]
theorem atI_nat {α : Type} {xs : List α} {l : Int} {v : α} (h0 : 0 ≤ l) (h : xs[l.toNat]? = some v) : atI xs l = some v := by
  have hl := (List.getElem?_eq_some_iff.mp h).1
  show getI xs l = some v
  unfold getI ixn
  rw [if_pos h0, if_pos (by omega)]
  exact h
theorem ss_rows {i v a b c : Nat} {wi wj : TI} {mi mj : ME (List Dv)} {K K1 K2 K3 K4 K5 K6 : PySem.W.Frag} (hK : C.K = K) (hi : SI C wi mi) (hj : SI C wj mj) (hn : i ∉ [a] ++ ([b] ++ ([c] ++ [])) := by decide) :
    SS C [i, a, b, c] (tSeq (tAsg (tLc wi (gName v) tYes (tLst (tCons (tLst tNil) (tCons (tLst tNil) tNil))) [v]) (gName i))
      (tFor wj (gTup K 3 (gCons (gName a) (gCons (gName b) (gCons (gName c) gNil)))) (tSeq (tAp K1 K2 K3 i b 0 a) (tAp K4 K5 K6 i b 1 c)))) (sRows i a b c mi mj) := fun Z Hs e σ H k Dn w => by
  subst hK
  refine hi Z Hs e σ H k _ (we_go (A := [i, a, b, c]) (Dn := Dn) (fun ds e1 J Hs1 H1 p1 k1 it w1 => ?_) w)
  by_cases hds : ds.length < lim ∧ i < e1.length
  rotate_left
  · rw [if_neg hds] at w1; exact w1.elim
  rw [if_pos hds] at w1
  intro D hD
  refine ⟨fun n mm H' => mm = ds.length - n ∧ n ≤ ds.length ∧ ∃ Z1 Hs' f T, T.length = n ∧ Post Hs1 H1 Hs' H' ∧ StOk C Z1 Hs' e1 σ H' ∧ Nst C Z Z1 D f T (List.replicate n ([], [])),
    ⟨ds.length, rfl, Nat.zero_le _, _, Hs1, _, [], rfl, Post.newO, k1.hnew hD _, Nst.one (k1.z_none hD) (k1.h0_none hD)⟩, ?_⟩
  rintro n mm H' ⟨rfl, hle, Z1, Hs', f, T, hT, p', k', N⟩
  obtain ⟨itg, its⟩ := it n Z1 Hs' e1 σ H' k' p'.le
  by_cases hlt : n < ds.length
  · obtain ⟨d, hd, hdr⟩ := drop_cons hlt
    obtain ⟨go, yl⟩ := itg d hd
    refine .inr ⟨go, fun H3 => ∃ Z1 Hs' f T, T.length = n + 1 ∧ Post Hs1 H1 Hs' H3 ∧ StOk C Z1 Hs' e1 σ H3 ∧ Nst C Z Z1 D f T (List.replicate (n + 1) ([], [])), fun H3 h3 => ⟨ds.length - (n + 1), by omega, rfl, hlt, h3⟩, fun x H2 hy => ?_⟩
    obtain ⟨Hs2, p2, k2, _⟩ := yl x H2 hy
    refine ⟨wipe_idem kp_set (by rw [List.length_set, wipe_length]), ?_⟩
    dsimp only [tYes]
    rw [if_pos rfl]
    refine ⟨Nat.zero_le _, fun s hs => ⟨Nat.zero_le _, fun t ht => ⟨lim_line (by show 2 ≤ lim; decide), fun q hq => ?_⟩⟩⟩
    have k3 := k2.hnew hs (.lst [])
    have k4 := k3.hnew ht (.lst [])
    have k5 := k4.hnew hq (.lst [.ref s, .ref t])
    have hts : t ≠ s := (ne_of_none upd_same ht).symm
    have hqt : q ≠ t := (ne_of_none upd_same hq).symm
    have hq2 : upd H2 s (.lst []) q = none := by rw [upd_ne hqt] at hq; exact hq
    have hqs : q ≠ s := (ne_of_none upd_same hq2).symm
    have hq1 : H2 q = none := by rw [upd_ne hqs] at hq2; exact hq2
    have ht1 : H2 t = none := by rw [upd_ne hts] at ht; exact ht
    have zD := N.top.at_
    have zs := k2.z_none hs
    have zt := k2.z_none ht1
    have zq := k2.z_none hq1
    have d1 := ne_of_none zD zs
    have d2 := ne_of_none zD zt
    have d3 := ne_of_none zD zq
    have z5 : upd (upd (upd Z1 s (.lst [])) t (.lst [])) q (.lst [.ref s, .ref t]) D = some (.lst (T.map fun t => V.ref t.1)) := by rw [upd_ne d3, upd_ne d2, upd_ne d1]; exact zD
    have N' := N.more zs zt zq hts hqs hqt (k2.h0_none hs) (k2.h0_none ht1) (k2.h0_none hq1)
    rw [← List.replicate_succ'] at N'
    exact ⟨_, (k5.hid D _ z5).1, by rw [List.length_map, hT]; exact lim_lt (by omega), _, Hs2, _, T ++ [(q, s, t)], by simp [hT], (p'.trans p2).trans (Post.newO.trans (Post.newO.trans (Post.newO.trans Post.newO))), k5.hput z5 N.top.h0 _, N'⟩
  · refine .inl ⟨its (by omega), ?_⟩
    have hn' : n = ds.length := by omega
    subst hn'
    have k6 : StOk C Z1 Hs' (e1.set i .un) (σ.set i (some (.ref D))) H' := k'.setU
    refine hj Z1 Hs' _ _ H' k6 _ ?_
    cases q : mj (e1.set i .un) with
    | ud => rw [q] at w1; exact w1.elim
    | er x e2 => rw [q] at w1; exact fun Hs2 H2 c od p2 k2 r => w1 Hs2 _ H2 c od (p'.trans p2) (k2.zle N.le) r
    | ok gs e2 =>
      rw [q] at w1
      intro J2 Hs2 H2 p2 k2 it2
      cases qr : rowsGo a b c gs (List.replicate ds.length ([], [])) e2 with
      | none => simp only [Rs.go_ok, qr] at w1; exact w1.elim
      | some r =>
        obtain ⟨R, eF⟩ := r
        simp only [Rs.go_ok, qr] at w1
        have hi0 : i < σ.length := by rw [k1.len]; exact hds.2
        refine ⟨fun n mm σ' H' => mm = gs.length - n ∧ n ≤ gs.length ∧ ∃ Z1 Hs' f R0 e', Post Hs2 H2 Hs' H' ∧ StOk C Z1 Hs' e' σ' H' ∧ Nst C Z Z1 D f T R0 ∧ rowsGo a b c (gs.drop n) R0 e' = some (R, eF) ∧ Kp [i, a, b, c] σ σ' ∧ σ'[i]? = some (some (.ref D)),
          ⟨gs.length, rfl, Nat.zero_le _, Z1, Hs2, f, _, e2, Post.refl, k2, N, qr, kp_set.sub (by simp), List.getElem?_set_self hi0⟩, ?_⟩
        rintro n mm σ' H3 ⟨rfl, hle, Z2, Hs3, f2, R0, e', p3, k3, N2, hgo, kp, hi3⟩
        obtain ⟨itg, its⟩ := it2 n Z2 Hs3 e' σ' H3 k3 p3.le
        by_cases hlt : n < gs.length
        · obtain ⟨d, hd, hdr⟩ := drop_cons hlt
          obtain ⟨go, yl⟩ := itg d hd
          rw [hdr] at hgo
          refine .inr ⟨go, fun σ' H' => ∃ Z1 Hs' f R0 e', Post Hs2 H2 Hs' H' ∧ StOk C Z1 Hs' e' σ' H' ∧ Nst C Z Z1 D f T R0 ∧ rowsGo a b c (gs.drop (n + 1)) R0 e' = some (R, eF) ∧ Kp [i, a, b, c] σ σ' ∧ σ'[i]? = some (some (.ref D)), fun σ3 H3 h3 => ⟨gs.length - (n + 1), by omega, rfl, hlt, h3⟩, fun x H4 hy => ?_⟩
          obtain ⟨Hs4, p4, k4, r4⟩ := yl x H4 hy
          unfold rowsGo at hgo
          cases qg : gT [gN a, gN b, gN c] d e' with
          | none => simp only [qg] at hgo; cases hgo
          | some e3 =>
            simp only [qg] at hgo
            refine (sg_tup (C := C) (sgs_cons (sg_name (i := a)) (sgs_cons (sg_name (i := b)) (sgs_cons (sg_name (i := c)) sgs_nil))) rfl) Z2 Hs4 e' σ' H4 k4 d x e3 r4 qg _ fun σ5 k5 kp5 => ?_
            split at hgo
            rotate_left
            · cases hgo
            rename_i x0 l0 y0 ha hb hc
            split at hgo
            rotate_left
            · cases hgo
            rename_i hl
            split at hgo
            rotate_left
            · cases hgo
            rename_i p hp
            split at hgo
            rotate_left
            · cases hgo
            rename_i hlen
            obtain ⟨vx, ex, rx⟩ := k5.fz ha
            obtain ⟨vl, el, rl⟩ := k5.fz hb
            obtain ⟨vy, ey, ry⟩ := k5.fz hc
            simp only [Rep] at rx rl ry
            subst rx; subst rl; subst ry
            have hi5 : σ5[i]? = some (some (.ref D)) := (kp5.2 i hn).trans hi3
            have hlt' : l0.toNat < T.length := by rw [N2.len]; exact (List.getElem?_eq_some_iff.mp hp).1
            have ht : T[l0.toNat]? = some T[l0.toNat] := List.getElem?_eq_getElem hlt'
            generalize T[l0.toNat] = t at ht
            have r := N2.row _ t p ht hp
            have at0 : atI (T.map fun t => V.ref t.1) l0 = some (.ref t.1) := atI_nat hl (by rw [List.getElem?_map, ht]; rfl)
            have em1 : p.1.map V.int ++ [V.int x0] = (p.1 ++ [x0]).map V.int := by simp
            have em2 : p.2.map V.int ++ [V.int y0] = (p.2 ++ [y0]).map V.int := by simp
            have k6 := k5.hput r.s.at_ r.s.h0 (.lst ((p.1 ++ [x0]).map .int))
            have r2 : At C Z (upd Z2 t.2.1 (.lst ((p.1 ++ [x0]).map .int))) f2 t.2.2 (.lst (p.2.map .int)) (l0.toNat, 3) := r.t.upd (r.t.ne r.s (by simp))
            have r1 : At C Z (upd Z2 t.2.1 (.lst ((p.1 ++ [x0]).map .int))) f2 t.1 (.lst [.ref t.2.1, .ref t.2.2]) (l0.toNat, 1) := r.q.upd (r.q.ne r.s (by simp))
            have rD : At C Z (upd Z2 t.2.1 (.lst ((p.1 ++ [x0]).map .int))) f2 D (.lst (T.map fun t => V.ref t.1)) (0, 0) := N2.top.upd (N2.top.ne r.s (by simp))
            have k7 := k6.hput r2.at_ r2.h0 (.lst ((p.2 ++ [y0]).map .int))
            refine ⟨_, hi5, _, el, D, _, l0, .ref t.1, rfl, rfl, SqL.of (k5.hid D _ N2.top.at_).1, at0, t.1, _, 0, .ref t.2.1, rfl, rfl, SqL.of (k5.hid _ _ r.q.at_).1, rfl, .inl ⟨rfl, _, SqL.of (k5.hid _ _ r.s.at_).1⟩, _, ex, t.2.1, _, _, rfl, rfl, (k5.hid _ _ r.s.at_).1, by rw [List.length_map]; exact lim_lt hlen.1, ?_⟩
            rw [em1]
            refine ⟨_, hi5, _, el, D, _, l0, .ref t.1, rfl, rfl, SqL.of (k6.hid D _ rD.at_).1, at0, t.1, _, 1, .ref t.2.2, rfl, rfl, SqL.of (k6.hid _ _ r1.at_).1, rfl, .inl ⟨rfl, _, SqL.of (k6.hid _ _ r2.at_).1⟩, _, ey, t.2.2, _, _, rfl, rfl, (k6.hid _ _ r2.at_).1, by rw [List.length_map]; exact lim_lt hlen.2, ?_⟩
            rw [em2]
            exact ⟨_, Hs4, f2, _, e3, (p3.trans p4).trans (Post.newO.trans Post.newO), k7, N2.put ht hp x0 y0, hgo, (kp.trans kp5).sub (by simp), hi5⟩
        · have e0 : gs.drop n = [] := List.drop_eq_nil_of_le (by omega)
          rw [e0] at hgo
          cases hgo
          obtain ⟨HsF, pF, kF, rF⟩ := N2.lay k3
          have kF2 := kF.setF (i := i) rF
          rw [set_there hi3] at kF2
          exact .inl ⟨its (by omega), w1 HsF σ' H3 (((p'.trans p2).trans p3).trans pF) kF2 kp⟩
end
end Ml

set_option autoImplicit false
namespace Ml
/-- x, y = a, b -/
def sPar (i j : Nat) (m : ME (List Dv)) : MS := fun e => (m e).go fun ds e => match ds with
  | [a, b] => .nx ((e.set i (.fz a)).set j (.fz b))
  | _ => .ud
end Ml

set_option linter.all false
set_option maxRecDepth 100000
set_option maxHeartbeats 1000000
namespace Ml
open L2
open PySem (Addr Str sizeLine)
section
variable {C : Cc}
theorem ss_as {A : List Nat} {t u v : TS} {m : MS} (h : SS C A (tSeq (tSeq t u) v) m) : SS C A (tSeq t (tSeq u v)) m := h
theorem ss_par {i j : Nat} {ta : TA} {ma : ME (List Dv)} (h : SA C ta ma) : SS C [i, j] (tPar i j ta) (sPar i j ma) := fun Z Hs e σ H k Dn w =>
  h Z Hs e σ H k _ (we_go (A := [i, j]) (Dn := Dn) (fun ds e1 vs Hs1 H1 p1 k1 r1 w1 => by
    split at w1
    · rename_i a b
      simp only [rDs, Reps] at r1
      obtain ⟨u, q, rfl, ru, u2, q2, rfl, ru2, rfl⟩ := r1
      exact ⟨u, u2, rfl, w1 Hs1 _ H1 Post.refl ((k1.setF ru).setF ru2) (kp_set.trans kp_set)⟩
    · exact w1.elim) w)
end
end Ml

set_option autoImplicit false
/-! Owned dicts: keys ints and texts. -/
namespace Ml
def isKy : Dv → Bool
  | .int _ => true
  | .str _ => true
  | _ => false
def eqKy : Dv → Dv → Bool
  | .int a, .int b => decide (a = b)
  | .str a, .str b => decide (a = b)
  | _, _ => false
def getKy : List Dv → List Dv → Dv → Option Dv
  | k :: ks, v :: vs, x => if eqKy k x = true then some v else getKy ks vs x
  | _, _, _ => none
def repKy : List Dv → List Dv → Dv → Dv → List Dv
  | k :: ks, v :: vs, x, y => (if eqKy k x = true then y else v) :: repKy ks vs x y
  | _, _, _, _ => []
def putKy (ks vs : List Dv) (x y : Dv) : List Dv × List Dv :=
  if (getKy ks vs x).isSome = true then (ks, repKy ks vs x y) else (ks ++ [x], vs ++ [y])
def isDc : Option Slt → Bool
  | some (.ow _ (.dct false _ _)) => true
  | _ => false
/-- {} -/
def mDct0 : ME Ob := fun e => .ok (.dct false [] []) e
/-- d[x] -/
def mDGet (i : Nat) (mk : ME Dv) : ME Dv := fun e => if isDc e[i]? = true then (mk e).bind fun x e => match e[i]? with
    | some (.ow _ (.dct false ks vs)) => if isKy x = true then .of (getKy ks vs x) e else .ud
    | _ => .ud
  else .ud
/-- x in d, x not in d -/
def mDIn (neg : Bool) (mk : ME Dv) (i : Nat) : ME Dv := fun e => (mk e).bind fun x e => match e[i]? with
    | some (.ow _ (.dct false ks vs)) => if isKy x = true then .ok (.bl (if neg = true then !(getKy ks vs x).isSome else (getKy ks vs x).isSome)) e else .ud
    | _ => .ud
/-- d.get(x, y) -/
def mDGetD (i : Nat) (mk my : ME Dv) : ME Dv := fun e => if isDc e[i]? = true then (mk e).bind fun x e => (my e).bind fun y e => match e[i]? with
    | some (.ow _ (.dct false ks vs)) => if isKy x = true then .ok ((getKy ks vs x).getD y) e else .ud
    | _ => .ud
  else .ud
/-- d[x] = y -/
def sDPut (i : Nat) (mk my : ME Dv) : MS := fun e => (my e).go fun y e => if isDc e[i]? = true then (mk e).go fun x e => match e[i]? with
    | some (.ow j (.dct false ks vs)) => if isKy x = true ∧ ks.length < lim then .nx (e.set i (.ow j (.dct false (putKy ks vs x y).1 (putKy ks vs x y).2))) else .ud
    | _ => .ud
  else .ud
end Ml

set_option linter.all false
set_option maxRecDepth 100000
set_option maxHeartbeats 1000000
namespace Ml
open L2
open PySem (Addr Str sizeLine)
/-! Owned dicts: keys ints and texts. -/
section
theorem keyK_is {x : Dv} (h : isKy x = true) : ∃ k, keyK x = some k := by
  cases x with
  | int i => exact ⟨_, rfl⟩
  | str s => exact ⟨_, rfl⟩
  | _ => cases h
theorem sOf_eq {a b : List Nat} (h : sOf a = sOf b) : a = b := by
  have : a.toArray = b.toArray := congrArg Str.cps h
  simpa using congrArg Array.toList this
theorem eqKy_iff {a b : Dv} {k l : L2.Key} (ha : keyK a = some k) (hb : keyK b = some l) : eqKy a b = decide (k = l) := by
  cases a with
  | int i => cases b with
    | int j => cases ha; cases hb; simp [eqKy]
    | str s => cases ha; cases hb; simp [eqKy]
    | _ => cases hb
  | str s => cases b with
    | int j => cases ha; cases hb; simp [eqKy]
    | str t =>
      cases ha; cases hb
      by_cases c : s = t
      · subst c; simp [eqKy]
      · have : ¬ sOf s = sOf t := fun z => c (sOf_eq z)
        simp [eqKy, c, this]
    | _ => cases hb
  | _ => cases ha
variable {K : PySem.W.Frag} {sc : Sc} {Hs : Hp}
theorem keyK_rep {x : Dv} {v : V} {k : L2.Key} (h : keyK x = some k) (r : Rep K sc Hs x v) : v = kV k := by
  cases x with
  | int i => cases h; simp only [Rep] at r; exact r
  | str s => cases h; simp only [Rep] at r; exact r
  | _ => cases h
theorem keysK_len : ∀ {ks : List Dv} {l : List L2.Key}, keysK ks = some l → ks.length = l.length
  | [], l, h => by cases h; rfl
  | d :: ds, l, h => by
    simp only [keysK] at h
    split at h
    · rename_i k ks' h1 h2
      cases h
      simp [keysK_len h2]
    · cases h
theorem keysK_cons {d : Dv} {ds : List Dv} {l : List L2.Key} (h : keysK (d :: ds) = some l) : ∃ k ks, l = k :: ks ∧ keyK d = some k ∧ keysK ds = some ks := by
  simp only [keysK] at h
  split at h
  · rename_i k ks' h1 h2
    cases h
    exact ⟨k, ks', rfl, h1, h2⟩
  · cases h
theorem keysK_snoc : ∀ {ks : List Dv} {l : List L2.Key} {d : Dv} {k : L2.Key}, keysK ks = some l → keyK d = some k → keysK (ks ++ [d]) = some (l ++ [k])
  | [], l, d, k, h, hk => by cases h; simp [keysK, hk]
  | x :: ks, l, d, k, h, hk => by
    obtain ⟨k0, l0, rfl, h1, h2⟩ := keysK_cons h
    simp [keysK, h1, keysK_snoc h2 hk]
theorem get_rel : ∀ {ks vs : List Dv} {kvs : List (L2.Key × V)} {x : Dv} {k : L2.Key}, keysK ks = some (kvs.map (·.1)) → Reps K sc Hs vs (kvs.map (·.2)) → keyK x = some k →
    (∀ d, getKy ks vs x = some d → ∃ v, valV kvs k = some v ∧ Rep K sc Hs d v) ∧ (getKy ks vs x = none → valV kvs k = none)
  | [], vs, [], x, k, _, _, _ => ⟨fun d h => by simp [getKy] at h, fun _ => rfl⟩
  | [], vs, p :: kvs, x, k, h, _, _ => by cases h
  | d :: ks, vs, [], x, k, h, _, _ => by
    obtain ⟨_, _, h', _⟩ := keysK_cons h
    cases h'
  | d :: ks, vs, p :: kvs, x, k, h, r, hk => by
    obtain ⟨k0, l0, e, h1, h2⟩ := keysK_cons h
    rw [List.map_cons] at e
    injection e with e1 e2
    subst e1; subst e2
    cases vs with
    | nil => simp only [Reps, List.map_cons] at r; cases r
    | cons y vs =>
      simp only [Reps, List.map_cons] at r
      obtain ⟨v, q, e, r1, r2⟩ := r
      injection e with e3 e4
      subst e3; subst e4
      have ih := get_rel h2 r2 hk
      have eq := eqKy_iff h1 hk
      simp only [getKy, eq]
      by_cases c : p.1 = k
      · simp only [c, decide_true, if_true, valV_pos c]
        exact ⟨fun d hd => by cases hd; exact ⟨_, rfl, r1⟩, fun z => by cases z⟩
      · simp only [c, decide_false, Bool.false_eq_true, if_false, valV_neg c]
        exact ih
theorem getKy_some {ks vs : List Dv} {kvs : List (L2.Key × V)} {x : Dv} {k : L2.Key} (h : keysK ks = some (kvs.map (·.1))) (r : Reps K sc Hs vs (kvs.map (·.2))) (hk : keyK x = some k) : (getKy ks vs x).isSome = (valV kvs k).isSome := by
  have q := get_rel h r hk
  cases c : getKy ks vs x with
  | none => rw [q.2 c]; rfl
  | some d => obtain ⟨v, e, _⟩ := q.1 d c; rw [e]; rfl
theorem rep_rel : ∀ {ks vs : List Dv} {kvs : List (L2.Key × V)} {x y : Dv} {k : L2.Key} {v : V}, keysK ks = some (kvs.map (·.1)) → Reps K sc Hs vs (kvs.map (·.2)) → keyK x = some k → Rep K sc Hs y v →
    Reps K sc Hs (repKy ks vs x y) ((kvs.map fun kv => if kv.1 = k then (kv.1, v) else kv).map (·.2))
  | [], vs, [], x, y, k, v, _, r, _, _ => by simp [repKy]; exact reps_nil
  | [], vs, p :: kvs, x, y, k, v, h, _, _, _ => by cases h
  | d :: ks, vs, [], x, y, k, v, h, _, _, _ => by
    obtain ⟨_, _, h', _⟩ := keysK_cons h
    cases h'
  | d :: ks, vs, p :: kvs, x, y, k, v, h, r, hk, ry => by
    obtain ⟨k0, l0, e, h1, h2⟩ := keysK_cons h
    rw [List.map_cons] at e
    injection e with e1 e2
    subst e1; subst e2
    cases vs with
    | nil => simp only [Reps, List.map_cons] at r; cases r
    | cons z vs =>
      simp only [Reps, List.map_cons] at r
      obtain ⟨u, q, e, r1, r2⟩ := r
      injection e with e3 e4
      subst e3; subst e4
      have ih := rep_rel h2 r2 hk ry
      simp only [repKy, List.map_cons, eqKy_iff h1 hk]
      by_cases c : p.1 = k
      · simp only [c, decide_true, if_true]
        exact reps_cons ry ih
      · simp only [c, decide_false, Bool.false_eq_true, if_false]
        exact reps_cons r1 ih
theorem put_rel {ks vs : List Dv} {kvs : List (L2.Key × V)} {x y : Dv} {k : L2.Key} {v : V} (h : keysK ks = some (kvs.map (·.1))) (r : Reps K sc Hs vs (kvs.map (·.2))) (hk : keyK x = some k) (ry : Rep K sc Hs y v) :
    keysK (putKy ks vs x y).1 = some ((putK kvs k v).map (·.1)) ∧ Reps K sc Hs (putKy ks vs x y).2 ((putK kvs k v).map (·.2)) := by
  have q := getKy_some h r hk
  unfold putKy putK
  rw [valV_any, q]
  by_cases c : (valV kvs k).isSome = true
  · rw [if_pos c, if_pos c]
    refine ⟨?_, rep_rel h r hk ry⟩
    have : (kvs.map fun kv => if kv.1 = k then (kv.1, v) else kv).map (·.1) = kvs.map (·.1) := by
      rw [List.map_map]
      apply List.map_congr_left
      intro kv _
      show (if kv.1 = k then (kv.1, v) else kv).1 = kv.1
      split <;> rfl
    rw [this]; exact h
  · rw [if_neg c, if_neg c]
    rw [List.map_append, List.map_append]
    exact ⟨keysK_snoc h hk, reps_app r (reps_cons ry reps_nil)⟩
end
section
variable {C : Cc} {ta tb : TE} {ma mb : ME Dv}
theorem dc_of {x : Option Slt} (h : isDc x = true) : ∃ j ks vs, x = some (.ow j (.dct false ks vs)) := by
  unfold isDc at h
  split at h
  · exact ⟨_, _, _, rfl⟩
  · cases h
theorem seo_dct0 : SEO C tDNewK mDct0 := fun Z Hs e σ H k Q w => fun p hp =>
  w _ Hs (upd H p (.dK [])) Post.newO (k.newO hp) ⟨p, rfl, k.hs_none hp, ⟨k.h0_none hp, k.z_none hp⟩, ⟨[], upd_same, rfl, reps_nil⟩, k.fresh hp⟩
theorem se_dget {i : Nat} (ha : SE C ta ma) : SE C (tDGet (tVar i) ta) (mDGet i ma) := fun Z Hs e σ H k Q w => by
  unfold mDGet at w
  split at w
  · rename_i ho
    obtain ⟨j, ks0, vs0, he⟩ := dc_of ho
    obtain ⟨p, e1, hn, own, _⟩ := k.own he
    refine ⟨_, e1, ha Z Hs e σ H k _ (we_bind (fun x e2 v Hs2 H2 p2 k2 r2 w2 => ?_) w)⟩
    split at w2
    · rename_i j2 ks vs he2
      obtain ⟨p', e1', hn', ⟨kvs, hx, hk, rv⟩, _⟩ := k2.own he2
      rw [e1] at e1'; cases e1'
      split at w2
      · rename_i hy
        obtain ⟨d, hd, w3⟩ := we_of w2
        obtain ⟨kk, hkk⟩ := keyK_is hy
        obtain ⟨u, hu, ru⟩ := (get_rel hk rv hkk).1 d hd
        refine ⟨p, u, rfl, .inl ⟨kvs, kk, .inl hx, keyK_rep hkk r2, hu.symm⟩, we_ok w3 k2 ru⟩
      · exact w2.elim
    · exact w2.elim
  · exact w.elim
theorem se_din {i : Nat} (ha : SE C ta ma) : SE C (tDIn ta (tVar i)) (mDIn false ma i) := fun Z Hs e σ H k Q w =>
  ha Z Hs e σ H k _ (we_bind (fun x e2 v Hs2 H2 p2 k2 r2 w2 => by
    split at w2
    · rename_i j2 ks vs he2
      obtain ⟨p, e1, hn', ⟨kvs, hx, hk, rv⟩, _⟩ := k2.own he2
      split at w2
      · rename_i hy
        obtain ⟨kk, hkk⟩ := keyK_is hy
        have q := getKy_some hk rv hkk
        refine ⟨_, e1, p, valV kvs kk, rfl, .inl ⟨kvs, kk, .inl hx, keyK_rep hkk r2, rfl⟩, we_ok w2 k2 ?_⟩
        rw [q]
        simp only [rD, Rep, Bool.false_eq_true, if_false]
      · exact w2.elim
    · exact w2.elim) w)
theorem se_dni {i : Nat} (ha : SE C ta ma) : SE C (tDNotIn ta (tVar i)) (mDIn true ma i) := fun Z Hs e σ H k Q w =>
  ha Z Hs e σ H k _ (we_bind (fun x e2 v Hs2 H2 p2 k2 r2 w2 => by
    split at w2
    · rename_i j2 ks vs he2
      obtain ⟨p, e1, hn', ⟨kvs, hx, hk, rv⟩, _⟩ := k2.own he2
      split at w2
      · rename_i hy
        obtain ⟨kk, hkk⟩ := keyK_is hy
        have q := getKy_some hk rv hkk
        refine ⟨_, e1, p, valV kvs kk, rfl, .inl ⟨kvs, kk, .inl hx, keyK_rep hkk r2, rfl⟩, we_ok w2 k2 ?_⟩
        rw [q]
        simp only [rD, Rep, if_true]
      · exact w2.elim
    · exact w2.elim) w)
theorem se_dgetD {i : Nat} (ha : SE C ta ma) (hb : SE C tb mb) : SE C (tDGet2 (tVar i) ta tb) (mDGetD i ma mb) := fun Z Hs e σ H k Q w => by
  unfold mDGetD at w
  split at w
  · rename_i ho
    obtain ⟨j, ks0, vs0, he⟩ := dc_of ho
    obtain ⟨p, e1, hn, ⟨kvs0, hx0, _⟩, _⟩ := k.own he
    refine ⟨_, e1, p, rfl, .inl ⟨kvs0, .inl hx0⟩, ha Z Hs e σ H k _ (we_bind (fun x e2 v Hs2 H2 p2 k2 r2 w2 => hb Z Hs2 e2 σ H2 k2 _ (we_bind (fun y e3 u Hs3 H3 p3 k3 r3 w3 => ?_) w2)) w)⟩
    split at w3
    · rename_i j2 ks vs he2
      obtain ⟨p', e1', hn', ⟨kvs, hx, hk, rv⟩, _⟩ := k3.own he2
      rw [e1] at e1'; cases e1'
      split at w3
      · rename_i hy
        obtain ⟨kk, hkk⟩ := keyK_is hy
        have q := get_rel hk rv hkk
        refine ⟨valV kvs kk, .inl ⟨kvs, kk, .inl hx, keyK_rep hkk (rep_le p3.le r2), rfl⟩, we_ok w3 k3 ?_⟩
        cases c : getKy ks vs x with
        | none => rw [q.2 c]; exact r3
        | some d => obtain ⟨z, e, rz⟩ := q.1 d c; rw [e]; exact rz
      · exact w3.elim
    · exact w3.elim
  · exact w.elim
theorem ss_dput {i : Nat} (ha : SE C ta ma) (hb : SE C tb mb) : SS C [] (L2.sDPut (tVar i) ta tb) (Ml.sDPut i ma mb) := fun Z Hs e σ H k Dn w =>
  hb Z Hs e σ H k _ (we_go (fun y e1 u Hs1 H1 p1 k1 r1 w1 => by
    by_cases ho : isDc e1[i]? = true
    · rw [if_pos ho] at w1
      obtain ⟨j, ks0, vs0, he⟩ := dc_of ho
      obtain ⟨p, q1, hn, own, _⟩ := k1.own he
      refine ⟨_, q1, ha Z Hs1 e1 σ H1 k1 _ (we_go (fun x e2 v Hs2 H2 p2 k2 r2 w2 => ?_) w1)⟩
      split at w2
      · rename_i j2 ks vs he2
        obtain ⟨p', q1', hn', ⟨kvs, hx, hk, rv⟩, _⟩ := k2.own he2
        rw [q1] at q1'; cases q1'
        split at w2
        · rename_i hy
          obtain ⟨kk, hkk⟩ := keyK_is hy.1
          have hl : kvs.length < sizeLine := by
            have := keysK_len hk
            rw [List.length_map] at this
            rw [← this]; exact lim_lt hy.2
          refine ⟨p, _, rfl, .inl ⟨kvs, kk, hx, keyK_rep hkk r2, hl, rfl⟩, ?_⟩
          have pr := put_rel hk rv hkk (rep_le p2.le r1)
          exact w2 Hs2 σ _ Post.newO (k2.mut he2 q1 ⟨putK kvs kk u, upd_same, pr.1, pr.2⟩) Kp.refl
        · exact w2.elim
      · exact w2.elim
    · rw [if_neg ho] at w1; exact w1.elim) w)
end
end Ml

set_option linter.all false
set_option maxRecDepth 100000
set_option maxHeartbeats 1000000
/-! Calls of which it is known that nothing is being shown around them (no repr is under way). -/
namespace Ml
open PySem PySem.Spec PyProof.Rows L2
section
variable {P : Program} {w : World} {K : PySem.W.Frag} {mg : Str → Option Value} {base : Heap} {CX : CXT} {k : Nat} {f : Addr} {fd : FuncData} {ps : List Str} {sp : Sp}
structure FnOkG (P : Program) (w : World) (K : PySem.W.Frag) (mg : Str → Option Value) (base : Heap) (CX : CXT) (k : Nat) (f : Addr) (fd : FuncData) (ps : List Str) (sp : Sp) : Prop where
  len : ∀ vs H Q E, sp vs H Q E → vs.length = ps.length
  run : ∀ (A : Around) (outer : List Env) (s : Shared) (H : Hp) (args : Args) (us : List Value) (vs : List V) (Q : VK) (E : XK), Room k A → A.guards = some [] → Env0 P w K mg base A outer s H → BindsTo s fd args (ps.zip us) → Vals vs us → sp vs H Q E →
    codeAny (model P w) A (.call (.ref f) args) (CR CX outer P w H s Q E) s
theorem FnOkG.of (F : FnOk P w K mg base CX k f fd ps sp) : FnOkG P w K mg base CX k f fd ps sp := ⟨F.len, fun A outer s H args us vs Q E hr _ => F.run A outer s H args us vs Q E hr⟩
theorem FnOkG.mono {j : Nat} (F : FnOkG P w K mg base CX j f fd ps sp) (h : j ≤ k) : FnOkG P w K mg base CX k f fd ps sp := ⟨F.len, fun A outer s H args us vs Q E hr => F.run A outer s H args us vs Q E (hr.mono h)⟩
theorem guards_deeper (A : Around) (env : Env) : (A.deeper env).guards = A.guards := rfl
theorem fn_ofG {name qual : Str} {params : Arguments} {body : List Stmt} {scope : Scope} {dV kV doc pm cdv ct oc : Value} {an od : Option Addr}
    {osl : Array (Option Value)} {N : List Str} (lk : K.lookup f = some ⟨oc, od, .func (PySem.W.fnOf name qual params body scope dV kV doc pm an cdv ct), osl⟩) (hcd : PySem.W.codeIn K cdv qual = true) (S : FnScope N ps scope)
    (len : ∀ vs H Q E, sp vs H Q E → vs.length = ps.length)
    (hbody : ∀ (A : Around) (outer : List Env) (s : Shared) (H : Hp) (vs : List V) (Q : VK) (E : XK), Room k (A.deeper (envOfC qual scope s.heap.objs.size f cdv)) → A.guards = some [] → sp vs H Q E →
      ∃ t, PSs (cxOf CX P w K mg base N qual scope f cdv A outer s H E) body t ∧ t { nx := fun _ H' => Q .non H', rt := Q } (start N vs) H) :
    FnOkG P w K mg base CX (k + 1) f (PySem.W.fnOf name qual params body scope dV kV doc pm an cdv ct) ps sp := by
  refine ⟨len, fun A outer s H args us vs Q E hr hG e0 hb r hsp => ?_⟩
  have hl := len _ _ _ _ hsp
  have KX : K.In s.heap := e0.mod.kin.keeps fun b o e => (e0.bs b o e).1
  have nolim : s.heap.NoLimit := e0.mod.nolimit.keeps fun b o e => (e0.bs b o e).1
  have kinds : ∀ y ∈ ps.zip us, scope.names.lookup y.1 = some .local ∨ (scope.names.lookup y.1 = some .cell ∧ ((cellsFrom (s.heap.objs.size + 1) scope.names []).lookup y.1).isSome = true) := fun ⟨n, v⟩ hy => by
    rcases S.par n (List.of_mem_zip hy).1 with q | q
    · exact .inl q
    · exact .inr ⟨q, PySem.W.cellsFrom_some _ _ _ (.inl q)⟩
  refine codeAny_call_function hr.depth (KX _ _ lk) rfl S.co S.gen rfl (PySem.W.codeRec_of KX hcd) (hb _ _ _ _ ?_)
  refine wpAny_newFunctionEnv_cells S.kind kinds fun env he s1 x => ?_
  subst he
  refine ⟨nolim.keeps x.toInCall.keep, codeAny_func ?_⟩
  obtain ⟨t, ht, hq⟩ := hbody A outer s H vs Q E (hr.deeper _) hG hsp
  have I : Inv (cxOf CX P w K mg base N qual scope f cdv A outer s H E) [] (start N vs) H s1 := inv_start S hr.hd e0 hl r x
  refine wpAny_mono (ht.run [] s1 (start N vs) H _ I hq) (fun fl s' hs => ?_) fun e s' hs => hs
  cases fl with
  | ret u =>
    obtain ⟨v, σ', H', J, rv, q⟩ := hs
    exact ⟨v, H', J.os, J.bare, J.base, J.hok, rv, q⟩
  | next =>
    obtain ⟨σ', H', J, q⟩ := hs
    exact ⟨V.non, H', J.os, J.bare, J.base, J.hok, (rfl : RelV V.non Value.none), q⟩
  | brk =>
    obtain ⟨_, _, _, q⟩ := hs
    exact False.elim q
  | cont =>
    obtain ⟨_, _, _, q⟩ := hs
    exact False.elim q
/-- a def that may be called by its name -/
structure KeptG (P : Program) (w : World) (K : PySem.W.Frag) (mg : Str → Option Value) (base : Heap) (CX : CXT) (k : Nat) (x : Str) (sp : Sp) : Prop where
  ex : ∃ (f : Addr) (fd : FuncData) (ps : List Str), FnOkG P w K mg base CX k f fd ps sp ∧ mg x = some (.ref f) ∧ PySem.W.keepIn K (.ref f) = true ∧ Binds K fd ps []
theorem KeptG.of {x : Str} (c : Kept P w K mg base CX k x sp) : KeptG P w K mg base CX k x sp := by
  obtain ⟨f, fd, ps, F, r⟩ := c.ex
  exact ⟨f, fd, ps, .of F, r⟩
theorem Fun.okG {x qual : Str} {st : Stmt} {N : List Str} (F : Fun K x qual st f fd) (S : FnScope N ps (defScope st)) (len : ∀ vs H Q E, sp vs H Q E → vs.length = ps.length)
    (hbody : ∀ (cdv : Value) (A : Around) (outer : List Env) (s : Shared) (H : Hp) (vs : List V) (Q : VK) (E : XK), Room k (A.deeper (envOfC qual (defScope st) s.heap.objs.size f cdv)) → A.guards = some [] → sp vs H Q E →
      ∃ t, PSs (cxOf CX0 P w K mg base N qual (defScope st) f cdv A outer s H E).nox (defBody st) t ∧ t { nx := fun _ H' => Q .non H', rt := Q } (start N vs) H) : FnOkG P w K mg base CX0 (k + 1) f fd ps sp := by
  obtain ⟨oc, od, kV, doc, pm, an, cdv, ct, osl, rfl, lk, hcd⟩ := F.ex
  refine fn_ofG lk hcd S len fun A outer s H vs Q E hr hG hsp => ?_
  obtain ⟨t, h, q⟩ := hbody cdv A outer s H vs Q E hr hG hsp
  exact ⟨t, h.nox, q⟩
/-- a def keeps its mirror -/
theorem cl_ofG {x : Str} {st : Stmt} {N ps : List Str} {RE : Err → Value → Option Addr → Hp → Hp → Prop} {F : Fn} {np nl : Nat} {m : MS} (D : DefK K x st) (M : Mg K mg)
    (hb : ∀ (kV doc pm : Value) (an : Option Addr) (cdv ct : Value) (us : List Value), us.length = ps.length → bindArgs (PySem.W.fnOf x x (defArgs st) (defBody st) (defScope st) .none kV doc pm an cdv ct) ⟨us, []⟩ = pure (ps.zip us))
    (S : FnScope N ps (defScope st)) (hF : F = mkFn np nl m) (hN : N.length = np + nl) (hp : ps.length = np)
    (hbody : ∀ (f : Addr) (cdv : Value) (A' : Around) (outer : List Env) (s : Shared) (H : Hp) (E : XK), Room k (A'.deeper (envOfC x (defScope st) s.heap.objs.size f cdv)) → A'.guards = some [] →
      ∃ A t, PSs (cxOf CX0 P w K mg base N x (defScope st) f cdv A' outer s H E).nox (defBody st) t ∧ ∀ sc Hs Ps, SS ⟨K, scOf sc P w, H, Ps, Hs, fun c od _ H => E c od H, RE⟩ A t m) : KeptG P w K mg base CX0 (k + 1) x (spM P w K RE F) := by
  obtain ⟨f, fd, hn, Fd⟩ := D
  refine ⟨f, fd, ps, ?_, M.get hn, Fd.kp, Fd.binds hb⟩
  refine Fun.okG Fd S (fun vs H Q E h => by rw [spM_len hF h, hp]) fun cdv A' outer s H vs Q E hr hG h => ?_
  obtain ⟨A, t, h1, h2⟩ := hbody f cdv A' outer s H E hr hG
  exact ⟨t, h1, fn_red hF hN h fun sc Hs Ps => h2 sc Hs Ps⟩
end
section
variable {X : Cx} {CX : CXT} {k j : Nat} {x : Str} {sp : Sp} {f : Addr} {fd : FuncData} {ps : List Str} {p pos : Pos} {e : Expr} {es : List Expr} {t : TA}
theorem run_fnG {pins : List (Addr × Obj)} {σ : L2.St} {H : Hp} {s : Shared} {Q : VK} {us : List Value} {vs : List V} {E : L2.St → XK} (F : FnOkG X.prog X.w X.K X.mg X.base CX k f fd ps sp) (hr : Room k X.A) (hG : X.A.guards = some []) (hb : Binds X.K fd ps []) (hx : PassesAt CX X σ (E σ))
    (I : Inv X pins σ H s) (r : Vals vs us) (h : sp vs H Q (E σ)) : wpAny (model X.prog X.w) X.A (call (.ref f) us) (EP X pins σ Q) X.xe s := by
  have hl : us.length = ps.length := by rw [← r.length]; exact F.len _ _ _ _ h
  have b := hb s us I.kIn (by rw [List.append_nil]; exact hl)
  rw [List.append_nil] at b
  refine wpAny_call (codeAny_mono (F.run X.A X.stack s H ⟨us, []⟩ us vs Q (E σ) hr hG I.env0 b r h) fun r s' hq => ?_)
  cases r with
  | error e => exact hx pins H s e s' I hq
  | ok fl =>
    cases fl with
    | ret u => exact I.after hq
    | next => exact False.elim hq
    | brk => exact False.elim hq
    | cont => exact False.elim hq
theorem pe_clSG {E : L2.St → XK} (c : KeptG X.prog X.w X.K X.mg X.base CX k x sp) (hr : Room j X.A) (hG : X.A.guards = some []) (hk : k ≤ j) (hg : Gl X x) (hx : ∀ σ, PassesAt CX X σ (E σ)) (ha : PA X (e :: es) t)
    (hdb : (x == ("__debug__" : Str)) = false := by decide) (he : starEach (e :: es) X.env = (false, eval e X.env) :: starEach es X.env := by rfl) (hpl : (backTo pos (starEach es X.env)).any (·.1) = false := by rfl) :
    PE X (.Call (.Name x p) (e :: es) [] pos) (tCallS sp E t) := by
  obtain ⟨f, fd, ps, F, hm, kp, b⟩ := c.ex
  refine ⟨fun pins s σ H Q I h => ?_⟩
  refine wpAny_Call_Name_kw (ld_glob I hg hm ?_ hdb)
  refine PySem.W.callWith_K (h₀ := X.base) I.ok.mod.kin kp (thn (ha.run pos pins s σ H _ I h) fun us s1 ⟨vs, H1, I1, r, q⟩ => ⟨I1.kIn, ?_⟩) he hpl
  exact run_fnG F (hr.mono hk) hG b (hx σ) I1 r q
end
end Ml

set_option linter.all false
set_option maxRecDepth 100000
set_option maxHeartbeats 1000000
namespace Ml
open PySem PySem.Spec PyProof.Rows L2
/-- the law's promise, at the heap behind the top -/
theorem law_callG {P : Program} {w : World} {K : PySem.W.Frag} {mg mb : Str → Option Value} {CX : CXT} {k : Nat} {fa a : Addr} {fd : FuncData} {x : Str} {sp : Sp} {s₁ : Shared} {vs : List Value} {ns : List Int}
    (KX : K.In s₁.heap) (gl : s₁.heap.Ns mainGlobals mg) (bl : s₁.heap.Ns builtinsNs mb) (bb : ∀ x : Str, x ≠ "__name__" → mb x = bootBuiltins x) (lim : s₁.heap.NoLimit) (gens : s₁.gens = #[])
    (at_ : s₁.heap.get? a = some { cls := .type "list", data := .seq vs.toArray }) (isI : IntsAre vs ns) (sz : ns.length ≤ sizeLine) (hr : Room k callerA)
    (F : ∀ base : Heap, K.In base → base.Ns mainGlobals mg → FnOkG P w K mg base CX k fa fd [x] sp) (bind : ∀ (s : Shared) (u : Value), BindsTo s fd ⟨[u], []⟩ [(x, u)])
    (hsp : ∀ H : Hp, Only H → SqL K H a (ns.map V.int) → sp [.ref a] H (fun v _ => v = .bl true) fun _ _ _ => False)
    (hCX : ∀ H e s', CX [] H s₁ (fun _ _ _ => False) e s' → False) :
    codeAny (model P w) callerA (.call (.ref fa) ⟨[.ref a], []⟩) (fun r s' => r = .ok (.ret (.bool true)) ∧ OldK s₁.heap s'.heap ∧ s'.os = s₁.os ∧ AllBare s'.gens) s₁ := by
  have rv := vals_ints isI
  have lenV := isI.length
  have nmem : ∀ {b : Addr}, b ∉ frs ([] : List Env) := fun {b} z => absurd (show b ∈ ([] : List Addr) from z) (by simp)
  have core : ∀ H : Hp, Only H → SqL K H a (ns.map V.int) → HOk P w H s₁.heap → (∀ b, H b ≠ none → b = a) → (H a ≠ none → K.lookup a = none) →
      codeAny (model P w) callerA (.call (.ref fa) ⟨[.ref a], []⟩) (fun r s' => r = .ok (.ret (.bool true)) ∧ OldK s₁.heap s'.heap ∧ s'.os = s₁.os ∧ AllBare s'.gens) s₁ := by
    intro H hO hS hok hA hK
    have down : ∀ {b : Addr} {o : Obj}, s₁.heap.get? b = some o → H b = none → (hidT s₁.heap H).get? b = some o := fun e n => hidT_get e n
    have noD : ∀ {b : Addr} {o : Obj} {es : Array DictEntry} {ep : Nat}, s₁.heap.get? b = some o → o.data = .dict es ep → H b = none := fun {b o es ep} e d => by
      cases q : H b with
      | none => rfl
      | some u =>
        have e' : b = a := hA b (by rw [q]; simp)
        subst e'
        rw [at_] at e; cases e
        have d' : Data.seq vs.toArray _ = Data.dict es ep := d
        cases d'
    have nsD : ∀ {b : Addr} {m : Str → Option Value}, s₁.heap.Ns b m → (hidT s₁.heap H).Ns b m := fun {b m} ⟨o, es, ep, e, d, r⟩ => ⟨o, es, ep, down e (noD e d), d, r⟩
    have Kb : K.In (hidT s₁.heap H) := fun b o e => down (KX b o e) (by
      cases q : H b with
      | none => rfl
      | some u =>
        have e' : b = a := hA b (by rw [q]; simp)
        subst e'
        rw [hK (by rw [q]; simp)] at e; cases e)
    have md : Mod K mg (hidT s₁.heap H) := ⟨Kb, nsD gl, ⟨mb, nsD bl, bb⟩, let ⟨mc, h1, h2⟩ := lim; ⟨mc, nsD h1, h2⟩⟩
    have e0 : Env0 P w K mg (hidT s₁.heap H) callerA [] s₁ H := ⟨rfl, md, fun b o e => of_hidT e, Nat.le_of_eq (hidT_size _ _), trivial, fun b hb => absurd hb nmem, hok, .of_eq gens⟩
    refine codeAny_mono ((F _ Kb (nsD gl)).run callerA [] s₁ H ⟨[.ref a], []⟩ [.ref a] [.ref a] _ _ hr rfl e0 (bind s₁ (.ref a)) (.cons rfl .nil) (hsp H hO hS)) fun r s' h => ?_
    cases r with
    | error e => exact (hCX H e s' h).elim
    | ok fl =>
      cases fl with
      | next => exact False.elim h
      | brk => exact False.elim h
      | cont => exact False.elim h
      | ret u =>
        obtain ⟨v, H', os, bare, un, hok', r', q⟩ := h
        have q' : v = .bl true := q
        subst q'
        obtain rfl : u = Value.bool true := r'
        refine ⟨rfl, OldK.of_keep fun b o e => ?_, os, bare⟩
        cases q : H b with
        | none => exact un.keep b o e q nmem (by simp)
        | some u =>
          rcases hO b with z | ⟨ob, xs, z⟩
          · rw [q] at z; cases z
          · have z2 := un.frzs b ob _ z
            obtain ⟨e1, _⟩ := hok b _ z
            obtain ⟨e2, _⟩ := hok' b _ z2
            rw [e] at e1; cases e1
            exact e2
  cases hk : K.lookup a with
  | some o =>
    have e := KX a o hk
    rw [at_] at e
    cases e
    exact core (fun _ => none) (fun _ => .inl rfl) (.inr ⟨_, vs.toArray, _, hk, rfl, rfl, rfl, by rw [List.size_toArray, lenV]; exact sz, by simpa using rv⟩) (fun b u z => by have z' : (none : Option HO) = some u := z; cases z') (fun b z => absurd rfl z) fun z => absurd rfl z
  | none =>
    let H1 : Hp := fun b => if b = a then some (.frz { cls := .type "list", data := .seq vs.toArray } (.lst (ns.map V.int))) else none
    have ya : H1 a = some (.frz { cls := .type "list", data := .seq vs.toArray } (.lst (ns.map V.int))) := if_pos rfl
    have no : ∀ {b : Addr}, b ≠ a → H1 b = none := fun h => if_neg h
    refine core H1 (fun b => ?_) (.inl (.inr ⟨_, ya⟩)) (fun b u z => ?_) (fun b z => ?_) fun _ => hk
    · by_cases hb : b = a
      · subst hb; exact .inr ⟨_, _, ya⟩
      · exact .inl (no hb)
    · by_cases hb : b = a
      · subst hb
        rw [ya] at z; cases z
        exact ⟨at_, by rw [List.length_map]; exact sz, vs, _, rv, at_⟩
      · rw [no hb] at z; cases z
    · by_cases hb : b = a
      · exact hb
      · exact absurd (no hb) z
theorem walk_ofG {l : PySem.W.OpenLaw} {n k : Nat} {q : Program} {loose : List Str} {XP : (Str → Option Value) → Heap → Prop} {YP : World → Heap → Prop} {d : DefRec} {K : Params → PySem.W.Frag} {CX : World → CXT} {sp : World → Sp} {x : Str}
    (hn : l.most = some n) (hn2 : n ≤ sizeLine) (hdf : d.params.defaults = []) (hr : Room k callerA)
    (hY : ∀ (w : World) (h : Heap), YP w h → (K w.params).In h)
    (F : ∀ (w : World) (mg : Str → Option Value) (fa : Addr) (h : Heap), (K w.params).In h → h.Ns mainGlobals mg → mg d.name = some (.ref fa) →
      ∃ fd : FuncData, (∀ (s : Shared) (u : Value), BindsTo s fd ⟨[u], []⟩ [(x, u)]) ∧
        ∀ base : Heap, (K w.params).In base → base.Ns mainGlobals mg → FnOkG l.prog w (K w.params) mg base (CX w) k fa fd [x] (sp w))
    (hsp : ∀ (w : World) (H : Hp) (a : Addr) (ns : List Int), ns.length ≤ n → Only H → SqL (K w.params) H a (ns.map V.int) → sp w [.ref a] H (fun v _ => v = .bl true) fun _ _ _ => False)
    (hCX : ∀ (w : World) (H : Hp) (s : Shared) (e : Value) (s' : Shared), CX w [] H s (fun _ _ _ => False) e s' → False) :
    PySem.W.WalkO q loose XP YP l.row.toRowW d [] (fun f vs => PySem.call f vs) := by
  refine Att.attach_call hn hdf fun w s₀ s₁ mg mb fa o pm cd doc a vs ns G Y ho hd hcd hmg hobj hints hlen hg => ?_
  have KX := hY w _ Y
  obtain ⟨fd, hb, hF⟩ := F w mg fa _ KX G.T.g hmg
  exact law_callG KX G.T.g G.T.b G.T.builtins G.T.nolimit hg hobj hints (Nat.le_trans hlen hn2) hr hF hb (fun H hO hS => hsp w H a ns hlen hO hS) fun H e s' => hCX w H s₁ e s'
end Ml

set_option autoImplicit false
/-! repr(a) == repr(b) of equal data. -/
namespace Ml
mutual
def eqR : Dv → Dv → Bool
  | .non, .non => true
  | .bl a, .bl b => a == b
  | .int a, .int b => decide (a = b)
  | .str a, .str b => decide (a = b)
  | .tup a, .tup b => eqRs a b
  | .lst a, .lst b => eqRs a b
  | _, _ => false
def eqRs : List Dv → List Dv → Bool
  | [], [] => true
  | a :: as, b :: bs => eqR a b && eqRs as bs
  | _, _ => false
end
mutual
/-- what has a repr that is known, n deep -/
def showD : Nat → Dv → Bool
  | _, .non => true
  | _, .bl _ => true
  | _, .int i => decide (i.natAbs < 1000000000000)
  | _, .str s => s.all fun c => decide (c < 1114112)
  | n + 1, .tup ds => showDs n ds
  | n + 1, .lst ds => showDs n ds
  | _, _ => false
def showDs : Nat → List Dv → Bool
  | _, [] => true
  | n, d :: ds => showD n d && showDs n ds
end
mutual
def wtD : Dv → Nat
  | .str s => s.length
  | .int _ => 40
  | .tup ds => wtDs ds
  | .lst ds => wtDs ds
  | _ => 0
def wtDs : List Dv → Nat
  | [] => 0
  | d :: ds => wtD d + 1 + wtDs ds
end
def isSeq : Dv → Bool
  | .tup _ => true
  | .lst _ => true
  | _ => false
def okR (d : Dv) : Bool := isSeq d && showD 50 d && decide (wtD d ≤ 1000000)
/-- repr(a) == repr(b), and != -/
def oRepEq (neg : Bool) (a b : Dv) : Option Dv := if okR a = true ∧ okR b = true ∧ eqR a b = true then some (.bl (!neg)) else none
def mRepEq (neg : Bool) (ma mb : ME Dv) : ME Dv := fun e => (ma e).bind fun a e => if okR a = true then (mb e).bind fun b e => .of (oRepEq neg a b) e else .ud
end Ml

set_option linter.all false
set_option maxRecDepth 100000
set_option maxHeartbeats 1000000
namespace Ml
open PySem PySem.Spec PyProof.Rows L2
mutual
def pdOf : Dv → PyData
  | .non => .none
  | .bl b => .bool b
  | .int i => .int i
  | .str s => .str (sOf s)
  | .tup ds => .tuple (pdOfs ds)
  | .lst ds => .list (pdOfs ds)
  | _ => .none
def pdOfs : List Dv → List PyData
  | [] => []
  | d :: ds => pdOf d :: pdOfs ds
end
mutual
theorem eqR_pd : ∀ {a b : Dv}, eqR a b = true → pdOf a = pdOf b
  | .non, b, h => by cases b <;> simp [eqR] at h ⊢
  | .bl x, b, h => by cases b <;> simp [eqR] at h ⊢; rw [h]
  | .int x, b, h => by cases b <;> simp [eqR] at h ⊢; rw [h]
  | .str x, b, h => by cases b <;> simp [eqR] at h ⊢; rw [h]
  | .tup x, b, h => by
    cases b <;> simp only [eqR] at h <;> try cases h
    simp only [pdOf, eqRs_pd h]
  | .lst x, b, h => by
    cases b <;> simp only [eqR] at h <;> try cases h
    simp only [pdOf, eqRs_pd h]
  | .scr _, b, h => by cases b <;> simp [eqR] at h
  | .dct _ _, b, h => by cases b <;> simp [eqR] at h
  | .exc _ _ _, b, h => by cases b <;> simp [eqR] at h
theorem eqRs_pd : ∀ {a b : List Dv}, eqRs a b = true → pdOfs a = pdOfs b
  | [], [], _ => rfl
  | [], _ :: _, h => by simp [eqRs] at h
  | _ :: _, [], h => by simp [eqRs] at h
  | a :: as, b :: bs, h => by
    simp only [eqRs, Bool.and_eq_true] at h
    simp only [pdOfs, eqR_pd h.1, eqRs_pd h.2]
end
mutual
theorem showD_ok : ∀ {n : Nat} {d : Dv}, showD n d = true → (pdOf d).showable = true ∧ (pdOf d).hasDict = false ∧ (pdOf d).leavesShort 13 = true ∧ (pdOf d).depth ≤ n ∧ (pdOf d).weight ≤ wtD d
  | n, .non, _ => by simp [pdOf, PyData.showable, PyData.hasDict, PyData.leavesShort, PyData.depth, PyData.weight]
  | n, .bl _, _ => by simp [pdOf, PyData.showable, PyData.hasDict, PyData.leavesShort, PyData.depth, PyData.weight]
  | n, .int i, h => by
    have h : i.natAbs < 1000000000000 := by simpa [showD] using h
    have h2 : i.natAbs < 2 ^ 40 := Nat.lt_trans h (by decide)
    have hl : i.natAbs.log2 < 40 := by
      by_cases z : i.natAbs = 0
      · rw [z]; decide
      · exact (Nat.log2_lt z).mpr h2
    refine ⟨?_, rfl, ?_, Nat.zero_le _, ?_⟩
    · simp only [pdOf, PyData.showable, decide_eq_true_eq]; omega
    · simp only [pdOf, PyData.leavesShort, decide_eq_true_eq]; exact PyData.shown_int_le (by simpa using h)
    · simp only [pdOf, PyData.weight, wtD]; split <;> omega
  | n, .str s, h => by
    refine ⟨rfl, rfl, ?_, Nat.zero_le _, ?_⟩
    · have h : ∀ c ∈ s, c < 1114112 := by simpa [showD] using h
      simp only [pdOf, PyData.leavesShort, List.all_eq_true, decide_eq_true_eq]
      intro c hc
      have := h c (by simpa using hc)
      exact Nat.lt_of_lt_of_le this (by decide)
    · simp [pdOf, PyData.weight, wtD]
  | 0, .tup _, h => by simp [showD] at h
  | 0, .lst _, h => by simp [showD] at h
  | n + 1, .tup ds, h => by
    obtain ⟨h1, h2, h3, h4, h5⟩ := showDs_ok (n := n) (ds := ds) (by simpa only [showD] using h)
    simp only [pdOf, PyData.showable, PyData.hasDict, PyData.leavesShort, PyData.depth, PyData.weight, wtD]
    exact ⟨h1, h2, h3, by omega, h5⟩
  | n + 1, .lst ds, h => by
    obtain ⟨h1, h2, h3, h4, h5⟩ := showDs_ok (n := n) (ds := ds) (by simpa only [showD] using h)
    simp only [pdOf, PyData.showable, PyData.hasDict, PyData.leavesShort, PyData.depth, PyData.weight, wtD]
    exact ⟨h1, h2, h3, by omega, h5⟩
  | 0, .scr _, h => by simp [showD] at h
  | 0, .dct _ _, h => by simp [showD] at h
  | 0, .exc _ _ _, h => by simp [showD] at h
  | _ + 1, .scr _, h => by simp [showD] at h
  | _ + 1, .dct _ _, h => by simp [showD] at h
  | _ + 1, .exc _ _ _, h => by simp [showD] at h
theorem showDs_ok : ∀ {n : Nat} {ds : List Dv}, showDs n ds = true → PyData.showableAll (pdOfs ds) = true ∧ PyData.hasDictAll (pdOfs ds) = false ∧ PyData.leavesShortAll 13 (pdOfs ds) = true ∧ PyData.depthAll (pdOfs ds) ≤ n ∧ PyData.weightAll (pdOfs ds) ≤ wtDs ds
  | n, [], _ => by simp [pdOfs, PyData.showableAll, PyData.hasDictAll, PyData.leavesShortAll, PyData.depthAll, PyData.weightAll]
  | n, d :: ds, h => by
    simp only [showDs, Bool.and_eq_true] at h
    obtain ⟨a1, a2, a3, a4, a5⟩ := showD_ok h.1
    obtain ⟨b1, b2, b3, b4, b5⟩ := showDs_ok h.2
    simp only [pdOfs, PyData.showableAll, PyData.hasDictAll, PyData.leavesShortAll, PyData.depthAll, PyData.weightAll, wtDs, a1, a2, a3, b1, b2, b3, Bool.and_self, Bool.or_self, true_and]
    exact ⟨Nat.max_le.mpr ⟨a4, b4⟩, by omega⟩
end
section
variable {X : Cx} {K : PySem.W.Frag} {sc : Sc} {pins : List (Addr × Obj)} {σ : L2.St} {H : Hp} {s : Shared}
mutual
theorem rep_reads (hK : X.K = K) (I : Inv X pins σ H s) : ∀ {n : Nat} {d : Dv} {v : V} {u : Value}, showD n d = true → Rep K sc H d v → RelV v u → ∃ as, Reads s.heap u (pdOf d) as
  | n, .non, v, u, _, r, q => by
    simp only [Rep] at r; subst r
    obtain rfl : u = Value.none := q
    exact ⟨[], by simp only [pdOf]; exact .none⟩
  | n, .bl b, v, u, _, r, q => by
    simp only [Rep] at r; subst r
    obtain rfl : u = Value.bool b := q
    exact ⟨[], by simp only [pdOf]; exact .bool b⟩
  | n, .int i, v, u, _, r, q => by
    simp only [Rep] at r; subst r
    obtain ⟨t, rfl⟩ : ∃ t, u = Value.int i t := q
    exact ⟨[], by simp only [pdOf]; exact .int i t⟩
  | n, .str x, v, u, _, r, q => by
    simp only [Rep] at r; subst r
    obtain ⟨t, rfl⟩ : ∃ t, u = Value.str (sOf x) t := q
    exact ⟨[], by simp only [pdOf]; exact .str _ t⟩
  | 0, .tup _, _, _, h, _, _ => by simp [showD] at h
  | 0, .lst _, _, _, h, _, _ => by simp [showD] at h
  | n + 1, .tup ds, v, u, h, r, q => by
    simp only [Rep] at r
    obtain ⟨a, xs, rfl, hx, rx⟩ := r
    obtain rfl : u = Value.ref a := q
    have hx' : SqT X.K H a xs := by rw [hK]; exact hx.sq
    obtain ⟨its, rv, ⟨o, ho, hc, m, hd⟩, _⟩ := I.tuple hx'
    obtain ⟨as, ra⟩ := reps_reads (n := n) hK I (by simpa only [showD] using h) rx rv
    exact ⟨as, by simp only [pdOf]; exact .tuple ho hc hd (by simpa using ra)⟩
  | n + 1, .lst ds, v, u, h, r, q => by
    simp only [Rep] at r
    obtain ⟨a, xs, rfl, hx, rx⟩ := r
    obtain rfl : u = Value.ref a := q
    obtain ⟨_, its, m, rv, ho⟩ := I.hok a _ hx
    obtain ⟨as, ra⟩ := reps_reads (n := n) hK I (by simpa only [showD] using h) rx rv
    exact ⟨a :: as, by simp only [pdOf]; exact .list ho rfl rfl (by simpa using ra)⟩
  | 0, .scr _, _, _, h, _, _ => by simp [showD] at h
  | 0, .dct _ _, _, _, h, _, _ => by simp [showD] at h
  | 0, .exc _ _ _, _, _, h, _, _ => by simp [showD] at h
  | _ + 1, .scr _, _, _, h, _, _ => by simp [showD] at h
  | _ + 1, .dct _ _, _, _, h, _, _ => by simp [showD] at h
  | _ + 1, .exc _ _ _, _, _, h, _, _ => by simp [showD] at h
theorem reps_reads (hK : X.K = K) (I : Inv X pins σ H s) : ∀ {n : Nat} {ds : List Dv} {vs : List V} {us : List Value}, showDs n ds = true → Reps K sc H ds vs → Vals vs us → ∃ as, ReadsAll s.heap us (pdOfs ds) as
  | n, [], vs, us, _, r, q => by
    simp only [Reps] at r; subst r
    cases q
    exact ⟨[], by simp only [pdOfs]; exact .nil⟩
  | n, d :: ds, vs, us, h, r, q => by
    simp only [Reps] at r
    obtain ⟨v, w, rfl, r1, r2⟩ := r
    cases q with
    | cons q1 q2 =>
      simp only [showDs, Bool.and_eq_true] at h
      obtain ⟨as, ra⟩ := rep_reads hK I h.1 r1 q1
      obtain ⟨bs, rb⟩ := reps_reads hK I h.2 r2 q2
      exact ⟨as ++ bs, by simp only [pdOfs]; exact .cons ra rb⟩
end
end
/-- repr(x) -/
def rRepr (K : PySem.W.Frag) : List V → Hp → VK → Prop := fun vs H Q => ∃ (sc : Sc) (a : Addr) (d : Dv), vs = [V.ref a] ∧ Rep K sc H d (.ref a) ∧ okR d = true ∧ Q (.str (pdOf d).shown) H
theorem cr_repr {X : Cx} {K : PySem.W.Frag} (hG : X.A.guards = some []) (hu : X.A.units + 64 < cLine) (hK : X.K = K) : CallR X (.builtin "repr") (rRepr K) := by
  intro pins s σ H xs us Q I r h
  obtain ⟨sc, a, d, rfl, rd, ok, q⟩ := h
  rw [Vals.ref1 r]
  simp only [okR, Bool.and_eq_true, decide_eq_true_eq] at ok
  obtain ⟨⟨_, sh⟩, wt⟩ := ok
  obtain ⟨as, rr⟩ := rep_reads hK I sh rd (rfl : RelV (.ref a) (Value.ref a))
  obtain ⟨s1, s2, s3, s4, s5⟩ := showD_ok sh
  refine repr_of_reads' rr s1 (fun z => by rw [s2] at z; cases z) hG (by omega) (fun b o e => e) (fun h' u tk k => ?_) (PyData.shown_fits (B := 13) (by decide) (by decide) s3 (Nat.le_trans s5 (Nat.le_trans wt (by decide))))
  exact ⟨.str (pdOf d).shown, H, I.kept (t' := tk) k, ⟨u, rfl⟩, q⟩
section
variable {C : Cc} {K : PySem.W.Frag} {ta tb : TE} {ma mb : ME Dv}
theorem isSeq_ref {K : PySem.W.Frag} {sc : Sc} {H : Hp} {d : Dv} {v : V} (h : isSeq d = true) (r : Rep K sc H d v) : ∃ a, v = .ref a := by
  cases d with
  | tup ds => simp only [Rep] at r; obtain ⟨a, _, e, _⟩ := r; exact ⟨a, e⟩
  | lst ds => simp only [Rep] at r; obtain ⟨a, _, e, _⟩ := r; exact ⟨a, e⟩
  | _ => cases h
theorem okR_seq {d : Dv} (h : okR d = true) : isSeq d = true := by
  simp only [okR, Bool.and_eq_true] at h; exact h.1.1
abbrev strOf (T : Str) : List Nat := T.cps.toList
theorem sOf_strOf (T : Str) : sOf (strOf T) = T := by
  show (⟨T.cps.toList.toArray⟩ : Str) = T
  simp
theorem se_repEq {r : L2.R2} {f : Dv → Dv → Option Dv} {neg : Bool} (hK : C.K = K) (hr : RV C r f) (hf : ∀ s, f (.str s) (.str s) = some (.bl (!neg))) (ha : SE C ta ma) (hb : SE C tb mb) :
    SE C (tOp r (tCB (rRepr K) (tCons ta tNil)) (tCB (rRepr K) (tCons tb tNil))) (mRepEq neg ma mb) := fun Z Hs e σ H k Q w =>
  ha Z Hs e σ H k _ (we_bind (fun a e1 x Hs1 H1 p1 k1 r1 w1 => by
    subst hK
    by_cases ok : okR a = true
    · rw [if_pos ok] at w1
      obtain ⟨p, rfl⟩ := isSeq_ref (okR_seq ok) r1
      refine ⟨C.sc, p, a, rfl, rep_le k1.le r1, ok, ?_⟩
      refine hb Z Hs1 e1 σ H1 k1 _ (we_bind (fun b e2 y Hs2 H2 p2 k2 r2 w2 => ?_) w1)
      obtain ⟨c, hc, w3⟩ := we_of w2
      unfold oRepEq at hc
      split at hc
      · rename_i h
        cases hc
        obtain ⟨q, rfl⟩ := isSeq_ref (okR_seq h.2.1) r2
        refine ⟨C.sc, q, b, rfl, rep_le k2.le r2, h.2.1, ?_⟩
        have e : pdOf a = pdOf b := eqR_pd h.2.2
        rw [e]
        have rs : Rep C.K C.sc Hs2 (.str (strOf (pdOf b).shown)) (.str (pdOf b).shown) := by simp only [Rep, sOf_strOf]
        exact hr Z Hs2 e2 σ H2 k2 _ _ _ _ _ Q rs rs (hf _) w3
      · cases hc
    · rw [if_neg ok] at w1; exact w1.elim) w)
theorem se_repEqT (hK : C.K = K) (ha : SE C ta ma) (hb : SE C tb mb) : SE C (tOp rEq (tCB (rRepr K) (tCons ta tNil)) (tCB (rRepr K) (tCons tb tNil))) (mRepEq false ma mb) :=
  se_repEq hK rv_eq (fun s => by simp [oEq, eqS]) ha hb
theorem se_repNe (hK : C.K = K) (ha : SE C ta ma) (hb : SE C tb mb) : SE C (tOp rNe (tCB (rRepr K) (tCons ta tNil)) (tCB (rRepr K) (tCons tb tNil))) (mRepEq true ma mb) :=
  se_repEq hK rv_ne (fun s => by simp [oNe, eqS]) ha hb
end
end Ml

set_option linter.all false
set_option maxRecDepth 100000
set_option maxHeartbeats 1000000
/-! dict(t), t a tuple of pairs. -/
namespace Ml
open PySem PySem.Spec PyProof.Rows L2
section
variable {X : Cx} {pins : List (Addr × Obj)} {σ : L2.St} {H : Hp} {s : Shared}
theorem pairsT (I : Inv X pins σ H s) : ∀ {ps : List Addr} {kvs : List (L2.Key × V)}, Paired (fun p kv => SqT X.K H p [kV kv.1, kv.2]) ps kvs →
    ∃ (prs : List (L2.Key × Value)) (qs : List (Value × Value)), KV kvs prs ∧ qs.length = ps.length ∧ prs.length = ps.length ∧
      ∀ (j : Nat) (u y : Value), qs[j]? = some (u, y) → ∃ (b : Addr) (k : L2.Key), ps[j]? = some b ∧ IsTup s.heap b #[u, y] ∧ prs[j]? = some (k, y) ∧ keyIs k u = true
  | _, _, .nil => ⟨[], [], .nil, rfl, rfl, fun j u y e => by simp at e⟩
  | _, _, .cons (a := p) (b := kv) h t => by
    obtain ⟨prs, qs, r, hl, hl2, hp⟩ := pairsT I t
    obtain ⟨its, rv, ht, _⟩ := I.tuple h
    obtain ⟨u, y, ei, ru, ry⟩ := vals2 rv
    subst ei
    refine ⟨(kv.1, y) :: prs, (u, y) :: qs, .cons ⟨rfl, ry⟩ r, by simp [hl], by simp [hl2], fun j u' y' e => ?_⟩
    cases j with
    | zero =>
      simp only [List.getElem?_cons_zero, Option.some.injEq, Prod.mk.injEq] at e
      obtain ⟨rfl, rfl⟩ := e
      exact ⟨p, kv.1, rfl, ht, rfl, kV_is (P := X.prog) (w := X.w) ru⟩
    | succ j =>
      obtain ⟨b, k, e1, e2, e3, e4⟩ := hp j u' y' (by simpa using e)
      exact ⟨b, k, by simpa using e1, e2, by simpa using e3, e4⟩
theorem plain_of (I : Inv X pins σ H s) {a : Addr} {xs : List V} (h : PlT X.K H a xs) : ∃ its : List Value, Vals xs its ∧ PlainSeq "tuple" s.heap a its.toArray ∧ xs.length ≤ sizeLine := by
  rcases h with ⟨o, h, hc, hd⟩ | ⟨o, its, n, hk, hc, hd, hs, hz, r⟩
  · obtain ⟨ho, hz, its, rv, o', ho', _, n, hdat⟩ := I.hok a _ h
    rw [ho] at ho'; cases ho'
    exact ⟨its, rv, ⟨o, n, ho, hc, hd, hdat⟩, hz⟩
  · refine ⟨its.toList, r, ⟨o, n, I.kIn _ _ hk, hc, hd, by simpa using hs⟩, ?_⟩
    have := r.length
    rw [this]; simpa using hz
end
def rDictP (K : PySem.W.Frag) : List V → Hp → VK → Prop := fun xs H Q => ∃ (a : Addr) (ps : List Addr) (kvs : List (L2.Key × V)), xs = [V.ref a] ∧ PlT K H a (ps.map V.ref) ∧ Paired (fun p kv => SqT K H p [kV kv.1, kv.2]) ps kvs ∧
  ∀ p, H p = none → Q (.ref p) (upd H p (.dK (mergeK [] kvs)))
theorem cr_dictP {X : Cx} (hcalm : X.calm = true) : CallR X (.type "dict") (rDictP X.K) := by
  intro pins s σ H xs us Q I r q
  obtain ⟨a, ps, kvs, rfl, hq, hp, q⟩ := q
  rw [Vals.ref1 r]
  obtain ⟨its, rv, pl, hz⟩ := plain_of I hq
  have ei := refs_at rv
  subst ei
  rw [List.length_map] at hz
  obtain ⟨prs, qs, rel, hl, hl2, hpr⟩ := pairsT I hp
  have items : PairItems s.heap (ps.map Value.ref).toArray (fun j => (ps[j]?).getD 0) qs := by
    refine ⟨by simp [hl], fun j u y e => ?_⟩
    obtain ⟨b, k, e1, e2, _⟩ := hpr j u y e
    exact ⟨by simp [e1], by simp only [e1, Option.getD_some]; exact .inl e2⟩
  refine PySem.call_dict_pairs (knd := mixKind X.prog X.w) (kvs := prs) (PairArg.tuple a _ (fun j => (ps[j]?).getD 0) qs) (I.ok.hd hcalm) ⟨pl, items⟩ ⟨by rw [hl2, hl], fun i key v e => ?_⟩ (by rw [hl]; exact hz) fun h' tk hd' k => ?_
  · obtain ⟨b, k, _, _, e3, e4⟩ := hpr i key v e
    exact ⟨k, e3, e4⟩
  · have hm : (s.heap.objs.size == sysModules) = false := beq_eq_false_iff_ne.mpr (Nat.ne_of_gt I.big)
    have hlen : (mergeK [] kvs).length ≤ sizeLine := by
      refine Nat.le_trans (length_mergeK kvs []) ?_
      rw [List.length_nil, Nat.zero_add, rel.length, hl2]
      exact hz
    exact ⟨.ref s.heap.objs.size, upd H s.heap.objs.size (.dK (mergeK [] kvs)), I.laid (t' := tk) (fun b o e => k b o (by simp) e) (Nat.le_refl _) (show ObjOk X.prog X.w _ _ _ (.dK (mergeK [] kvs)) from ⟨hlen, hm, merged [] prs, KV.merge rel .nil, hd'⟩), rfl, q _ (I.hok.fresh (Nat.le_refl _))⟩
end Ml

set_option autoImplicit false
namespace Ml
def pairsD : List Dv → Option (List (Dv × Dv))
  | [] => some []
  | .tup [k, v] :: ds => if isKy k = true then (pairsD ds).map fun r => (k, v) :: r else none
  | _ => none
def putsKy : List (Dv × Dv) → List Dv × List Dv → List Dv × List Dv
  | [], m => m
  | p :: ps, m => putsKy ps (putKy m.1 m.2 p.1 p.2)
/-- dict(t), t a tuple of pairs -/
def mDictT (ma : ME Dv) : ME Ob := fun e => (ma e).bind fun a e => match a with
  | .tup ds => match pairsD ds with
    | some ps => .ok (.dct false (putsKy ps ([], [])).1 (putsKy ps ([], [])).2) e
    | none => .ud
  | _ => .ud
end Ml

set_option linter.all false
set_option maxRecDepth 100000
set_option maxHeartbeats 1000000
namespace Ml
open L2 PySem.Spec PyProof.Rows
open PySem (Addr Str sizeLine)
section
variable {K : PySem.W.Frag} {sc : Sc} {Hs : Hp}
/-- pairs of data and pairs that are tracked -/
inductive PrRel (K : PySem.W.Frag) (sc : Sc) (Hs : Hp) : List (Dv × Dv) → List (L2.Key × V) → Prop where
  | nil : PrRel K sc Hs [] []
  | cons {p : Dv × Dv} {q : L2.Key × V} {ps : List (Dv × Dv)} {qs : List (L2.Key × V)} (h1 : keyK p.1 = some q.1) (h2 : Rep K sc Hs p.2 q.2) (h : PrRel K sc Hs ps qs) : PrRel K sc Hs (p :: ps) (q :: qs)
theorem pairsD_ok : ∀ {ds : List Dv} {ps : List (Dv × Dv)} {xs : List V}, pairsD ds = some ps → Reps K sc Hs ds xs →
    ∃ (as : List Addr) (kvs : List (L2.Key × V)), xs = as.map V.ref ∧ PySem.Paired (fun (a : Addr) (kv : L2.Key × V) => SqT K Hs a [kV kv.1, kv.2]) as kvs ∧ PrRel K sc Hs ps kvs
  | [], ps, xs, h, r => by
    cases h; simp only [Reps] at r
    exact ⟨[], [], r, .nil, .nil⟩
  | d :: ds, ps, xs, h, r => by
    simp only [Reps] at r
    obtain ⟨v, q, rfl, r1, r2⟩ := r
    unfold pairsD at h
    split at h
    · cases ‹d :: ds = []›
    · rename_i k y ds' e
      injection e with e1 e2
      subst e1; subst e2
      split at h
      · rename_i hk
        obtain ⟨ps', hp, rfl⟩ := Option.map_eq_some_iff.mp h
        obtain ⟨as, kvs, rfl, pr, rel⟩ := pairsD_ok hp r2
        simp only [Rep] at r1
        obtain ⟨a, zs, rfl, hz, rz⟩ := r1
        simp only [Reps] at rz
        obtain ⟨v1, q1, rfl, s1, v2, q2, rfl, s2, rfl⟩ := rz
        obtain ⟨kk, hkk⟩ := keyK_is hk
        have ek := keyK_rep hkk s1
        subst ek
        exact ⟨a :: as, (kk, v2) :: kvs, rfl, .cons hz.sq pr, .cons hkk s2 rel⟩
      · cases h
    · cases h
theorem puts_rel : ∀ {ps : List (Dv × Dv)} {kvs m : List (L2.Key × V)} {ks vs : List Dv}, PrRel K sc Hs ps kvs → keysK ks = some (m.map (·.1)) → Reps K sc Hs vs (m.map (·.2)) →
    keysK (putsKy ps (ks, vs)).1 = some ((mergeK m kvs).map (·.1)) ∧ Reps K sc Hs (putsKy ps (ks, vs)).2 ((mergeK m kvs).map (·.2))
  | [], [], m, ks, vs, .nil, h, r => ⟨h, r⟩
  | p :: ps, q :: kvs, m, ks, vs, .cons h1 h2 rel, h, r => by
    obtain ⟨a, b⟩ := put_rel h r h1 h2
    have q := puts_rel rel a b
    exact q
end
section
variable {C : Cc} {K : PySem.W.Frag} {ta : TE} {ma : ME Dv}
theorem prs_le {K : PySem.W.Frag} {H H' : Hp} (l : Le H H') : ∀ {as : List Addr} {kvs : List (L2.Key × V)}, PySem.Paired (fun (a : Addr) (kv : L2.Key × V) => SqT K H a [kV kv.1, kv.2]) as kvs → PySem.Paired (fun (a : Addr) (kv : L2.Key × V) => SqT K H' a [kV kv.1, kv.2]) as kvs
  | _, _, .nil => .nil
  | _, _, .cons h t => .cons (sqt_le l h) (prs_le l t)
theorem seo_dictT (hK : C.K = K) (ha : SE C ta ma) : SEO C (tCB (rDictP K) (tCons ta tNil)) (mDictT ma) := fun Z Hs e σ H k Q w =>
  ha Z Hs e σ H k _ (we_bind (fun a e1 x Hs1 H1 p1 k1 r1 w1 => by
    subst hK
    split at w1
    · rename_i ds
      split at w1
      · rename_i ps hp
        simp only [rD, Rep] at r1
        obtain ⟨p, xs, rfl, hx, rx⟩ := r1
        obtain ⟨as, kvs, rfl, pr, rel⟩ := pairsD_ok hp rx
        refine ⟨p, as, kvs, rfl, plt_le k1.le hx, prs_le k1.le pr, fun q hq => ?_⟩
        obtain ⟨hk, hv⟩ := puts_rel (m := []) (ks := []) (vs := []) rel rfl reps_nil
        exact w1 _ Hs1 (upd H1 q (.dK (mergeK [] kvs))) Post.newO (k1.newO hq) ⟨q, rfl, k1.hs_none hq, ⟨k1.h0_none hq, k1.z_none hq⟩, ⟨mergeK [] kvs, upd_same, hk, hv⟩, k1.fresh hq⟩
      · exact w1.elim
    · exact w1.elim) w)
theorem dictPK {X : Cx} {K : PySem.W.Frag} (hc : X.calm = true) (hK : X.K = K) : CallR X (.type "dict") (rDictP K) := by subst hK; exact cr_dictP hc
end
end Ml

set_option autoImplicit false
namespace Ml
/-- a walk of an owned dict's keys; the dict stands still meanwhile -/
def backD (i : Nat) (s : Slt) : Sr → Sr
  | .nx e => match e[i]? with
    | some .un => .nx (e.set i s)
    | _ => .ud
  | .rt r e => match s with
    | .ow none _ => .rt r e
    | _ => .ud
  | _ => .ud
def sForD (i : Nat) (g : MG) (b : MS) : MS := fun e => match e[i]? with
  | some (.ow j (.dct false ks vs)) => backD i (.ow j (.dct false ks vs)) (loop g b ks (e.set i .un))
  | _ => .ud
end Ml

set_option linter.all false
set_option maxRecDepth 100000
set_option maxHeartbeats 1000000
namespace Ml
open L2
open PySem (Addr Str sizeLine)
section
variable {C : Cc} {Z Hs H : Hp} {e : Loc} {σ : L2.St}
/-- an owned object stands hidden for a while -/
theorem StOk.park (k : StOk C Z Hs e σ H) {i : Nat} {j : Option Nat} {o : Ob} {p : Addr} (he : e[i]? = some (.ow j o)) (hp : σ[i]? = some (some (.ref p))) (u : HO) : StOk C (upd Z p u) Hs (e.set i .un) σ (upd H p u) where
  len := by rw [List.length_set]; exact k.len
  le := fun a v q => by
    obtain ⟨p', e1, e2, _⟩ := k.own he
    rw [hp] at e1; cases e1
    rw [upd_ne (ne_of_none q e2)]
    exact k.le a v q
  slot := fun i' s hs => by
    obtain ⟨p', e1, e2, e3, e4⟩ := k.own he
    rw [hp] at e1; cases e1
    by_cases z : i = i'
    · subst z
      have hi : i < e.length := (List.getElem?_eq_some_iff.mp he).1
      rw [List.getElem?_set_self hi] at hs
      cases hs
      trivial
    · rw [List.getElem?_set_ne z] at hs
      have q := k.slot i' s hs
      cases s with
      | un => trivial
      | fz d => exact q
      | ow j' o2 =>
        obtain ⟨p2, f1, f2, f3, f4⟩ := q
        have ne : p2 ≠ p := fun z2 => z (k.sep i i' j j' o o2 p he hs hp (by rw [f1, z2]))
        exact ⟨p2, f1, f2, f3.mono Le.rfl' (upd_ne ne), f4⟩
  sep := fun a b j1 j2 o1 o2 q h1 h2 h3 h4 => by
    have f : ∀ {c : Nat} {j' o''}, (e.set i .un)[c]? = some (Slt.ow j' o'') → e[c]? = some (.ow j' o'') := fun {c j' o''} h => by
      by_cases z : i = c
      · subst z
        rw [List.getElem?_set_self (List.getElem?_eq_some_iff.mp he).1] at h; cases h
      · rwa [List.getElem?_set_ne z] at h
    exact k.sep a b _ _ _ _ q (f h1) (f h2) h3 h4
  frame := fun a v h h' => by
    have ne : a ≠ p := fun z => h' (z ▸ k.unframed he hp v (z ▸ h))
    rw [upd_ne ne]
    exact k.frame a v h h'
  dom := fun a h => dom_upd a (k.dom a h)
  news := k.news
  par := k.par
  hid := fun a v q => by
    obtain ⟨p', e1, e2, _⟩ := k.own he
    rw [hp] at e1; cases e1
    by_cases z : a = p
    · subst z
      rw [upd_same] at q ⊢
      exact ⟨q, e2⟩
    · rw [upd_ne z] at q ⊢
      exact k.hid a v q
  hids := fun c j1 o1 q h h' => by
    by_cases z : i = c
    · subst z
      rw [List.getElem?_set_self (List.getElem?_eq_some_iff.mp he).1] at h; cases h
    · rw [List.getElem?_set_ne z] at h
      have ne : q ≠ p := fun z2 => z (k.sep i c j j1 o o1 p he h hp (by rw [h', z2]))
      rw [upd_ne ne]
      exact k.hids c j1 o1 q h h'
theorem StOk.unpark {u : HO} {p : Addr} (k : StOk C (upd Z p u) Hs e σ H) {i : Nat} {j : Option Nat} {o : Ob} (he : e[i]? = some .un) (hp : σ[i]? = some (some (.ref p))) (hz : Z p = none) (hj : JOk C p j) (hf : ∀ v, C.H0 p = some v → p ∈ C.P) {u' : HO} (ho : OwnAt C.K C.sc Hs (upd H p u') p o) :
    StOk C Z Hs (e.set i (.ow j o)) σ (upd H p u') := by
  have hi : i < e.length := (List.getElem?_eq_some_iff.mp he).1
  have hn : Hs p = none := (k.hid p u upd_same).2
  have alone : ∀ {c : Nat} {j' o' q}, e[c]? = some (Slt.ow j' o') → σ[c]? = some (some (.ref q)) → q ≠ p := fun {c j' o' q} h1 h2 z => by
    have := k.hids c j' o' q h1 h2
    rw [z, upd_same] at this; cases this
  have at_ : ∀ {c : Nat} {s : Slt}, (e.set i (.ow j o))[c]? = some s → (i = c ∧ s = .ow j o) ∨ (i ≠ c ∧ e[c]? = some s) := fun {c s} h => by
    by_cases z : i = c
    · subst z
      rw [List.getElem?_set_self hi] at h
      cases h
      exact .inl ⟨rfl, rfl⟩
    · rw [List.getElem?_set_ne z] at h; exact .inr ⟨z, h⟩
  refine ⟨by rw [List.length_set]; exact k.len, fun a v q => ?_, fun c s hs => ?_, fun a b j1 j2 o1 o2 q h1 h2 h3 h4 => ?_, fun a v h h' => ?_, fun a h => dom_upd a (k.dom a h), k.news, k.par, fun a v q => ?_, fun c j1 o1 q h h' => ?_⟩
  · rw [upd_ne (ne_of_none q hn)]; exact k.le a v q
  · rcases at_ hs with ⟨rfl, rfl⟩ | ⟨z, hs⟩
    · exact ⟨p, hp, hn, ho, hj⟩
    · have q := k.slot c s hs
      cases s with
      | un => trivial
      | fz d => exact q
      | ow j' o2 =>
        obtain ⟨p2, f1, f2, f3, f4⟩ := q
        exact ⟨p2, f1, f2, f3.mono Le.rfl' (upd_ne (alone hs f1)), f4⟩
  · rcases at_ h1 with ⟨rfl, _⟩ | ⟨z1, h1⟩
    · rcases at_ h2 with ⟨rfl, _⟩ | ⟨z2, h2⟩
      · rfl
      · rw [hp] at h3; cases h3
        exact absurd rfl (alone h2 h4)
    · rcases at_ h2 with ⟨rfl, _⟩ | ⟨z2, h2⟩
      · rw [hp] at h4; cases h4
        exact absurd rfl (alone h1 h3)
      · exact k.sep a b _ _ _ _ q h1 h2 h3 h4
  · have ne : a ≠ p := fun z => h' (z ▸ hf v (z ▸ h))
    rw [upd_ne ne]; exact k.frame a v h h'
  · have ne : a ≠ p := ne_of_none q hz
    rw [upd_ne ne]
    exact k.hid a v (by rw [upd_ne ne]; exact q)
  · rcases at_ h with ⟨rfl, _⟩ | ⟨z, h⟩
    · rw [hp] at h'; cases h'; exact hz
    · have := k.hids c j1 o1 q h h'
      rwa [upd_ne (alone h h')] at this
end
end Ml

set_option linter.all false
set_option maxRecDepth 100000
set_option maxHeartbeats 1000000
namespace Ml
open L2
open PySem (Addr Str sizeLine)
section
variable {C : Cc} {A B : List Nat} {t : TS} {m : MS}
def IterZ (C : Cc) (J : It) (Z Hs0 : Hp) (ds : List Dv) : Prop := ∀ (k : Nat) Hs1 e1 σ1 H1, StOk C Z Hs1 e1 σ1 H1 → Le Hs0 Hs1 →
  (∀ d, ds[k]? = some d → J.go k H1 ∧ ∀ x H2, J.yld k H1 x H2 → ∃ Hs2, Post Hs1 H1 Hs2 H2 ∧ StOk C Z Hs2 e1 σ1 H2 ∧ Rep C.K C.sc Hs2 d x) ∧ (ds.length ≤ k → J.stop k H1)
theorem for_core {J : It} {Z Hs1 H1 : Hp} {e1 : Loc} {σ : L2.St} {ds : List Dv} {g : TG} {mg : MG} {Dn : Ends} (it : IterZ C J Z Hs1 ds) (hg : SG C A g mg) (hb : SS C B t m) (k1 : StOk C Z Hs1 e1 σ H1) (w1 : WS C Z (A ++ B) σ Hs1 H1 (loop mg m ds e1) Dn) :
    ∃ W : Nat → Nat → L2.St → Hp → Prop, (∃ m, W 0 m σ H1) ∧ ∀ i m σ H, W i m σ H →
      (J.stop i H ∧ Dn.nx σ H) ∨ (J.go i H ∧ ∃ N : L2.St → Hp → Prop, (∀ σ' H', N σ' H' → ∃ m', m' < m ∧ W (i + 1) m' σ' H') ∧ ∀ x H', J.yld i H x H' → g x σ H' fun σ2 H2 => t { Dn with nx := N, ct := N, bk := Dn.nx } σ2 H2) := by
  refine ⟨fun i mm σ' H' => mm = ds.length - i ∧ i ≤ ds.length ∧ ∃ Hs' e', Post Hs1 H1 Hs' H' ∧ StOk C Z Hs' e' σ' H' ∧ WS C Z (A ++ B) σ' Hs' H' (loop mg m (ds.drop i) e') Dn,
    ⟨ds.length, rfl, Nat.zero_le _, Hs1, e1, Post.refl, k1, w1⟩, ?_⟩
  rintro i mm σ' H' ⟨rfl, hle, Hs', e', p', k', w'⟩
  obtain ⟨itg, its⟩ := it i Hs' e' σ' H' k' p'.le
  by_cases hlt : i < ds.length
  · obtain ⟨d, hd, hdr⟩ := drop_cons hlt
    obtain ⟨go, yl⟩ := itg d hd
    rw [hdr] at w'
    refine .inr ⟨go, fun σ3 H3 => ∃ Hs3 e3, Post Hs1 H1 Hs3 H3 ∧ StOk C Z Hs3 e3 σ3 H3 ∧ WS C Z (A ++ B) σ3 Hs3 H3 (loop mg m (ds.drop (i + 1)) e3) Dn, fun σ3 H3 h3 => ⟨ds.length - (i + 1), by omega, rfl, hlt, h3⟩, fun x H2 hy => ?_⟩
    obtain ⟨Hs2, p2, k2, r2⟩ := yl x H2 hy
    have w2 : WS C Z (A ++ B) σ' Hs' H' (match mg d e' with
      | none => .ud
      | some e => match m e with
        | .nx e => loop mg m (ds.drop (i + 1)) e
        | .ct e => loop mg m (ds.drop (i + 1)) e
        | .bk e => .nx e
        | r => r) Dn := w'
    cases q : mg d e' with
    | none => rw [q] at w2; exact w2.elim
    | some e2 =>
      rw [q] at w2
      refine hg Z Hs2 e' σ' H2 k2 d x e2 r2 q _ fun σ2 k3 kp3 => ?_
      refine hb Z Hs2 e2 σ2 H2 k3 _ ?_
      have cvt : ∀ {σ4 : L2.St} {r : Sr} {Hs4 H4 : Hp} {D2 : Ends}, Post Hs2 H2 Hs4 H4 → Kp B σ2 σ4 → WS C Z (A ++ B) σ' Hs' H' r D2 → WS C Z (A ++ B) σ4 Hs4 H4 r D2 := fun {σ4 r Hs4 H4 D2} p4 kp4 h4 =>
        ws_step (p2.trans p4) (fun _ z => ⟨z.1.trans (kp4.1.trans kp3.1), fun j hj => ((z.2 j hj).trans (kp4.2 j fun q => hj (List.mem_append_right _ q))).trans (kp3.2 j fun q => hj (List.mem_append_left _ q))⟩) h4
      cases q2 : m e2 with
      | nx e3 => simp only [q2] at w2; exact fun Hs4 σ4 H4 p4 k4 kp4 => ⟨Hs4, e3, (p'.trans p2).trans p4, k4, cvt p4 kp4 w2⟩
      | ct e3 => simp only [q2] at w2; exact fun Hs4 σ4 H4 p4 k4 kp4 => ⟨Hs4, e3, (p'.trans p2).trans p4, k4, cvt p4 kp4 w2⟩
      | bk e3 => simp only [q2] at w2; exact fun Hs4 σ4 H4 p4 k4 kp4 => w2 Hs4 σ4 H4 (p2.trans p4) k4 (kp3.trans kp4)
      | rt s e3 => simp only [q2] at w2; exact fun v Hs4 σ4 H4 p4 k4 r4 => w2 v Hs4 σ4 H4 (p2.trans p4) k4 r4
      | er x e3 => simp only [q2] at w2; exact fun Hs4 σ4 H4 c od p4 k4 r4 => w2 Hs4 σ4 H4 c od (p2.trans p4) k4 r4
      | ud => simp only [q2] at w2; exact w2.elim
  · have e0 : ds.drop i = [] := List.drop_eq_nil_of_le (by omega)
    rw [e0] at w'
    exact .inl ⟨its (by omega), w' Hs' σ' H' Post.refl k' Kp.refl⟩
theorem keysK_get : ∀ {ks : List Dv} {l : List L2.Key} {n : Nat} {d : Dv}, keysK ks = some l → ks[n]? = some d → ∃ k, l[n]? = some k ∧ keyK d = some k
  | [], _, n, d, _, h => by simp at h
  | x :: ks, l, n, d, h, hn => by
    obtain ⟨k, l', rfl, h1, h2⟩ := keysK_cons h
    cases n with
    | zero => simp at hn; subst hn; exact ⟨k, rfl, h1⟩
    | succ n =>
      obtain ⟨k', e1, e2⟩ := keysK_get h2 (by simpa using hn)
      exact ⟨k', by simpa using e1, e2⟩
theorem rep_key {K : PySem.W.Frag} {sc : Sc} {Hs : Hp} {d : Dv} {k : L2.Key} (h : keyK d = some k) : Rep K sc Hs d (kV k) := by
  cases d with
  | int i => cases h; simp only [Rep]; rfl
  | str s => cases h; simp only [Rep]; rfl
  | _ => cases h
theorem OwnAt.nofrz {K : PySem.W.Frag} {sc : Sc} {Hs H : Hp} {p : Addr} {o : Ob} (h : OwnAt K sc Hs H p o) {od : PySem.Obj} {u : HO} : H p ≠ Option.some (HO.frz od u) := fun z => by
  cases o with
  | lst ds => obtain ⟨xs, e, _⟩ := h; rw [e] at z; cases z
  | set ks => obtain ⟨L, e, _⟩ := h; rw [e] at z; cases z
  | dct t ks vs => cases t with
    | false => obtain ⟨kvs, e, _⟩ := h; rw [e] at z; cases z
    | true => obtain ⟨kvs, e, _⟩ := h; rw [e] at z; cases z
theorem ss_forD {i : Nat} {g : TG} {mg : MG} (hg : SG C A g mg) (hb : SS C B t m) (hi : i ∉ A ++ B) : SS C (A ++ B) (tLock (tFor (iKeys (tVar i)) g t)) (sForD i mg m) := fun Z Hs e σ H k Dn w => by
  unfold sForD at w
  split at w
  · rename_i j ks vs he
    obtain ⟨p, hp, hn, ⟨kvs, hx, hk, rv⟩, hj⟩ := k.own he
    have hf := k.unframed he hp
    have hz := k.hids i _ _ p he hp
    refine ⟨p, .dK kvs, hx, trivial, fun od => ?_⟩
    have kP := k.park he hp (.frz od (.dK kvs))
    refine ⟨.ref p, hp, p, od, rfl, .inl ⟨kvs, upd_same, ?_⟩⟩
    refine for_core (ds := ks) (fun n Hs1 e1 σ1 H1 k1 l => ?_) hg hb kP ?_
    · have h1 := (k1.hid p _ upd_same).1
      have hl := keysK_len hk
      rw [List.length_map] at hl
      refine ⟨fun d hd => ⟨⟨h1, by rw [← hl]; exact (List.getElem?_eq_some_iff.mp hd).1⟩, fun x H2 hy => ?_⟩, fun z => ⟨h1, by rw [← hl]; exact z⟩⟩
      obtain ⟨rfl, kk, v, e2, rfl⟩ := hy
      obtain ⟨k', e3, e4⟩ := keysK_get hk hd
      rw [List.getElem?_map, e2] at e3
      cases e3
      exact ⟨Hs1, Post.refl, k1, rep_key e4⟩
    · have post : ∀ {Hs' H' : Hp}, Post Hs (upd H p (.frz od (.dK kvs))) Hs' H' → Post Hs H Hs' (upd H' p (.dK kvs)) := fun {Hs' H'} q => ⟨q.le, fun a h => dom_upd a (q.dom a (dom_upd a h))⟩
      have own : ∀ {Hs' H' : Hp}, Le Hs Hs' → OwnAt C.K C.sc Hs' (upd H' p (.dK kvs)) p (.dct false ks vs) := fun l => ⟨kvs, upd_same, hk, reps_le l rv⟩
      cases q : loop mg m ks (e.set i .un) with
      | nx e' =>
        rw [q] at w
        have w : WS C Z (A ++ B) σ Hs H (match e'[i]? with
          | some .un => .nx (e'.set i (.ow j (.dct false ks vs)))
          | _ => .ud) Dn := w
        split at w
        · rename_i hu
          intro Hs' σ' H' p' k' kp
          have hp' : σ'[i]? = some (some (.ref p)) := (kp.2 i hi).trans hp
          exact ⟨(k'.hid p _ upd_same).1, w Hs' σ' _ (post p') (k'.unpark hu hp' hz hj hf (own p'.le)) kp⟩
        · exact w.elim
      | rt r e' =>
        rw [q] at w
        cases j with
        | some n => exact w.elim
        | none =>
          intro v Hs' σ' H' p' k' rk
          have h1 := (k'.hid p _ upd_same).1
          have k2 := (k'.hmut (o' := .dK kvs) hj).zle (Le.new hz)
          refine ⟨h1, w v Hs' σ' _ (post p') k2 ?_⟩
          cases r with
          | un => exact rk
          | fz d => exact rk
          | ow j2 o2 =>
            cases j2 with
            | some n => exact rk
            | none =>
              obtain ⟨a, rfl, r1, r2, r3⟩ := rk
              have ne : a ≠ p := fun z => r3.nofrz (z ▸ h1)
              exact ⟨a, rfl, r1, r2, r3.mono Le.rfl' (upd_ne ne)⟩
      | bk e' => rw [q] at w; exact w.elim
      | ct e' => rw [q] at w; exact w.elim
      | er x e' => rw [q] at w; exact w.elim
      | ud => rw [q] at w; exact w.elim
  · exact w.elim
end
end Ml

set_option autoImplicit false
namespace Ml
/-- lo, lo + c, .. below hi; c above 0 -/
def itR3 (lo hi c : Int) : Option (List Dv) := if -big ≤ lo ∧ lo ≤ big ∧ -big ≤ hi ∧ hi ≤ big ∧ 0 < c ∧ c < 1000 then some ((List.range ((if lo < hi then (hi - lo - 1) / c + 1 else 0 : Int)).toNat).map fun (k : Nat) => Dv.int (lo + (k : Int) * c)) else none
def mRg3 (a b c : ME Dv) : ME (List Dv) := fun e => (a e).bind fun x e => (b e).bind fun y e => (c e).bind fun z e => match x, y, z with
  | .int x, .int y, .int z => .of (itR3 x y z) e
  | _, _, _ => .ud
/-- xs.insert(k, y) -/
def sInsA (i : Nat) (mk m : ME Dv) : MS := fun e => if isLs e[i]? = true then (mk e).go fun k e => (m e).go fun d e => match e[i]?, k with
    | some (.ow j (.lst ds)), .int n => if ds.length < lim ∧ 0 ≤ n ∧ n ≤ big then .nx (e.set i (.ow j (.lst (ds.take n.toNat ++ [d] ++ ds.drop n.toNat)))) else .ud
    | _, _ => .ud
  else .ud
/-- xs[lo:hi] of an owned list -/
def mSlO (i : Nat) (lo hi : Option (ME Dv)) : ME Ob := fun e => if isLs e[i]? = true then (mPart lo e).bind fun a e => (mPart hi e).bind fun b e => match e[i]? with
    | some (.ow _ (.lst ds)) => .ok (.lst (cutN ds a b)) e
    | _ => .ud
  else .ud
end Ml

set_option linter.all false
set_option maxRecDepth 100000
set_option maxHeartbeats 1000000
namespace Ml
open L2
open PySem (Addr Str sizeLine)
section
variable {C : Cc} {ta tb tc te ti : TE} {ma mb mc me mi : ME Dv}
theorem iter_rngC {Hs0 : Hp} {lo c : Int} {n : Nat} : IterOk C (Itc lo c n) Hs0 ((List.range n).map fun (k : Nat) => Dv.int (lo + (k : Int) * c)) := iter_same fun k Z Hs1 e1 σ1 H1 k1 l => by
  refine ⟨fun d hd => ?_, fun hk => by show n ≤ k; simpa using hk⟩
  rw [List.getElem?_map] at hd
  obtain ⟨c, hc, rfl⟩ := Option.map_eq_some_iff.mp hd
  have hlt : k < n := by simpa using (List.getElem?_eq_some_iff.mp hc).1
  rw [List.getElem?_range hlt] at hc; cases hc
  exact ⟨hlt, fun x H2 hy => ⟨hy.1, by simp only [Rep]; exact hy.2⟩⟩
theorem itR3_some {lo hi c : Int} {ds : List Dv} (h : itR3 lo hi c = some ds) : (-big ≤ lo ∧ lo ≤ big ∧ -big ≤ hi ∧ hi ≤ big ∧ 0 < c ∧ c < 1000) ∧ ds = (List.range ((if lo < hi then (hi - lo - 1) / c + 1 else 0 : Int)).toNat).map fun (k : Nat) => Dv.int (lo + (k : Int) * c) := by
  unfold itR3 at h
  split at h
  · rename_i hc; cases h; exact ⟨hc, rfl⟩
  · cases h
theorem rgC_pos {i j c : Int} (h1 : -big ≤ i) (h2 : i ≤ big) (h3 : -big ≤ j) (h4 : j ≤ big) (h5 : 0 < c) (h6 : c < 1000) : RgC i j c ((if i < j then (j - i - 1) / c + 1 else 0 : Int)).toNat := by
  unfold big at h1 h2 h3 h4
  refine ⟨by omega, by omega, ?_, ?_⟩
  · unfold PySem.Builtin.Range.small PySem.Builtin.Range.rangeSize
    have z : c > 0 := h5
    have q : 0 ≤ (j - i - 1) / c ∨ j ≤ i := by
      by_cases y : j ≤ i
      · exact .inr y
      · exact .inl (Int.ediv_nonneg (by omega) (by omega))
    have q2 : (j - i - 1) / c ≤ j - i - 1 ∨ j ≤ i := by
      by_cases y : j ≤ i
      · exact .inr y
      · exact .inl (Int.ediv_le_self _ (by omega))
    simp only [PySem.Builtin.Range.rangeFitsLong, Bool.and_eq_true, Bool.or_eq_true, decide_eq_true_eq, beq_iff_eq, if_pos z]
    split <;> omega
  · unfold PySem.Builtin.Range.rangeSize
    have z : c > 0 := h5
    rw [if_pos z]
    split
    · rename_i h
      have : 0 ≤ (j - i - 1) / c := Int.ediv_nonneg (by omega) (by omega)
      omega
    · rfl
theorem si_rng3 (h : SE C ta ma) (h' : SE C tb mb) (h'' : SE C tc mc) : SI C (iRng3 (tCons ta (tCons tb (tCons tc tNil)))) (mRg3 ma mb mc) := fun Z Hs e σ H k R w =>
  h Z Hs e σ H k _ (we_bind (fun a e1 x Hs1 H1 _ k1 r1 w1 => h' Z Hs1 e1 σ H1 k1 _ (we_bind (fun b e2 y Hs2 H2 p2 k2 r2 w2 => h'' Z Hs2 e2 σ H2 k2 _ (we_bind (fun c e3 z Hs3 H3 p3 k3 r3 w3 => by
    cases a with
    | int n =>
      cases b with
      | int m =>
        cases c with
        | int l =>
          have r1 : x = .int n := by simpa only [rD, Rep] using r1
          have r2 : y = .int m := by simpa only [rD, Rep] using r2
          have r3 : z = .int l := by simpa only [rD, Rep] using r3
          subst r1; subst r2; subst r3
          obtain ⟨ds, hd, w4⟩ := we_of w3
          obtain ⟨⟨b1, b2, b3, b4, b5, b6⟩, rfl⟩ := itR3_some hd
          exact ⟨n, m, l, _, rfl, rgC_pos b1 b2 b3 b4 b5 b6, we_ok w4 k3 iter_rngC⟩
        | _ => exact w3.elim
      | _ => exact w3.elim
    | _ => exact w3.elim) w2)) w1)) w)
def rIns : V → List V → Hp → VK → Prop := fun x vs H Q => ∃ (l : Addr) (xs : List V) (i : Int) (y : V), x = .ref l ∧ vs = [.int i, y] ∧ H l = some (.lst xs) ∧ xs.length < sizeLine ∧ 0 ≤ i ∧ i < 2 ^ 63 ∧ Q .non (upd H l (.lst (xs.take i.toNat ++ [y] ++ xs.drop i.toNat)))
theorem ss_ins {i : Nat} {K : PySem.W.Frag} (hi : SE C ti mi) (h : SE C te me) : SS C [] (tDrop (tBM K "list" rIns (tVar i) (tCons ti (tCons te tNil)))) (sInsA i mi me) := fun Z Hs e σ H k Dn w => by
  unfold sInsA at w
  split at w
  · rename_i ho
    obtain ⟨j, ds0, he⟩ := ls_of ho
    obtain ⟨p, e1, hn, own, _⟩ := k.own he
    obtain ⟨xs0, hx0, _⟩ := own
    refine ⟨_, e1, .inl ⟨rfl, xs0, SqL.of hx0⟩, hi Z Hs e σ H k _ (we_go (fun a e1' u Hs1 H1 p1 k1 r1 w1 => h Z Hs1 e1' σ H1 k1 _ (we_go (fun d e2 v Hs2 H2 p2 k2 r2 w2 => ?_) w1)) w)⟩
    split at w2
    · rename_i j2 ds n he2
      obtain ⟨p', e1'', _, ⟨xs, hx, rx⟩, _⟩ := k2.own he2
      rw [e1] at e1''; cases e1''
      split at w2
      · rename_i hl
        have r1 : u = .int n := by simpa only [rD, Rep] using r1
        subst r1
        have h2 := hl.2.2
        unfold big at h2
        refine ⟨p, xs, n, v, rfl, rfl, hx, by rw [reps_len rx]; exact lim_lt hl.1, hl.2.1, by omega, w2 Hs2 σ _ Post.newO (k2.mut he2 e1 ⟨_, upd_same, reps_app (reps_app (reps_take rx) (reps_cons r2 reps_nil)) (reps_drop rx)⟩) Kp.refl⟩
      · exact w2.elim
    · exact w2.elim
  · exact w.elim
theorem seo_slO {K : PySem.W.Frag} (hK : C.K = K) {i : Nat} {tl th : TO} {ml mh : Option (ME Dv)} (hl : SO C tl (mPart ml)) (hh : SO C th (mPart mh)) : SEO C (tSl (rSlL K) (tVar i) tl th) (mSlO i ml mh) := fun Z Hs e σ H k Q w => by
  subst hK
  unfold mSlO at w
  split at w
  · rename_i ho
    obtain ⟨j, ds0, he⟩ := ls_of ho
    obtain ⟨p, e1, hn, own, _⟩ := k.own he
    refine ⟨_, e1, hl Z Hs e σ H k _ (we_bind (fun a e1' a' Hs1 H1 p1 k1 r1 w1 => hh Z Hs1 e1' σ H1 k1 _ (we_bind (fun b e2 b' Hs2 H2 p2 k2 r2 w2 => ?_) w1)) w)⟩
    split at w2
    · rename_i j2 ds he2
      obtain ⟨p', e1'', _, ⟨xs, hx, rx⟩, _⟩ := k2.own he2
      rw [e1] at e1''; cases e1''
      cases r1; cases r2
      refine ⟨p, xs, rfl, SqL.of hx, fun l hl => ?_⟩
      rw [cutV_eq]
      exact we_newO w2 k2 hl (reps_cut rx a b)
    · exact w2.elim
  · exact w.elim
end
end Ml

set_option autoImplicit false
namespace Ml
/-- t + u of tuples, either of which may be empty -/
def oCatE : Dv → Dv → Option Dv
  | .tup a, .tup b => if a.length + b.length ≤ lim then some (.tup (a ++ b)) else none
  | _, _ => none
end Ml

set_option linter.all false
set_option maxRecDepth 100000
set_option maxHeartbeats 1000000
namespace Ml
open L2
open PySem (Addr Str sizeLine)
def rCatE (K : PySem.W.Frag) : R2 := fun x y H Q => ∃ a b xs ys, x = .ref a ∧ y = .ref b ∧ SqT K H a xs ∧ SqT K H b ys ∧ xs.length + ys.length ≤ sizeLine ∧
  (xs = [] → Q (.ref b) H) ∧ (xs ≠ [] → ys = [] → Q (.ref a) H) ∧ (xs ≠ [] → ys ≠ [] → NewT (xs ++ ys) H Q)
theorem op_catE {X : Cx} : OpR X (PySem.binaryOp .Add) (rCatE X.K) := by
  intro pins s σ H x y v u Q I rx ry h
  obtain ⟨a, b, xs, ys, rfl, rfl, ha, hb, hz, q0, q1, q2⟩ := h
  cases rx
  cases ry
  obtain ⟨its, r1, p1, _⟩ := I.tuple ha
  obtain ⟨its2, r2, p2, _⟩ := I.tuple hb
  by_cases hx : xs = []
  · have hi : its = [] := r1.nil_iff.mpr hx
    subst hi
    exact cat_tup0 p1 p2 ⟨.ref b, H, I, rfl, q0 hx⟩
  · refine HT.cat_tup p1 p2 (fun z => hx (r1.nil_iff.mp z)) (fun z => ⟨.ref a, H, I, rfl, q1 hx (r2.nil_iff.mp z)⟩) (fun z => ?_) (by rw [← r1.length, ← r2.length]; exact hz)
    exact newT_ok (tk := s.toks) I (r1.append r2) (by rw [List.length_append]; exact hz) (q2 hx fun w => z (r2.nil_iff.mpr w))
section
variable {C : Cc} {K : PySem.W.Frag} {X : Cx}
theorem rv_catE (hK : C.K = K) : RV C (rCatE K) oCatE := fun Z Hs e σ H k x y a b c Q ra rb hf w => by
  subst hK
  unfold oCatE at hf
  split at hf
  · split at hf
    · rename_i hc
      cases hf
      simp only [Rep] at ra rb
      obtain ⟨p, xs, rfl, hx, rx⟩ := ra
      obtain ⟨q, ys, rfl, hy, ry⟩ := rb
      refine ⟨p, q, xs, ys, rfl, rfl, sqt_le k.le hx.sq, sqt_le k.le hy.sq, by rw [reps_len rx, reps_len ry]; exact lim_line hc, fun z => ?_, fun _ z => ?_, fun _ z => ?_⟩
      · subst z
        have := reps_len rx
        have := List.eq_nil_of_length_eq_zero this.symm
        subst this
        rw [List.nil_append] at w
        exact we_ok w k (by simp only [rD, Rep]; exact ⟨q, ys, rfl, hy, ry⟩)
      · subst z
        have := reps_len ry
        have := List.eq_nil_of_length_eq_zero this.symm
        subst this
        rw [List.append_nil] at w
        exact we_ok w k (by simp only [rD, Rep]; exact ⟨p, xs, rfl, hx, rx⟩)
      · exact we_newT w k (reps_app rx ry)
    · cases hf
  · cases hf
theorem catEK (hK : X.K = K) : OpR X (PySem.binaryOp .Add) (rCatE K) := by subst hK; exact op_catE
end
end Ml

set_option autoImplicit false
namespace Ml
/-- sorted(d), d an owned dict with int keys -/
def mSortKs (i : Nat) : ME Ob := fun e => match e[i]? with
  | some (.ow _ (.dct false ks _)) => match intsOf ks with
    | some l => if l.length < 64 then .ok (.lst ((srtZ l).map .int)) e else .ud
    | none => .ud
  | _ => .ud
def prD (p : Int × Int) : Dv := .tup [.int p.1, .int p.2]
/-- sorted(d.items()), d an owned dict with int keys and int values -/
def mSortIt (i : Nat) : ME Ob := fun e => match e[i]? with
  | some (.ow _ (.dct false ks vs)) => match intsOf ks, intsOf vs with
    | some l, some m => if l.length < 64 then .ok (.lst ((srtD ((l.zip m).map fun p => ([p.1, p.2], prD p))).map (·.2))) e else .ud
    | _, _ => .ud
  | _ => .ud
end Ml

set_option linter.all false
set_option Elab.async false
set_option maxRecDepth 100000
set_option maxHeartbeats 4000000
namespace Srt3
open PySem PySem.Spec PyProof.Rows SrtO Srt2 L2
section
variable {prog : Program} {w : World} {A : Around} {E : Value → Shared → Prop} {s : Shared} {r d : Addr} {es : Array DictEntry} {ep : Nat}
theorem sorted_itmO {Q : Value → Shared → Prop} (hh : A.handled = none) (hv : s.heap.IsItemsView r d) (hm : DT.Raw s.heap d es ep) (hn : es.size ≤ sizeLine)
    (h : ∀ (h1 : Heap) (tk : Nat) (as : List Addr), (∀ b o, s.heap.get? b = some o → h1.get? b = some o) → s.heap.objs.size < h1.objs.size → as.length = es.size → DT.Made es s.heap.objs.size h1 as →
      (∀ v ∈ as.map Value.ref, IsInts h1 v (intsAt h1 v)) ∧ (∀ v ∈ as.map Value.ref, intsAt h1 v ≠ []) ∧
      ∀ (h' : Heap) (d : Addr), (∀ b o, h1.get? b = some o → h'.get? b = some o) → h1.objs.size ≤ d → (∃ n, h'.get? d = some (seqObj "list" (isortB (fun v u => lexI (intsAt h1 v) (intsAt h1 u)) (as.map Value.ref)).toArray n)) → Q (.ref d) { s with heap := h', toks := tk }) :
    wpAny (model prog w) A (call (.builtin "sorted") [.ref r]) Q E s := by
  refine Calls.call_function_entry kind_sorted plain_sorted entry_sorted (args_sorted1 _) ?_
  unfold Builtin.«sorted»
  refine wpAny_bind (m := checkCount "sorted" 1 1 _) (wpAny_pure ?_)
  refine wpAny_bind (DT.collectI (A := A.in1) (es := es) (ep := ep) hh hv hm hn fun h1 tk as hk hlt hl hG => ?_)
  obtain ⟨iv, nv, q⟩ := h h1 tk as hk hlt hl hG
  refine sort_rest (s := { s with heap := h1, toks := tk }) (h1 := h1) (lexI_swo (intsAt h1)) (by rw [List.length_map, hl]; exact hn) (fun b o e => e) (Nat.le_refl _) (fun h2 => ?_) fun h' d kp hd hn' => q h' d kp hd hn'
  refine ints_sortable (by omega) (fun v hm => (iv v hm).keeps fun b o e _ => Heap.get?_push_of_some _ e) nv fun o e => ?_
  have e' : some o = some (seqObj "list" (as.map Value.ref).toArray 0) := e.symm.trans (Heap.get?_push_size _ rfl)
  cases e'
  intro c
  exact absurd (Value.type.inj c) (by decide)
end
end Srt3
namespace L2
open PySem PySem.Spec PyProof.Rows SrtO Srt2 Srt3 L2.DX
section
variable {X : Cx}
/-- d.items() -/
def rItemsK : V → List V → Hp → VK → Prop := fun x xs H Q => ∃ (a : Addr) (kvs : List (Key × V)), x = .ref a ∧ xs = [] ∧ H a = some (.dK kvs) ∧ ∀ p, H p = none → Q (.ref p) (upd H p (itemsO p a))
theorem mt_itemsK : MtR X "dict.items" rItemsK := by
  intro pins s σ H x xs v us Q I rx rxs h
  obtain ⟨a, kvs, rfl, rfl, ha, q⟩ := h
  cases rx
  cases rxs
  obtain ⟨hz, hs0, vs, kv, hdo⟩ := I.hok a _ ha
  obtain ⟨ep, o, es, ho, hx, hdat, _⟩ := hdo.dictAt
  refine DT.callItems (es := es) (ep := ep) hs0 ⟨o, ho, hx, hdat⟩ ?_
  have hf : H s.heap.objs.size = none := I.hok.fresh (Nat.le_refl _)
  exact ⟨.ref s.heap.objs.size, upd H s.heap.objs.size (itemsO s.heap.objs.size a), I.laid (t' := s.toks) (fun b u e => Heap.get?_push_of_some _ e) (Nat.le_refl _) (itemsO_ok (Heap.get?_push_size _ rfl)), rfl, q _ hf⟩
/-- tuples tracked, as they stand -/
def putFz : Hp → List (Addr × Obj × List Int) → Hp
  | H, [] => H
  | H, t :: T => putFz (upd H t.1 (.frz t.2.1 (.tup (t.2.2.map V.int)))) T
theorem putFz_off {b : Addr} : ∀ (T : List (Addr × Obj × List Int)) (H : Hp), b ∉ T.map (·.1) → putFz H T b = H b
  | [], _, _ => rfl
  | t :: T, H, h => by
    rw [List.map_cons, List.mem_cons, not_or] at h
    show putFz (upd H t.1 _) T b = H b
    rw [putFz_off T _ h.2, upd_ne h.1]
theorem take_F {pins : List (Addr × Obj)} {σ : L2.St} {H0 : Hp} {s : Shared} {h' : Heap} {tk : Nat} (I0 : Inv X pins σ H0 s) : ∀ (T : List (Addr × Obj × List Int)) (H1 : Hp), Inv X pins σ H1 { s with heap := h', toks := tk } → (T.map (·.1)).Nodup →
    (∀ t ∈ T, s.heap.objs.size ≤ t.1 ∧ H1 t.1 = none ∧ ∀ H2, ObjOk X.prog X.w H2 h' t.1 (.frz t.2.1 (.tup (t.2.2.map V.int)))) → Inv X pins σ (putFz H1 T) { s with heap := h', toks := tk }
  | [], H1, I1, _, _ => I1
  | t :: T, H1, I1, hn, h => by
    obtain ⟨hb, hnone, ok⟩ := h t List.mem_cons_self
    have h0 : H0 t.1 = none := I0.hok.fresh hb
    have I2 : Inv X pins σ (upd H1 t.1 (.frz t.2.1 (.tup (t.2.2.map V.int)))) { s with heap := h', toks := tk } := I1.take (h' := h') (t' := tk) (fun b ob _ e => e) (I0.fpOk hb hnone) (ok _)
    rw [List.map_cons, List.nodup_cons] at hn
    refine take_F I0 T _ I2 hn.2 fun c hc => ?_
    obtain ⟨c1, c2, c3⟩ := h c (List.mem_cons_of_mem _ hc)
    exact ⟨c1, by rw [upd_ne (fun z => hn.1 (by rw [← z]; exact List.mem_map.mpr ⟨c, hc, rfl⟩))]; exact c2, c3⟩
def rSortItK : List V → Hp → VK → Prop := fun vs H Q => ∃ (p a : Addr) (L : List (Int × Int)), vs = [.ref p] ∧ H p = some (itemsO p a) ∧ H a = some (.dK (L.map fun q => ((Sum.inl q.1 : Key), V.int q.2))) ∧
  ∀ (T : List (Addr × Obj × List Int)) (l : Addr), T.map (·.2.2) = L.map (fun q => [q.1, q.2]) → (∀ t ∈ T, H t.1 = none ∧ t.2.1.cls = .type "tuple" ∧ t.2.1.dict = none) → (T.map (·.1)).Nodup → H l = none → l ∉ T.map (·.1) →
    Q (.ref l) (upd (putFz H T) l (.lst ((isortB (fun q r : Addr × Obj × List Int => lexI q.2.2 r.2.2) T).map fun q => V.ref q.1)))
theorem cr_sortItK (hc : X.calm = true) : CallR X (.builtin "sorted") rSortItK := by
  intro pins s σ H xs us Q I r h
  obtain ⟨p, a, L, rfl, hp, ha, q⟩ := h
  obtain rfl := Vals.ref1 r
  have view : s.heap.IsItemsView p a := (show ObjOk X.prog X.w H s.heap p (itemsO p a) from I.hok p _ hp).1
  obtain ⟨hz, hs0, vs, kv, hdo⟩ := I.hok a _ ha
  obtain ⟨ep, o, es, ho, hx, hdat, hks, prs, hnd⟩ := hdo.dictAt
  have l1 : (L.map fun q => ((Sum.inl q.1 : Key), V.int q.2)).length = vs.length := Paired.length kv
  rw [List.length_map] at l1 hz
  have l2 : es.toList.length = vs.length := prs.length
  have l2 : es.size = L.length := by rw [Array.length_toList] at l2; omega
  have hh : X.A.handled = none := I.ok.hd hc
  refine sorted_itmO (es := es) (ep := ep) hh view ⟨o, ho, hx, hdat⟩ (by omega) fun h1 tk as hk hlt hl hG => ?_
  have nd : as.Nodup := List.Pairwise.imp (fun h => Nat.ne_of_lt h) hG.rise
  have lak : as.length = L.length := by omega
  -- the pairs that were made
  have pr : ∀ (j : Nat) (b : Addr), as[j]? = some b → ∃ (z : Int × Int) (t1 t2 : Tok), L[j]? = some z ∧ h1.get? b = some { cls := .type "tuple", data := .seq #[Value.int z.1 t1, Value.int z.2 t2] } := by
    intro j b hj
    obtain ⟨en, he, hg⟩ := hG.pairs j b hj
    have hjl : j < L.length := by have := (List.getElem?_eq_some_iff.mp hj).1; omega
    have hvj : vs[j]? = some vs[j] := List.getElem?_eq_getElem (by omega)
    have he' : es.toList[j]? = some en := by simpa using he
    obtain ⟨e1, e2⟩ := prs.get? he' hvj
    obtain ⟨q0, f1, f2, f3⟩ := LiI.paired_get kv (i := j) (x := ((Sum.inl L[j].1 : Key), V.int L[j].2)) (by simp [hjl])
    rw [hvj] at f1
    cases f1
    have f2 : (Sum.inl L[j].1 : Key) = (vs[j]).1 := f2
    have k1 : keyIs (Sum.inl L[j].1) en.key = true := by rw [f2]; exact e1
    obtain ⟨t1, ek⟩ := Value.isInt_shape (show Value.isInt L[j].1 en.key = true from k1)
    have f3 : RelV (V.int L[j].2) (vs[j]).2 := f3
    obtain ⟨t2, ev⟩ := f3
    refine ⟨L[j], t1, t2, List.getElem?_eq_getElem hjl, ?_⟩
    rw [hg, ek]
    have : en.val = (vs[j]).2 := e2
    rw [this, ev]
  have pairsI : ∀ (j : Nat) (b : Addr), as[j]? = some b → ∃ z : Int × Int, L[j]? = some z ∧ IsInts h1 (.ref b) [z.1, z.2] := fun j b hj => by
    obtain ⟨z, t1, t2, hz, hg⟩ := pr j b hj
    exact ⟨z, hz, b, _, [Value.int z.1 t1, Value.int z.2 t2], 0, rfl, hg, rfl, rfl, .cons ⟨t1, rfl⟩ (.cons ⟨t2, rfl⟩ .nil)⟩
  refine ⟨fun v hv => ?_, fun v hv => ?_, fun h' d kp hd hn' => ?_⟩
  · obtain ⟨b, hb, rfl⟩ := List.mem_map.mp hv
    obtain ⟨j, hj⟩ := List.mem_iff_getElem?.mp hb
    obtain ⟨z, _, hi⟩ := pairsI j b hj
    rw [intsAt_of hi]; exact hi
  · obtain ⟨b, hb, rfl⟩ := List.mem_map.mp hv
    obtain ⟨j, hj⟩ := List.mem_iff_getElem?.mp hb
    obtain ⟨z, _, hi⟩ := pairsI j b hj
    rw [intsAt_of hi]; simp
  · obtain ⟨n, hn'⟩ := hn'
    let T : List (Addr × Obj × List Int) := as.map fun b => (b, (h1.get? b).getD default, intsAt h1 (.ref b))
    have hT1 : T.map (·.1) = as := by
      simp only [T, List.map_map]
      exact (List.map_congr_left (g := id) fun _ _ => rfl).trans (List.map_id as)
    have hT2 : T.map (·.2.2) = L.map fun q => [q.1, q.2] := by
      apply List.ext_getElem?
      intro j
      simp only [T, List.map_map, List.getElem?_map]
      by_cases c : j < as.length
      · obtain ⟨z, hz, hi⟩ := pairsI j as[j] (List.getElem?_eq_getElem c)
        rw [List.getElem?_eq_getElem c, hz]
        simp only [Option.map_some, Function.comp, intsAt_of hi]
      · rw [List.getElem?_eq_none (by omega), List.getElem?_eq_none (by omega)]; rfl
    have hT3 : ∀ t ∈ T, s.heap.objs.size ≤ t.1 ∧ (∃ (z : Int × Int) (t1 t2 : Tok), t.2.1 = { cls := .type "tuple", data := .seq #[Value.int z.1 t1, Value.int z.2 t2] } ∧ t.2.2 = [z.1, z.2] ∧ h1.get? t.1 = some t.2.1) := fun t ht => by
      obtain ⟨b, hb, rfl⟩ := List.mem_map.mp ht
      obtain ⟨j, hj⟩ := List.mem_iff_getElem?.mp hb
      obtain ⟨z, t1, t2, hz, hg⟩ := pr j b hj
      obtain ⟨z', hz', hi⟩ := pairsI j b hj
      rw [hz] at hz'; cases hz'
      exact ⟨Nat.le_of_lt (hG.above b hb), z, t1, t2, by simp [hg], intsAt_of hi, by simp [hg]⟩
    have I1 : Inv X pins σ H { s with heap := h', toks := tk } := I.kept (t' := tk) fun b o e => kp b o (hk b o e)
    have I2 := take_F (tk := tk) I T H I1 (by rw [hT1]; exact nd) fun t ht => by
      obtain ⟨hb, z, t1, t2, eo, ez, hg⟩ := hT3 t ht
      refine ⟨hb, I.hok.fresh hb, fun H2 => ⟨kp _ _ hg, ?_, [Value.int z.1 t1, Value.int z.2 t2], ?_, ⟨t.2.1, kp _ _ hg, by rw [eo], 0, by rw [eo]⟩⟩⟩
      · rw [ez]; show 2 ≤ sizeLine; decide
      · rw [ez]; exact .cons ⟨t1, rfl⟩ (.cons ⟨t2, rfl⟩ .nil)
    have hdn : d ∉ T.map (·.1) := by
      rw [hT1]
      exact fun z => Nat.lt_irrefl _ (Nat.lt_of_lt_of_le (hG.there z) hd)
    have hd0 : H d = none := I.hok.fresh (Nat.le_trans (Nat.le_of_lt hlt) hd)
    have e3 : isortB (fun v u => lexI (intsAt h1 v) (intsAt h1 u)) (as.map Value.ref) = (isortB (fun q r : Addr × Obj × List Int => lexI q.2.2 r.2.2) T).map fun q => Value.ref q.1 := by
      have eT : as.map Value.ref = T.map fun q => Value.ref q.1 := by simp [T, Function.comp]
      rw [eT, isortB_map (fun v u => lexI (intsAt h1 v) (intsAt h1 u)) (fun q : Addr × Obj × List Int => Value.ref q.1)]
      rw [isortB_congr (lt' := fun q r : Addr × Obj × List Int => lexI q.2.2 r.2.2) fun p hp u hu => by
        obtain ⟨b, hb, rfl⟩ := List.mem_map.mp hp
        obtain ⟨c, hc, rfl⟩ := List.mem_map.mp hu
        rfl]
    rw [e3] at hn'
    have len : ((isortB (fun q r : Addr × Obj × List Int => lexI q.2.2 r.2.2) T).map fun q => V.ref q.1).length ≤ sizeLine := by
      have : T.length = as.length := by simp [T]
      rw [List.length_map, (isortB_ok (lexI_swo (fun q : Addr × Obj × List Int => q.2.2)) T).2.len]
      omega
    have rv : Vals ((isortB (fun q r : Addr × Obj × List Int => lexI q.2.2 r.2.2) T).map fun q => V.ref q.1) ((isortB (fun q r : Addr × Obj × List Int => lexI q.2.2 r.2.2) T).map fun q => Value.ref q.1) := vals_maps (fun q : Addr × Obj × List Int => V.ref q.1) (fun q => Value.ref q.1) _ fun _ _ => rfl
    have I3 : Inv X pins σ (upd (putFz H T) d (.lst ((isortB (fun q r : Addr × Obj × List Int => lexI q.2.2 r.2.2) T).map fun q => V.ref q.1))) { s with heap := h', toks := tk } :=
      I2.take (h' := h') (t' := tk) (fun b ob _ e => e) (I.fpOk (Nat.le_trans (Nat.le_of_lt hlt) hd) (by rw [putFz_off T H hdn]; exact hd0)) ⟨len, _, n, rv, hn'⟩
    refine ⟨.ref d, _, I3, rfl, q T d hT2 (fun t ht => ?_) (by rw [hT1]; exact nd) hd0 hdn⟩
    obtain ⟨hb, z, t1, t2, eo, ez, hg⟩ := hT3 t ht
    exact ⟨I.hok.fresh hb, by rw [eo], by rw [eo]⟩
end
end L2

set_option linter.all false
set_option maxRecDepth 100000
set_option maxHeartbeats 1000000
namespace Ml
open L2 L2.DX
open PySem (Addr Str sizeLine Obj)
section
variable {C : Cc}
theorem kvs_int {K : PySem.W.Frag} {sc : Sc} {Hs : Hp} : ∀ {ks vs : List Dv} {kvs : List (L2.Key × V)} {l m : List Int}, keysK ks = some (kvs.map (·.1)) → Reps K sc Hs vs (kvs.map (·.2)) → intsOf ks = some l → intsOf vs = some m →
    kvs = (l.zip m).map (fun q => ((Sum.inl q.1 : L2.Key), V.int q.2)) ∧ (l.zip m).length = l.length
  | [], vs, [], l, m, _, r, h1, h2 => by
    cases h1; simp
  | [], vs, p :: kvs, l, m, h, _, _, _ => by cases h
  | d :: ks, vs, [], l, m, h, _, _, _ => by
    obtain ⟨_, _, h', _⟩ := keysK_cons h
    cases h'
  | d :: ks, vs, p :: kvs, l, m, h, r, h1, h2 => by
    obtain ⟨k0, l0, e, hk, ht⟩ := keysK_cons h
    rw [List.map_cons] at e
    injection e with e1 e2
    subst e1; subst e2
    cases vs with
    | nil => simp only [Reps, List.map_cons] at r; cases r
    | cons y vs =>
      simp only [Reps, List.map_cons] at r
      obtain ⟨v, q, e, r1, r2⟩ := r
      injection e with e3 e4
      subst e3; subst e4
      cases d with
      | int i =>
        cases y with
        | int j =>
          simp only [intsOf] at h1 h2
          obtain ⟨l', hl', rfl⟩ := Option.map_eq_some_iff.mp h1
          obtain ⟨m', hm', rfl⟩ := Option.map_eq_some_iff.mp h2
          obtain ⟨ih, il⟩ := kvs_int ht r2 hl' hm'
          have hk : some (Sum.inl i : L2.Key) = some p.1 := hk
          injection hk with hk
          simp only [Rep] at r1
          refine ⟨?_, by simp [il]⟩
          rw [List.zip_cons_cons, List.map_cons, ← ih, hk, ← r1]
        | _ => simp [intsOf] at h2
      | _ => simp [intsOf] at h1
theorem keys_int : ∀ {ks : List Dv} {kk : List L2.Key} {l : List Int}, keysK ks = some kk → intsOf ks = some l → kk = l.map Sum.inl
  | [], kk, l, h, h1 => by cases h; cases h1; rfl
  | d :: ks, kk, l, h, h1 => by
    obtain ⟨k0, l0, rfl, hk, ht⟩ := keysK_cons h
    cases d with
    | int i =>
      simp only [intsOf] at h1
      obtain ⟨l', hl', rfl⟩ := Option.map_eq_some_iff.mp h1
      have hk : some (Sum.inl i : L2.Key) = some k0 := hk
      injection hk with hk
      rw [List.map_cons, keys_int ht hl', hk]
    | _ => simp [intsOf] at h1
theorem insZ_le (x : Int) : ∀ {l : List Int}, l.Pairwise (· ≤ ·) → (insZ x l).Pairwise (· ≤ ·)
  | [], _ => by simp [insZ]
  | y :: r, h => by
    obtain ⟨h1, h2⟩ := List.pairwise_cons.mp h
    unfold insZ
    split
    · rename_i hy
      refine List.pairwise_cons.mpr ⟨fun z hz => ?_, insZ_le x h2⟩
      rcases List.mem_cons.mp ((insZ_perm x r).mem_iff.mp hz) with rfl | hz
      · omega
      · exact h1 z hz
    · rename_i hy
      refine List.pairwise_cons.mpr ⟨fun z hz => ?_, h⟩
      rcases List.mem_cons.mp hz with rfl | hz
      · omega
      · have := h1 z hz; omega
theorem srtZ_le : ∀ l : List Int, (srtZ l).Pairwise (· ≤ ·)
  | [] => List.Pairwise.nil
  | x :: r => insZ_le x (srtZ_le r)
theorem srtZ_uniq {l ys : List Int} (hp : ys.Perm l) (hs : ys.Pairwise (· ≤ ·)) : ys = srtZ l :=
  List.Perm.eq_of_pairwise (fun a b _ _ h1 h2 => by omega) hs (srtZ_le l) (hp.trans (srtZ_perm l).symm)
def rSortDI : List V → Hp → VK → Prop := fun xs H Q => ∃ (a : Addr) (kvs : List (L2.Key × V)) (ks : List Int), xs = [.ref a] ∧ Rd H a (.dK kvs) ∧ kvs.map (·.1) = ks.map Sum.inl ∧ ks.length < 64 ∧
    ∀ (ys : List Int) (p : Addr), ys.Perm ks → ys.Pairwise (· ≤ ·) → H p = none → Q (.ref p) (upd H p (.lst (ys.map V.int)))
theorem seo_sortKs {i : Nat} : SEO C (tCB rSortDI (tCons (tVar i) tNil)) (mSortKs i) := fun Z Hs e σ H k Q w => by
  unfold mSortKs at w
  split at w
  · rename_i j ks vs he
    obtain ⟨p, e1, hn, ⟨kvs, hx, hk, rv⟩, _⟩ := k.own he
    split at w
    · rename_i l hl
      split at w
      · rename_i h64
        refine ⟨_, e1, p, kvs, l, rfl, .inl hx, keys_int hk hl, h64, fun ys q hp hs hq => ?_⟩
        rw [srtZ_uniq hp hs]
        exact we_newO w k hq reps_ints
      · exact w.elim
    · exact w.elim
  · exact w.elim
theorem putFz_at : ∀ (T : List (Addr × Obj × List Int)) (H : Hp), (T.map (·.1)).Nodup → ∀ t : Addr × Obj × List Int, t ∈ T → putFz H T t.1 = some (.frz t.2.1 (.tup (t.2.2.map V.int))) := by
  intro T
  induction T with
  | nil => intro H _ t ht; cases ht
  | cons t T ih =>
    intro H hn u hu
    rw [List.map_cons, List.nodup_cons] at hn
    show putFz (upd H t.1 (.frz t.2.1 (.tup (t.2.2.map V.int)))) T u.1 = _
    rcases List.mem_cons.mp hu with hu | hu
    · rw [hu, putFz_off T _ hn.1, upd_same]
    · exact ih _ hn.2 u hu
theorem putFz_st {Z : Hp} {e : Loc} {σ : L2.St} : ∀ (T : List (Addr × Obj × List Int)) {Hs H : Hp}, StOk C Z Hs e σ H → (T.map (·.1)).Nodup → (∀ t ∈ T, H t.1 = none) → StOk C Z (putFz Hs T) e σ (putFz H T) ∧ Post Hs H (putFz Hs T) (putFz H T)
  | [], Hs, H, k, _, _ => ⟨k, Post.refl⟩
  | t :: T, Hs, H, k, hn, h => by
    rw [List.map_cons, List.nodup_cons] at hn
    have h0 := h t List.mem_cons_self
    have k1 := k.new (o := .frz t.2.1 (.tup (t.2.2.map V.int))) h0
    obtain ⟨k2, p2⟩ := putFz_st T k1 hn.2 fun u hu => by
      rw [upd_ne (fun z => hn.1 (by rw [← z]; exact List.mem_map.mpr ⟨u, hu, rfl⟩))]
      exact h u (List.mem_cons_of_mem _ hu)
    exact ⟨k2, (Post.new (k.hs_none h0)).trans p2⟩
def tD (ns : List Int) : Dv := .tup (ns.map .int)
theorem zip_T {l m : List Int} {T : List (Addr × Obj × List Int)} (h : T.map (·.2.2) = (l.zip m).map fun q => [q.1, q.2]) : ((l.zip m).map fun p => (([p.1, p.2] : List Int), prD p)) = T.map fun t => (t.2.2, tD t.2.2) := by
  have : (T.map (·.2.2)).map (fun ns => (ns, tD ns)) = ((l.zip m).map fun q => [q.1, q.2]).map (fun ns => (ns, tD ns)) := by rw [h]
  rw [List.map_map, List.map_map] at this
  exact this.symm
theorem reps_all2 {α : Type} {K : PySem.W.Frag} {sc : Sc} {Hs : Hp} {f : α → Dv} {g : α → V} : ∀ {T : List α}, (∀ t ∈ T, Rep K sc Hs (f t) (g t)) → Reps K sc Hs (T.map f) (T.map g)
  | [], _ => reps_nil
  | t :: T, h => reps_cons (h t List.mem_cons_self) (reps_all2 fun u hu => h u (List.mem_cons_of_mem _ hu))
theorem seo_sortIt {i : Nat} {K : PySem.W.Frag} : SEO C (tCB rSortItK (tCons (tBM0 K "dict" rItemsK (tVar i)) tNil)) (mSortIt i) := fun Z Hs e σ H k Q w => by
  unfold mSortIt at w
  split at w
  · rename_i j ks vs he
    obtain ⟨p, e1, hn, ⟨kvs, hx, hk, rv⟩, _⟩ := k.own he
    split at w
    · rename_i l m hl hm
      split at w
      · rename_i h64
        obtain ⟨hkv, hlen⟩ := kvs_int hk rv hl hm
        refine ⟨_, e1, .inr (.inr (.inl ⟨rfl, .inl ⟨kvs, hx⟩⟩)), p, kvs, rfl, rfl, hx, fun pv hpv => ?_⟩
        have hpp : p ≠ pv := fun z => by rw [z, hpv] at hx; cases hx
        refine ⟨pv, p, l.zip m, rfl, upd_same, ?_, fun T d hT hT2 hnd hd0 hdn => ?_⟩
        · rw [upd_ne hpp, hx, hkv]
        · have k1 : StOk C Z Hs e σ (upd H pv (itemsO pv p)) := k.newO hpv
          obtain ⟨k2, p2⟩ := putFz_st T k1 hnd fun t ht => (hT2 t ht).1
          have w2 := we_mono ((Post.newO (p := pv) (o := itemsO pv p)).trans p2) w
          refine we_newO w2 k2 (by rw [putFz_off T _ hdn]; exact hd0) ?_
          rw [zip_T hT, srtD_is, Srt2.isortB_map (fun p q : List Int × Dv => Srt2.lexI p.1 q.1) (fun t : Addr × Obj × List Int => (t.2.2, tD t.2.2)), List.map_map]
          refine reps_all2 fun t ht => ?_
          have htT : t ∈ T := (Srt2.isortB_ok (Srt2.lexI_swo fun t : Addr × Obj × List Int => t.2.2) T).2.perm.mem_iff.mp ht
          simp only [Function.comp, tD, Rep]
          exact ⟨t.1, t.2.2.map V.int, rfl, PlT.of (putFz_at T Hs hnd t htT) (hT2 t htT).2.1 (hT2 t htT).2.2, reps_ints⟩
      · exact w.elim
    · exact w.elim
  · exact w.elim
end
end Ml

set_option linter.all false
set_option maxRecDepth 100000
set_option maxHeartbeats 1000000
namespace Ml
open L2
open PySem (Addr Str sizeLine Obj Expr Pos)
section
variable {X : Cx} {o e f value : Expr} {td ty tx tv : TE} {apos cpos pos pos' : Pos}
theorem dgetK (hu : X.A.units + 64 < PySem.cLine) (ho : PE X o td) (he : PE X e ty) (hf : PE X f tx) (m : M2 X o "get" apos e f cpos) : PE X (.Call (.Attribute o "get" apos) [e, f] [] cpos) (tDGet2 td ty tx) := pe_dget2 (by omega) ho he hf m
theorem dputK (hu : X.A.units + 64 < PySem.cLine) (ho : PE X o td) (hi : PE X e ty) (hv : PE X value tv) (hs : PySem.swapsWith value (some (.Subscript o e pos')) pos.line X.env = pure false) :
    PS X (.Assign [.Subscript o e pos'] value pos) (L2.sDPut td ty tv) := ps_dput (by omega) ho hi hv hs
theorem sortDIK (hc : X.calm = true) : CallR X (.builtin "sorted") rSortDI := call_sortedDI hc
end
end Ml
namespace Ml
open L2 PySem
theorem relab_look {env : Env} : ∀ {names : List (Str × NameKind)} {x : Str}, names.lookup x = some .cell ∨ names.lookup x = some .free →
    (names.map fun (n, k) => if (k == NameKind.free && env.scope.kind == .function && env.kindOf n == some .cell) then (n, NameKind.cell) else (n, k)).lookup x = some .cell ∨
    (names.map fun (n, k) => if (k == NameKind.free && env.scope.kind == .function && env.kindOf n == some .cell) then (n, NameKind.cell) else (n, k)).lookup x = some .free
  | [], x, h => by simp at h
  | (n, k) :: r, x, h => by
    simp only [List.map_cons]
    by_cases c : (x == n) = true
    · simp only [List.lookup_cons, c] at h
      by_cases d : (k == NameKind.free && env.scope.kind == .function && env.kindOf n == some .cell) = true
      · left; rw [if_pos d, List.lookup_cons, c]
      · rw [if_neg d]
        rcases h with h | h
        · left; rw [List.lookup_cons, c]; exact h
        · right; rw [List.lookup_cons, c]; exact h
    · have c : (x == n) = false := by simpa using c
      simp only [List.lookup_cons, c] at h
      have ih := relab_look (env := env) h
      by_cases d : (k == NameKind.free && env.scope.kind == .function && env.kindOf n == some .cell) = true
      · rw [if_pos d]; simp only [List.lookup_cons, c]; exact ih
      · rw [if_neg d]; simp only [List.lookup_cons, c]; exact ih
theorem blkOk_nest {N : List PySem.Str} {sc0 scope : PySem.Scope} {own : List (PySem.Str × Nat)} {cl : List (PySem.Str × PySem.Addr)} {C : PySem.Addr} {env : PySem.Env} (h : blkC N sc0 scope own = true) : BlkOk N (compEnvC sc0 cl C env).scope scope own := by
  have b := blkOk_by h
  exact ⟨b.kind, b.uniq, b.ix, fun y hy e => relab_look (b.free y hy e), b.own⟩
end Ml

/-! The mirror of edgesaway_k60_finished, printed from the text. -/
namespace K60
open Ml
def t0 : List Nat := [97, 108, 108]
def t1 : List Nat := [99, 111, 117, 110, 116]
def t2 : List Nat := [102, 105, 114, 115, 116]
def t3 : List Nat := [98, 121]
def t4 : List Nat := [111, 110, 108, 121]
def m_finished : MS :=
  (sSeq (sSet (mO2 oIx (mVar 1) (mC (.int 0))) (gN 2))
  (sSeq (sIf (mTest (mO2 oEqD (mVar 2) (mC (.str t0))))
  (sRet (mVar 0))
  sNil)
  (sSeq (sIf (mTest (mO2 oEqD (mVar 2) (mC (.str t1))))
  (sRet (mO1 oLen (mVar 0)))
  sNil)
  (sSeq (sIf (mTest (mO2 oEqD (mVar 2) (mC (.str t2))))
  (sRet (mSl slT (mVar 0) none (some (mO2 oIx (mVar 1) (mC (.int 1))))))
  sNil)
  (sSeq (sSetO 3 mDct0)
  (sSeq (sFor (mIt itT (mVar 0)) (gN 4)
  (sSeq (sSet (mO2 oIx (mVar 4) (mO2 oIx (mVar 1) (mC (.int 1)))) (gN 5))
  (sDPut 3 (mVar 5) (mO2 oAdd (mDGetD 3 (mVar 5) (mC (.int 0))) (mC (.int 1))))))
  (sRet (mIte (mTest (mO2 oEqD (mVar 2) (mC (.str t3)))) (mO1 oTup (mFz (mSortIt 3))) (mO1 oTup (mFz (mSortKs 3)))))))))))
def F_finished : Fn := mkFn 2 4 m_finished
def m__law_draw : MS :=
  (sSeq (sIf (mTest (mO2 oGt (mOwn2 0 wIx (mC (.int 2))) (mC (.int 0))))
  (sSeq (sSet (mOwn2 0 wIx (mC (.int 2))) (gN 2))
  (sSeq (sPut 0 (mC (.int 2)) (mO2 oDiv (mVar 2) (mVar 1)))
  (sRet (mO2 oMod (mO1 oInt (mVar 2)) (mVar 1)))))
  sNil)
  (sSeq (sSet (mC (.int 0)) (gN 3))
  (sSeq (sIf (mTest (mO2 oLt (mOwn2 0 wIx (mC (.int 1))) (mO1 oLen (mOwn2 0 wIx (mC (.int 0))))))
  (sSeq (sSet (mO2 oIx (mOwn2 0 wIx (mC (.int 0))) (mOwn2 0 wIx (mC (.int 1)))) (gN 4))
  (sSet (mO2 oAdd (mO2 oMul (mC (.int 2)) (mO1 oAbs (mVar 4))) (mO1 oInt (mO2 oLt (mVar 4) (mC (.int 0))))) (gN 3)))
  sNil)
  (sSeq (sPutAug 0 (mC (.int 1)) oAddI (mC (.int 1)))
  (sSeq (sIf (mTest (mO2 oGe (mVar 3) (mO2 oMul (mC (.int 2)) (mO2 oPow (mC (.int 10)) (mC (.int 18))))))
  (sSeq (sSet (mO2 oMod (mO1 oInt (mO2 oDiv (mVar 3) (mC (.int 2)))) (mO2 oShl (mC (.int 1)) (mC (.int 6000)))) (gN 2))
  (sSeq (sPut 0 (mC (.int 2)) (mO2 oDiv (mVar 2) (mVar 1)))
  (sRet (mO2 oMod (mO1 oInt (mVar 2)) (mVar 1)))))
  sNil)
  (sSeq (sPut 0 (mC (.int 3)) (mO2 oMod (mO1 oInt (mO2 oAdd (mO2 oAdd (mO2 oAdd (mO2 oMul (mOwn2 0 wIx (mC (.int 3))) (mC (.int 48271))) (mO2 oMul (mO2 oMod (mO1 oInt (mVar 3)) (mC (.int 2147483629))) (mC (.int 16807)))) (mO2 oMul (mOwn2 0 wIx (mC (.int 1))) (mC (.int 69621)))) (mC (.int 11)))) (mC (.int 2147483647))))
  (sRet (mO2 oMod (mO1 oInt (mO2 oDiv (mOwn2 0 wIx (mC (.int 3))) (mC (.int 16)))) (mVar 1)))))))))
def F__law_draw : Fn := mkFn 2 3 m__law_draw
def m__law_pick : MS :=
  (sRet (mO2 oIx (mVar 1) (mCallD F__law_draw [.own 0, .val (mO1 oLen (mVar 1))])))
def F__law_pick : Fn := mkFn 2 0 m__law_pick
def m__law_shuffled : MS :=
  (sSeq (sSetO 2 (mN1 listD (mVar 1)))
  (sSeq (sSetO 3 (mLst []))
  (sSeq (sFor (mRg1 (mOwn 2 wLen)) (gN 4)
  (sApp 3 (mPopAt 2 (mCallD F__law_draw [.own 0, .val (mOwn 2 wLen)]))))
  (sRetV 3))))
def F__law_shuffled : Fn := mkFn 2 3 m__law_shuffled
def m__law_is_int : MS :=
  (sRet (mAndV (mO1 oIsI (mVar 0)) (mNotV (mO1 oIsB (mVar 0)))))
def F__law_is_int : Fn := mkFn 1 0 m__law_is_int
def m__law_up : MS :=
  (sRet (mO1 oTup (mFz (mN1 oSortSetB (mVar 0)))))
def F__law_up : Fn := mkFn 1 0 m__law_up
def m__law_same (R : Fn) : MS :=
  (sSeq (sIf (mTruth (mO1 oIsT (mVar 1)))
  (sSeq (sIf (mOr (mNot (mTruth (mO1 oIsT (mVar 0)))) (mTest (mO2 oNe (mO1 oLen (mVar 0)) (mO1 oLen (mVar 1)))))
  (sRet (mC (.bl false)))
  sNil)
  (sRet (mO1 oAll (mFz (mLc (mRg1 (mO1 oLen (mVar 1))) (gN 2) mYes (mCallD R [.val (mO2 oIx (mVar 0) (mVar 2)), .val (mO2 oIx (mVar 1) (mVar 2))]) [2])))))
  sNil)
  (sSeq (sIf (mTruth (mO1 oIsS (mVar 1)))
  (sRet (mAndV (mO1 oIsS (mVar 0)) (mO2 oEqD (mVar 0) (mVar 1))))
  sNil)
  (sRet (mAndV (mCallD F__law_is_int [.val (mVar 0)]) (mO2 oEqD (mVar 0) (mVar 1))))))
def F__law_same : Nat → Fn
  | 0 => Fud
  | n + 1 => mkFn 2 1 (m__law_same (F__law_same n))
def m__law_table_of : MS :=
  (sSeq (sIf (mTest (mO2 oEq (mVar 1) (mC (.int 0))))
  (sRet (mIte (mTest (mO2 oEq (mCallD F__law_draw [.own 0, .val (mC (.int 2))]) (mC (.int 1)))) (mTup [(mTup [])]) (mTup [])))
  sNil)
  (sSeq (sSet (mO2 oAdd (mC (.int 1)) (mCallD F__law_draw [.own 0, .val (mC (.int 4))])) (gN 2))
  (sSeq (sSet (mCallD F__law_draw [.own 0, .val (mC (.int 15))]) (gN 3))
  (sSeq (sSet (mFz (mLc (mRg1 (mO2 oAdd (mC (.int 1)) (mCallD F__law_draw [.own 0, .val (mC (.int 9))]))) (gN 11) mYes (mO2 oAdd (mVar 3) (mVar 11)) [11])) (gN 4))
  (sSeq (sSet (mFz (mLc (mIt itL (mVar 4)) (gN 8) mYes (mTup [(mVar 8)]) [8])) (gN 5))
  (sSeq (sIf (mTest (mO2 oEq (mVar 1) (mC (.int 2))))
  (sSeq (sSet (mCallD F__law_draw [.own 0, .val (mC (.int 16))]) (gN 6))
  (sSeq (sSet (mFz (mLc (mRg1 (mO2 oAdd (mC (.int 1)) (mCallD F__law_draw [.own 0, .val (mC (.int 8))]))) (gN 11) mYes (mO2 oAdd (mVar 6) (mVar 11)) [11])) (gN 7))
  (sSeq (sSet (mFz (mLst [])) (gN 5))
  (sFor (mIt itL (mVar 4)) (gN 8)
  (sSet (mFz (mN2 oCat (mVar 5) (mFz (mLc (mIt itL (mVar 7)) (gN 12) mYes (mTup [(mVar 8), (mVar 12)]) [12])))) (gN 5))))))
  sNil)
  (sSeq (sSetO 9 (mLst []))
  (sSeq (sFor (mIt itL (mVar 5)) (gN 10)
  (sIf (mTest (mO2 oLt (mCallD F__law_draw [.own 0, .val (mC (.int 5))]) (mVar 2)))
  (sApp 9 (mVar 10))
  sNil))
  (sFrz 9 (sRet (mO1 oTup (mVar 9))))))))))))
def F__law_table_of : Fn := mkFn 2 11 m__law_table_of
def m__law_due : MS :=
  (sSeq (sIf (mTest (mO2 oEqD (mO2 oIx (mVar 1) (mC (.int 0))) (mC (.str t0))))
  (sRet (mVar 0))
  sNil)
  (sSeq (sIf (mTest (mO2 oEqD (mO2 oIx (mVar 1) (mC (.int 0))) (mC (.str t1))))
  (sRet (mO1 oLen (mVar 0)))
  sNil)
  (sSeq (sIf (mTest (mO2 oEqD (mO2 oIx (mVar 1) (mC (.int 0))) (mC (.str t2))))
  (sRet (mO1 oTup (mFz (mLc (mRg1 (mO1 oLen (mVar 0))) (gN 3) (mTest (mO2 oLt (mVar 3) (mO2 oIx (mVar 1) (mC (.int 1))))) (mO2 oIx (mVar 0) (mVar 3)) [3]))))
  sNil)
  (sSeq (sSet (mCallD F__law_up [.val (mFz (mLc (mIt itT (mVar 0)) (gN 4) mYes (mO2 oIx (mVar 4) (mO2 oIx (mVar 1) (mC (.int 1)))) [4]))]) (gN 2))
  (sSeq (sIf (mTest (mO2 oEqD (mO2 oIx (mVar 1) (mC (.int 0))) (mC (.str t4))))
  (sRet (mVar 2))
  sNil)
  (sRet (mO1 oTup (mFz (mLc (mIt itT (mVar 2)) (gN 5) mYes (mTup [(mVar 5), (mO1 oLen (mFz (mLc (mIt itT (mVar 0)) (gN 4) (mTest (mO2 oEq (mO2 oIx (mVar 4) (mO2 oIx (mVar 1) (mC (.int 1)))) (mVar 5))) (mVar 4) [4])))]) [5])))))))))
def F__law_due : Fn := mkFn 2 4 m__law_due
def m__law_finishes : MS :=
  (sSeq (sSet (mFz (mLst [(mTup [(mC (.str t0))]), (mTup [(mC (.str t1))]), (mTup [(mC (.str t2)), (mC (.int 0))]), (mTup [(mC (.str t2)), (mC (.int 1))]), (mTup [(mC (.str t2)), (mCallD F__law_draw [.own 0, .val (mO2 oAdd (mO1 oLen (mVar 1)) (mC (.int 3)))])])])) (gN 3))
  (sSeq (sFor (mRg1 (mVar 2)) (gN 4)
  (sSet (mFz (mN2 oCat (mVar 3) (mFz (mLst [(mTup [(mC (.str t3)), (mVar 4)]), (mTup [(mC (.str t4)), (mVar 4)])])))) (gN 3)))
  (sRetO (mCallO F__law_shuffled [.own 0, .val (mVar 3)]))))
def F__law_finishes : Fn := mkFn 3 2 m__law_finishes
def m_law : MS :=
  (sSeq (sSetO 2 (mLst []))
  (sSeq (sFor (mRg1 (mC (.int 2))) (gN 3)
  (sSeq (sSet (mCallD F__law_pick [.own 1, .val (mFz (mLst [(mC (.int 0)), (mC (.int 1)), (mC (.int 1)), (mC (.int 2)), (mC (.int 2)), (mC (.int 2)), (mC (.int 2))]))]) (gN 4))
  (sSeq (sSet (mCallD F__law_table_of [.own 1, .val (mVar 4)]) (gN 5))
  (sApp 2 (mTup [(mVar 5), (mFz (mCallO F__law_finishes [.own 1, .val (mVar 5), .val (mVar 4)]))])))))
  (sFrz 2 (sSeq (sFor (mIt itL (mFz (mLst [(mO2 oIx (mVar 2) (mC (.int 0))), (mO2 oIx (mVar 2) (mC (.int 1))), (mO2 oIx (mVar 2) (mC (.int 0)))]))) (gT [(gN 5), (gN 6)])
  (sFor (mIt itL (mVar 6)) (gN 7)
  (sIf (mNot (mTruth (mCallD (F__law_same 6) [.val (mCallD F_finished [.val (mVar 5), .val (mVar 7)]), .val (mCallD F__law_due [.val (mVar 5), .val (mVar 7)])])))
  (sRet (mC (.bl false)))
  sNil)))
  (sRet (mC (.bl true)))))))
end K60

set_option Elab.async false
set_option linter.all false
set_option maxRecDepth 100000
set_option maxHeartbeats 4000000
namespace K60
open PySem PySem.Spec PyProof.Rows L2 Ml
def topS (i : Nat) : Stmt := PySem.Challenge.pw_edgesaway_k60_finished.main.body.getD i (.Pass ⟨0, 0, 0, 0⟩)
theorem t0_eq : (("all" : Str)) = sOf t0 := by decide +kernel
theorem t1_eq : (("count" : Str)) = sOf t1 := by decide +kernel
theorem t2_eq : (("first" : Str)) = sOf t2 := by decide +kernel
theorem t3_eq : (("by" : Str)) = sOf t3 := by decide +kernel
theorem t4_eq : (("only" : Str)) = sOf t4 := by decide +kernel
abbrev NL : List Str := []
section
variable {P : Program} {w : World} {K : PySem.W.Frag} {mg : Str → Option Value} {base : Heap}
abbrev s_finished : Stmt := topS 1
abbrev N_finished : List Str := ["table", "finish", "word", "counts", "row", "node"]
theorem sc_finished : FnScope N_finished ["table", "finish"] (defScope (topS 1)) := ⟨rfl, rfl, rfl, by decide +kernel, rfl, by decide +kernel, by decide +kernel⟩
theorem cl_finished (M : Mg K mg) (D : DefK K "finished" s_finished) (z_len : FreeK K "len") (z_sorted : FreeK K "sorted") (z_tuple : FreeK K "tuple") : Kept P w K mg base CX0 1 "finished" (spM P w K (REk K) F_finished) := by
  refine cl_of (k := 0) D M (fun _ _ _ _ _ _ us hl => match us, hl with | [_, _], _ => rfl) sc_finished rfl rfl rfl fun f cdv A outer s H E hr => ?_
  have nd := sc_finished.nd
  refine ⟨?A, _, (pss_cons (ps_set (i := 2) nd rfl (Or.inl rfl) (pe_ix (ixK (K := K) rfl) (pv 1) pe_int (fun _ _ => rfl)))
      (pss_cons (ps_if (pt_cmpR (eqdK (K := K) rfl hr.units) (pv 2) pe_str (nomark _)) (pss_one (ps_ret (pv 0))) pss_nil)
      (pss_cons (ps_if (pt_cmpR (eqdK (K := K) rfl hr.units) (pv 2) pe_str (nomark _)) (pss_one (ps_ret (pe_callB (id := "len") (lenK (K := K) rfl) (by rfl) (M.free z_len) (by decide +kernel) (pa_cons (pv 0) pa_nil)))) pss_nil)
      (pss_cons (ps_if (pt_cmpR (eqdK (K := K) rfl hr.units) (pv 2) pe_str (nomark _)) (pss_one (ps_ret (pe_slice (slaK (K := K) rfl) (pv 0) po_none (po_some (pe_ix (ixK (K := K) rfl) (pv 1) pe_int (fun _ _ => rfl)))))) pss_nil)
      (pss_cons (ps_set (i := 3) nd rfl (Or.inl rfl) pe_dnewK)
      (pss_cons (ps_for PassesOwn.never rfl (pi_tupK (K := K) rfl (pv 0)) (pg_name (i := 4) nd rfl (Or.inl rfl))
      (pss_cons (ps_set (i := 5) nd rfl (Or.inl rfl) (pe_ix (ixK (K := K) rfl) (pv 4) (pe_ix (ixK (K := K) rfl) (pv 1) pe_int (fun _ _ => rfl)) (fun _ _ => rfl)))
      (pss_one (dputK hr.units (pv 3) (pv 5) (pe_op (op_add.or op_add_str) (dgetK hr.units (pv 3) (pv 5) pe_int ⟨rfl, rfl, rfl, rfl⟩) pe_int) rfl))))
      (pss_one (ps_ret (pe_ifExp (pt_cmpR (eqdK (K := K) rfl hr.units) (pv 2) pe_str (nomark _)) (pe_callTy (T := "tuple") (tupK (K := K) rfl) (by rfl) (M.free z_tuple) (by decide +kernel) (pa_cons (pe_callB (id := "sorted") (cr_sortItK rfl) (by rfl) (M.free z_sorted) (by decide +kernel) (pa_cons (pe_bm0 PySem.F.plainAttrs_dict PySem.F.slot_dict_items PySem.F.type_dict_items mt_itemsK (pv 3)) pa_nil)) pa_nil)) (pe_callTy (T := "tuple") (tupK (K := K) rfl) (by rfl) (M.free z_tuple) (by decide +kernel) (pa_cons (pe_callB (id := "sorted") (sortDIK rfl) (by rfl) (M.free z_sorted) (by decide +kernel) (pa_cons (pv 3) pa_nil)) pa_nil))))))))))), fun sc Hs Ps => ?z⟩
  case z => exact (ss_seq (ss_set (se_op (rv_ix rfl) se_var se_i) sg_name)
      (ss_seq (ss_if (st_test (se_op (rv_eqD rfl) se_var (se_s t0_eq))) (ss_ret se_var) ss_nil)
      (ss_seq (ss_if (st_test (se_op (rv_eqD rfl) se_var (se_s t1_eq))) (ss_ret (se_cb1 (r1_len rfl) se_var)) ss_nil)
      (ss_seq (ss_if (st_test (se_op (rv_eqD rfl) se_var (se_s t2_eq))) (ss_ret (se_slT rfl se_var so_none (so_some (se_op (rv_ix rfl) se_var se_i)))) ss_nil)
      (ss_seq (ss_setO seo_dct0)
      (ss_seq (ss_for (si_tup rfl se_var) (sg_name (i := 4))
      (ss_seq (ss_set (se_op (rv_ix rfl) se_var (se_op (rv_ix rfl) se_var se_i)) sg_name)
      (ss_dput se_var (se_op rv_add (se_dgetD se_var se_i) se_i))))
      (ss_ret (se_ite (st_test (se_op (rv_eqD rfl) se_var (se_s t3_eq))) (se_cb1 (r1_tup rfl) (se_fz seo_sortIt)) (se_cb1 (r1_tup rfl) (se_fz seo_sortKs))))))))))
abbrev s__law_draw : Stmt := topS 4
abbrev N__law_draw : List Str := ["_law_d", "_law_many", "_law_found", "_law_size", "_law_cell"]
theorem sc__law_draw : FnScope N__law_draw ["_law_d", "_law_many"] (defScope (topS 4)) := ⟨rfl, rfl, rfl, by decide +kernel, rfl, by decide +kernel, by decide +kernel⟩
theorem cl__law_draw (M : Mg K mg) (D : DefK K "_law_draw" s__law_draw) (z_abs : FreeK K "abs") (z_int : FreeK K "int") (z_len : FreeK K "len") : Kept P w K mg base CX0 1 "_law_draw" (spM P w K (REk K) F__law_draw) := by
  refine cl_of (k := 0) D M (fun _ _ _ _ _ _ us hl => match us, hl with | [_, _], _ => rfl) sc__law_draw rfl rfl rfl fun f cdv A outer s H E hr => ?_
  have nd := sc__law_draw.nd
  refine ⟨?A, _, (pss_cons (ps_if (pt_cmpR op_gt (pe_ix (ixL (K := K) rfl) (pv 0) pe_int (fun _ _ => rfl)) pe_int (nomark _)) (pss_cons (ps_set (i := 2) nd rfl (Or.inl rfl) (pe_ix (ixL (K := K) rfl) (pv 0) pe_int (fun _ _ => rfl)))
      (pss_cons (ps_asg (pe_op op_fdivN (pv 2) (pv 1)) (pg_sub (pv 0) pe_int set_list))
      (pss_one (ps_ret (pe_op op_modN (pe_callTy (T := "int") call_int1 (by rfl) (M.free z_int) (by decide +kernel) (pa_cons (pv 2) pa_nil)) (pv 1)))))) pss_nil)
      (pss_cons (ps_set (i := 3) nd rfl (Or.inl rfl) pe_int)
      (pss_cons (ps_if (pt_cmpR op_lt (pe_ix (ixL (K := K) rfl) (pv 0) pe_int (fun _ _ => rfl)) (pe_callB (id := "len") (lenK (K := K) rfl) (by rfl) (M.free z_len) (by decide +kernel) (pa_cons (pe_ix (ixL (K := K) rfl) (pv 0) pe_int (fun _ _ => rfl)) pa_nil)) (nomark _)) (pss_cons (ps_set (i := 4) nd rfl (Or.inl rfl) (pe_ix (ixK (K := K) rfl) (pe_ix (ixL (K := K) rfl) (pv 0) pe_int (fun _ _ => rfl)) (pe_ix (ixL (K := K) rfl) (pv 0) pe_int (fun _ _ => rfl)) (fun _ _ => rfl)))
      (pss_one (ps_set (i := 3) nd rfl (Or.inl rfl) (pe_op (op_add.or op_add_str) (pe_op op_mul pe_int (pe_callB (id := "abs") call_abs (by rfl) (M.free z_abs) (by decide +kernel) (pa_cons (pv 4) pa_nil))) (pe_callTy (T := "int") call_int1 (by rfl) (M.free z_int) (by decide +kernel) (pa_cons (pe_cmpR op_lt (pv 4) pe_int (nomark _)) pa_nil)))))) pss_nil)
      (pss_cons (ps_augS (pv 0) pe_int (getK (K := K) rfl) pe_int ip_add set_list)
      (pss_cons (ps_if (pt_cmpR op_ge (pv 3) (pe_op op_mul pe_int (pe_op op_pow pe_int pe_int)) (nomark _)) (pss_cons (ps_set (i := 2) nd rfl (Or.inl rfl) (pe_op op_modN (pe_callTy (T := "int") call_int1 (by rfl) (M.free z_int) (by decide +kernel) (pa_cons (pe_op op_fdivN (pv 3) pe_int) pa_nil)) (pe_op op_shl pe_int pe_int)))
      (pss_cons (ps_asg (pe_op op_fdivN (pv 2) (pv 1)) (pg_sub (pv 0) pe_int set_list))
      (pss_one (ps_ret (pe_op op_modN (pe_callTy (T := "int") call_int1 (by rfl) (M.free z_int) (by decide +kernel) (pa_cons (pv 2) pa_nil)) (pv 1)))))) pss_nil)
      (pss_cons (ps_asg (pe_op op_modN (pe_callTy (T := "int") call_int1 (by rfl) (M.free z_int) (by decide +kernel) (pa_cons (pe_op (op_add.or op_add_str) (pe_op (op_add.or op_add_str) (pe_op (op_add.or op_add_str) (pe_op op_mul (pe_ix (ixL (K := K) rfl) (pv 0) pe_int (fun _ _ => rfl)) pe_int) (pe_op op_mul (pe_op op_modN (pe_callTy (T := "int") call_int1 (by rfl) (M.free z_int) (by decide +kernel) (pa_cons (pv 3) pa_nil)) pe_int) pe_int)) (pe_op op_mul (pe_ix (ixL (K := K) rfl) (pv 0) pe_int (fun _ _ => rfl)) pe_int)) pe_int) pa_nil)) pe_int) (pg_sub (pv 0) pe_int set_list))
      (pss_one (ps_ret (pe_op op_modN (pe_callTy (T := "int") call_int1 (by rfl) (M.free z_int) (by decide +kernel) (pa_cons (pe_op op_fdivN (pe_ix (ixL (K := K) rfl) (pv 0) pe_int (fun _ _ => rfl)) pe_int) pa_nil)) (pv 1)))))))))), fun sc Hs Ps => ?z⟩
  case z => exact (ss_seq (ss_if (st_test (se_op rv_gt (se_opO (rw_ix rfl) se_i) se_i)) (ss_seq (ss_set (se_opO (rw_ix rfl) se_i) sg_name)
      (ss_seq (ss_put (se_op rv_div se_var se_var) se_i)
      (ss_ret (se_op rv_mod (se_cb1 r1_int se_var) se_var)))) ss_nil)
      (ss_seq (ss_set se_i sg_name)
      (ss_seq (ss_if (st_test (se_op rv_lt (se_opO (rw_ix rfl) se_i) (se_cb1 (r1_len rfl) (se_opO (rw_ix rfl) se_i)))) (ss_seq (ss_set (se_op (rv_ix rfl) (se_opO (rw_ix rfl) se_i) (se_opO (rw_ix rfl) se_i)) sg_name)
      (ss_set (se_op rv_add (se_op rv_mul se_i (se_cb1 r1_abs se_var)) (se_cb1 r1_int (se_op rv_lt se_var se_i))) sg_name)) ss_nil)
      (ss_seq (ss_putAug se_i rv_ipadd se_i)
      (ss_seq (ss_if (st_test (se_op rv_ge se_var (se_op rv_mul se_i (se_op rv_pow se_i se_i)))) (ss_seq (ss_set (se_op rv_mod (se_cb1 r1_int (se_op rv_div se_var se_i)) (se_op rv_shl se_i se_i)) sg_name)
      (ss_seq (ss_put (se_op rv_div se_var se_var) se_i)
      (ss_ret (se_op rv_mod (se_cb1 r1_int se_var) se_var)))) ss_nil)
      (ss_seq (ss_put (se_op rv_mod (se_cb1 r1_int (se_op rv_add (se_op rv_add (se_op rv_add (se_op rv_mul (se_opO (rw_ix rfl) se_i) se_i) (se_op rv_mul (se_op rv_mod (se_cb1 r1_int se_var) se_i) se_i)) (se_op rv_mul (se_opO (rw_ix rfl) se_i) se_i)) se_i)) se_i) se_i)
      (ss_ret (se_op rv_mod (se_cb1 r1_int (se_op rv_div (se_opO (rw_ix rfl) se_i) se_i)) se_var))))))))
abbrev s__law_pick : Stmt := topS 5
abbrev N__law_pick : List Str := ["_law_d", "_law_row"]
theorem sc__law_pick : FnScope N__law_pick ["_law_d", "_law_row"] (defScope (topS 5)) := ⟨rfl, rfl, rfl, by decide +kernel, rfl, by decide +kernel, by decide +kernel⟩
theorem cl__law_pick (M : Mg K mg) (D : DefK K "_law_pick" s__law_pick) (k__law_draw : Kept P w K mg base CX0 1 "_law_draw" (spM P w K (REk K) F__law_draw)) (z_len : FreeK K "len") : Kept P w K mg base CX0 2 "_law_pick" (spM P w K (REk K) F__law_pick) := by
  refine cl_of (k := 1) D M (fun _ _ _ _ _ _ us hl => match us, hl with | [_, _], _ => rfl) sc__law_pick rfl rfl rfl fun f cdv A outer s H E hr => ?_
  have nd := sc__law_pick.nd
  refine ⟨?A, _, (pss_one (ps_ret (pe_ix (ixK (K := K) rfl) (pv 1) (pe_clS k__law_draw hr (by decide) (by rfl) (pass0S (E := L2.WE (fun c od _ H => E c od H))) (pa_cons (pv 0) (pa_cons (pe_callB (id := "len") (lenK (K := K) rfl) (by rfl) (M.free z_len) (by decide +kernel) (pa_cons (pv 1) pa_nil)) pa_nil))) (fun _ _ => rfl)))), fun sc Hs Ps => ?z⟩
  case z => exact (ss_ret (se_op (rv_ix rfl) se_var (se_call (sm_own (sm_val (se_cb1 (r1_len rfl) se_var) sm_nil)))))
abbrev s__law_shuffled : Stmt := topS 6
abbrev N__law_shuffled : List Str := ["_law_d", "_law_row", "_law_left", "_law_found", "_law_k"]
theorem sc__law_shuffled : FnScope N__law_shuffled ["_law_d", "_law_row"] (defScope (topS 6)) := ⟨rfl, rfl, rfl, by decide +kernel, rfl, by decide +kernel, by decide +kernel⟩
theorem cl__law_shuffled (M : Mg K mg) (D : DefK K "_law_shuffled" s__law_shuffled) (k__law_draw : Kept P w K mg base CX0 1 "_law_draw" (spM P w K (REk K) F__law_draw)) (z_len : FreeK K "len") (z_list : FreeK K "list") (z_range : FreeK K "range") : Kept P w K mg base CX0 2 "_law_shuffled" (spM P w K (REk K) F__law_shuffled) := by
  refine cl_of (k := 1) D M (fun _ _ _ _ _ _ us hl => match us, hl with | [_, _], _ => rfl) sc__law_shuffled rfl rfl rfl fun f cdv A outer s H E hr => ?_
  have nd := sc__law_shuffled.nd
  refine ⟨?A, _, (pss_cons (ps_set (i := 2) nd rfl (Or.inl rfl) (pe_callTy (T := "list") (lstK (K := K) rfl) (by rfl) (M.free z_list) (by decide +kernel) (pa_cons (pv 1) pa_nil)))
      (pss_cons (ps_set (i := 3) nd rfl (Or.inl rfl) (pe_lst pa_nil))
      (pss_cons (ps_for PassesOwn.never rfl (pi_range1 (by rfl) (M.free z_range) (pa_cons (pe_callB (id := "len") (lenK (K := K) rfl) (by rfl) (M.free z_len) (by decide +kernel) (pa_cons (pv 2) pa_nil)) pa_nil)) (pg_name (i := 4) nd rfl (Or.inl rfl))
      (pss_one (ps_expr (pe_bm PySem.F.plainAttrs_list PySem.F.slot_list_append PySem.F.type_list_append mt_append (pv 3) (pa_cons (pe_bm PySem.F.plainAttrs_list PySem.F.slot_list_pop PySem.F.type_list_pop mt_popAt (pv 2) (pa_cons (pe_clS k__law_draw hr (by decide) (by rfl) (pass0S (E := L2.WE (fun c od _ H => E c od H))) (pa_cons (pv 0) (pa_cons (pe_callB (id := "len") (lenK (K := K) rfl) (by rfl) (M.free z_len) (by decide +kernel) (pa_cons (pv 2) pa_nil)) pa_nil))) pa_nil)) pa_nil)))))
      (pss_one (ps_ret (pv 3)))))), fun sc Hs Ps => ?z⟩
  case z => exact (ss_seq (ss_setO (seo_cb1 (rn_listD rfl) se_var))
      (ss_seq (ss_setO (seo_lst sa_nil))
      (ss_seq (ss_for (si_rng1 (se_cb1O (rw_len rfl))) (sg_name (i := 4))
      (ss_app (se_popAt (se_call (sm_own (sm_val (se_cb1O (rw_len rfl)) sm_nil))))))
      ss_retV)))
abbrev s__law_is_int : Stmt := topS 7
abbrev N__law_is_int : List Str := ["_law_thing"]
theorem sc__law_is_int : FnScope N__law_is_int ["_law_thing"] (defScope (topS 7)) := ⟨rfl, rfl, rfl, by decide +kernel, rfl, by decide +kernel, by decide +kernel⟩
theorem cl__law_is_int (M : Mg K mg) (D : DefK K "_law_is_int" s__law_is_int) (z_bool : FreeK K "bool") (z_int : FreeK K "int") (z_isinstance : FreeK K "isinstance") : Kept P w K mg base CX0 1 "_law_is_int" (spM P w K (REk K) F__law_is_int) := by
  refine cl_of (k := 0) D M (fun _ _ _ _ _ _ us hl => match us, hl with | [_], _ => rfl) sc__law_is_int rfl rfl rfl fun f cdv A outer s H E hr => ?_
  have nd := sc__law_is_int.nd
  refine ⟨?A, _, (pss_one (ps_ret (pe_and (pe_callB (id := "isinstance") (isiK (K := K) rfl) (by rfl) (M.free z_isinstance) (by decide +kernel) (pa_cons (pv 0) (pa_cons (pe_bltn (v := .ty "int") (u := .type "int") (by rfl) (M.free z_int) (by decide +kernel) rfl) pa_nil))) (pe_one (pe_not (pe_callB (id := "isinstance") (isiK (K := K) rfl) (by rfl) (M.free z_isinstance) (by decide +kernel) (pa_cons (pv 0) (pa_cons (pe_bltn (v := .ty "bool") (u := .type "bool") (by rfl) (M.free z_bool) (by decide +kernel) rfl) pa_nil)))))))), fun sc Hs Ps => ?z⟩
  case z => exact (ss_ret (se_andV (se_isI rfl se_var) (se_notV (se_isB rfl se_var))))
abbrev s__law_up : Stmt := topS 8
abbrev N__law_up : List Str := ["_law_things"]
theorem sc__law_up : FnScope N__law_up ["_law_things"] (defScope (topS 8)) := ⟨rfl, rfl, rfl, by decide +kernel, rfl, by decide +kernel, by decide +kernel⟩
theorem cl__law_up (M : Mg K mg) (D : DefK K "_law_up" s__law_up) (z_set : FreeK K "set") (z_sorted : FreeK K "sorted") (z_tuple : FreeK K "tuple") : Kept P w K mg base CX0 1 "_law_up" (spM P w K (REk K) F__law_up) := by
  refine cl_of (k := 0) D M (fun _ _ _ _ _ _ us hl => match us, hl with | [_], _ => rfl) sc__law_up rfl rfl rfl fun f cdv A outer s H E hr => ?_
  have nd := sc__law_up.nd
  refine ⟨?A, _, (pss_one (ps_ret (pe_callTy (T := "tuple") (tupK (K := K) rfl) (by rfl) (M.free z_tuple) (by decide +kernel) (pa_cons (pe_callB (id := "sorted") (sortAK rfl rfl rfl rfl) (by rfl) (M.free z_sorted) (by decide +kernel) (pa_cons (pe_callTy (T := "set") (setOfBK rfl rfl rfl rfl hr) (by rfl) (M.free z_set) (by decide +kernel) (pa_cons (pv 0) pa_nil)) pa_nil)) pa_nil)))), fun sc Hs Ps => ?z⟩
  case z => exact (ss_ret (se_cb1 (r1_tup rfl) (se_fz (seo_sortSetB rfl rfl rfl se_var))))
abbrev s__law_same : Stmt := topS 9
abbrev N__law_same : List Str := ["_law_told", "_law_due_here", "_law_k"]
theorem sc__law_same : FnScope N__law_same ["_law_told", "_law_due_here"] (defScope (topS 9)) := ⟨rfl, rfl, rfl, by decide +kernel, rfl, by decide +kernel, by decide +kernel⟩
theorem cl__law_same (M : Mg K mg) (D : DefK K "_law_same" s__law_same) (k__law_is_int : Kept P w K mg base CX0 1 "_law_is_int" (spM P w K (REk K) F__law_is_int)) (z_all : FreeK K "all") (z_isinstance : FreeK K "isinstance") (z_len : FreeK K "len") (z_range : FreeK K "range") (z_str : FreeK K "str") (z_tuple : FreeK K "tuple") : ∀ n : Nat, Kept P w K mg base CX0 (2 + n) "_law_same" (spM P w K (REk K) (F__law_same n))
  | 0 => cl_ud (k := 1) D M (fun _ _ _ _ _ _ us hl => match us, hl with | [_, _], _ => rfl) sc__law_same
  | n + 1 => by
    have kr := cl__law_same M D k__law_is_int z_all z_isinstance z_len z_range z_str z_tuple n
    refine cl_of (k := 2 + n) D M (fun _ _ _ _ _ _ us hl => match us, hl with | [_, _], _ => rfl) sc__law_same rfl rfl rfl fun f cdv A outer s H E hr => ?_
    have nd := sc__law_same.nd
    refine ⟨?A, _, (pss_cons (ps_if (pt_tr (K := K) rfl (pe_callB (id := "isinstance") (isiK (K := K) rfl) (by rfl) (M.free z_isinstance) (by decide +kernel) (pa_cons (pv 1) (pa_cons (pe_bltn (v := .ty "tuple") (u := .type "tuple") (by rfl) (M.free z_tuple) (by decide +kernel) rfl) pa_nil))) (by intro _; rfl)) (pss_cons (ps_if (PW.pt (pw_or (pt_not (pt_tr (K := K) rfl (pe_callB (id := "isinstance") (isiK (K := K) rfl) (by rfl) (M.free z_isinstance) (by decide +kernel) (pa_cons (pv 0) (pa_cons (pe_bltn (v := .ty "tuple") (u := .type "tuple") (by rfl) (M.free z_tuple) (by decide +kernel) rfl) pa_nil))) (by intro _; rfl))) (pw_or1 (pt_cmpR op_ne (pe_callB (id := "len") (lenK (K := K) rfl) (by rfl) (M.free z_len) (by decide +kernel) (pa_cons (pv 0) pa_nil)) (pe_callB (id := "len") (lenK (K := K) rfl) (by rfl) (M.free z_len) (by decide +kernel) (pa_cons (pv 1) pa_nil)) (nomark _))))) (pss_one (ps_ret pe_bl)) pss_nil)
      (pss_one (ps_ret (pe_callB (id := "all") (allK (K := K) rfl rfl) (by rfl) (M.free z_all) (by decide +kernel) (pa_cons (pe_lc (own := [("_law_k", 2)]) rfl nd (pi_range1 (by rfl) (M.free z_range) (pa_cons (pe_callB (id := "len") (lenK (K := K) rfl) (by rfl) (M.free z_len) (by decide +kernel) (pa_cons (pv 1) pa_nil)) pa_nil)) (blkOk_by (N := N__law_same) (sc := defScope s__law_same) (by decide +kernel)) (fun _ _ _ _ _ => (pg_name (i := 2) nd rfl (Or.inl rfl))) (fun _ _ _ _ _ => pts_nil) (fun _ _ _ _ _ => (pe_clS kr hr (Nat.le_refl _) (by rfl) (pass0S (E := L2.WE (fun c od _ H => E c od H))) (pa_cons (pe_ix (ixK (K := K) rfl) (pv 0) (pv 2) (fun _ _ => rfl)) (pa_cons (pe_ix (ixK (K := K) rfl) (pv 1) (pv 2) (fun _ _ => rfl)) pa_nil))))) pa_nil))))) pss_nil)
      (pss_cons (ps_if (pt_tr (K := K) rfl (pe_callB (id := "isinstance") (isiK (K := K) rfl) (by rfl) (M.free z_isinstance) (by decide +kernel) (pa_cons (pv 1) (pa_cons (pe_bltn (v := .ty "str") (u := .type "str") (by rfl) (M.free z_str) (by decide +kernel) rfl) pa_nil))) (by intro _; rfl)) (pss_one (ps_ret (pe_and (pe_callB (id := "isinstance") (isiK (K := K) rfl) (by rfl) (M.free z_isinstance) (by decide +kernel) (pa_cons (pv 0) (pa_cons (pe_bltn (v := .ty "str") (u := .type "str") (by rfl) (M.free z_str) (by decide +kernel) rfl) pa_nil))) (pe_one (pe_cmpR (eqdK (K := K) rfl hr.units) (pv 0) (pv 1) (nomark _)))))) pss_nil)
      (pss_one (ps_ret (pe_and (pe_clS k__law_is_int hr (by omega) (by rfl) (pass0S (E := L2.WE (fun c od _ H => E c od H))) (pa_cons (pv 0) pa_nil)) (pe_one (pe_cmpR (eqdK (K := K) rfl hr.units) (pv 0) (pv 1) (nomark _)))))))), fun sc Hs Ps => ?z⟩
    case z => exact (ss_seq (ss_if (st_truth rfl (se_isT rfl se_var)) (ss_seq (ss_if (st_or (st_not (st_truth rfl (se_isT rfl se_var))) (st_test (se_op rv_ne (se_cb1 (r1_len rfl) se_var) (se_cb1 (r1_len rfl) se_var)))) (ss_ret se_b) ss_nil)
      (ss_ret (se_cb1 (r1_all rfl) (se_fz (seo_lc (A := [2]) (vs := [2]) (si_rng1 (se_cb1 (r1_len rfl) se_var)) (sg_name (i := 2)) st_yes (se_call (sm_val (se_op (rv_ix rfl) se_var se_var) (sm_val (se_op (rv_ix rfl) se_var se_var) sm_nil)))))))) ss_nil)
      (ss_seq (ss_if (st_truth rfl (se_isS rfl se_var)) (ss_ret (se_andV (se_isS rfl se_var) (se_op (rv_eqD rfl) se_var se_var))) ss_nil)
      (ss_ret (se_andV (se_call (sm_val se_var sm_nil)) (se_op (rv_eqD rfl) se_var se_var)))))
abbrev s__law_table_of : Stmt := topS 10
abbrev N__law_table_of : List Str := ["_law_d", "_law_many", "_law_share", "_law_first", "_law_nodes", "_law_rows", "_law_second", "_law_others", "_law_node", "_law_found", "_law_row", "_law_k", "_law_other"]
theorem sc__law_table_of : FnScope N__law_table_of ["_law_d", "_law_many"] (defScope (topS 10)) := ⟨rfl, rfl, rfl, by decide +kernel, rfl, by decide +kernel, by decide +kernel⟩
theorem cl__law_table_of (M : Mg K mg) (D : DefK K "_law_table_of" s__law_table_of) (k__law_draw : Kept P w K mg base CX0 1 "_law_draw" (spM P w K (REk K) F__law_draw)) (z_range : FreeK K "range") (z_tuple : FreeK K "tuple") : Kept P w K mg base CX0 2 "_law_table_of" (spM P w K (REk K) F__law_table_of) := by
  refine cl_of (k := 1) D M (fun _ _ _ _ _ _ us hl => match us, hl with | [_, _], _ => rfl) sc__law_table_of rfl rfl rfl fun f cdv A outer s H E hr => ?_
  have nd := sc__law_table_of.nd
  refine ⟨?A, _, (pss_cons (ps_if (pt_cmpR op_eq (pv 1) pe_int (nomark _)) (pss_one (ps_ret (pe_ifExp (pt_cmpR op_eq (pe_clS k__law_draw hr (by decide) (by rfl) (pass0S (E := L2.WE (fun c od _ H => E c od H))) (pa_cons (pv 0) (pa_cons pe_int pa_nil))) pe_int (nomark _)) (pe_tupP (pa_cons (pe_tupP pa_nil) pa_nil)) (pe_tupP pa_nil)))) pss_nil)
      (pss_cons (ps_set (i := 2) nd rfl (Or.inl rfl) (pe_op (op_add.or op_add_str) pe_int (pe_clS k__law_draw hr (by decide) (by rfl) (pass0S (E := L2.WE (fun c od _ H => E c od H))) (pa_cons (pv 0) (pa_cons pe_int pa_nil)))))
      (pss_cons (ps_set (i := 3) nd rfl (Or.inr rfl) (pe_clS k__law_draw hr (by decide) (by rfl) (pass0S (E := L2.WE (fun c od _ H => E c od H))) (pa_cons (pv 0) (pa_cons pe_int pa_nil))))
      (pss_cons (ps_setLc (i := 4) (own := [("_law_k", 11)]) rfl nd rfl rfl (sw_true rfl rfl rfl (by decide +kernel)) (pi_range1 (by rfl) (M.free z_range) (pa_cons (pe_op (op_add.or op_add_str) pe_int (pe_clS k__law_draw hr (by decide) (by rfl) (pass0S (E := L2.WE (fun c od _ H => E c od H))) (pa_cons (pv 0) (pa_cons pe_int pa_nil)))) pa_nil)) (blkOk_by (N := N__law_table_of) (sc := defScope s__law_table_of) (by decide +kernel)) (fun _ _ _ _ _ => (pg_name (i := 11) nd rfl (Or.inl rfl))) (fun _ _ _ _ _ => pts_nil) (fun _ _ _ _ _ => (pe_op (op_add.or op_add_str) (pv 3) (pv 11))))
      (pss_cons (ps_setLc (i := 5) (own := [("_law_node", 8)]) rfl nd rfl rfl (sw_true rfl rfl rfl (by decide +kernel)) (pi_listK (K := K) rfl (pv 4)) (blkOk_by (N := N__law_table_of) (sc := defScope s__law_table_of) (by decide +kernel)) (fun _ _ _ _ _ => (pg_name (i := 8) nd rfl (Or.inl rfl))) (fun _ _ _ _ _ => pts_nil) (fun _ _ _ _ _ => (pe_tupP (pa_cons (pv 8) pa_nil))))
      (pss_cons (ps_if (pt_cmpR op_eq (pv 1) pe_int (nomark _)) (pss_cons (ps_set (i := 6) nd rfl (Or.inr rfl) (pe_clS k__law_draw hr (by decide) (by rfl) (pass0S (E := L2.WE (fun c od _ H => E c od H))) (pa_cons (pv 0) (pa_cons pe_int pa_nil))))
      (pss_cons (ps_setLc (i := 7) (own := [("_law_k", 11)]) rfl nd rfl rfl (sw_true rfl rfl rfl (by decide +kernel)) (pi_range1 (by rfl) (M.free z_range) (pa_cons (pe_op (op_add.or op_add_str) pe_int (pe_clS k__law_draw hr (by decide) (by rfl) (pass0S (E := L2.WE (fun c od _ H => E c od H))) (pa_cons (pv 0) (pa_cons pe_int pa_nil)))) pa_nil)) (blkOk_by (N := N__law_table_of) (sc := defScope s__law_table_of) (by decide +kernel)) (fun _ _ _ _ _ => (pg_name (i := 11) nd rfl (Or.inl rfl))) (fun _ _ _ _ _ => pts_nil) (fun _ _ _ _ _ => (pe_op (op_add.or op_add_str) (pv 6) (pv 11))))
      (pss_cons (ps_set (i := 5) nd rfl (Or.inl rfl) (pe_lst pa_nil))
      (pss_one (ps_for PassesOwn.never rfl (pi_listK (K := K) rfl (pv 4)) (pg_name (i := 8) nd rfl (Or.inr rfl))
      (pss_one (ps_set (i := 5) nd rfl (Or.inl rfl) (pe_op op_cat (pv 5) (pe_lc (own := [("_law_other", 12)]) rfl nd (pi_listK (K := K) rfl (pv 7)) (blkOk_by (N := N__law_table_of) (sc := defScope s__law_table_of) (by decide +kernel)) (fun _ _ _ _ _ => (pg_name (i := 12) nd rfl (Or.inl rfl))) (fun _ _ _ _ _ => pts_nil) (fun _ _ _ _ _ => (pe_tupP (pa_cons (pv 8) (pa_cons (pv 12) pa_nil))))))))))))) pss_nil)
      (pss_cons (ps_set (i := 9) nd rfl (Or.inl rfl) (pe_lst pa_nil))
      (pss_cons (ps_for PassesOwn.never rfl (pi_listK (K := K) rfl (pv 5)) (pg_name (i := 10) nd rfl (Or.inl rfl))
      (pss_one (ps_if (pt_cmpR op_lt (pe_clS k__law_draw hr (by decide) (by rfl) (pass0S (E := L2.WE (fun c od _ H => E c od H))) (pa_cons (pv 0) (pa_cons pe_int pa_nil))) (pv 2) (nomark _)) (pss_one (ps_expr (pe_bm PySem.F.plainAttrs_list PySem.F.slot_list_append PySem.F.type_list_append mt_append (pv 9) (pa_cons (pv 10) pa_nil)))) pss_nil)))
      (pss_one (ps_ret (pe_callTy (T := "tuple") (tupK (K := K) rfl) (by rfl) (M.free z_tuple) (by decide +kernel) (pa_cons (pv 9) pa_nil)))))))))))), fun sc Hs Ps => ?z⟩
  case z => exact (ss_seq (ss_if (st_test (se_op rv_eq se_var se_i)) (ss_ret (se_ite (st_test (se_op rv_eq (se_call (sm_own (sm_val se_i sm_nil))) se_i)) (se_tup (sa_cons (se_tup sa_nil) sa_nil)) (se_tup sa_nil))) ss_nil)
      (ss_seq (ss_set (se_op rv_add se_i (se_call (sm_own (sm_val se_i sm_nil)))) sg_name)
      (ss_seq (ss_set (se_call (sm_own (sm_val se_i sm_nil))) sg_name)
      (ss_seq (ss_set (se_fz (seo_lc (A := [11]) (vs := [11]) (si_rng1 (se_op rv_add se_i (se_call (sm_own (sm_val se_i sm_nil))))) (sg_name (i := 11)) st_yes (se_op rv_add se_var se_var))) sg_name)
      (ss_seq (ss_set (se_fz (seo_lc (A := [8]) (vs := [8]) (si_list rfl se_var) (sg_name (i := 8)) st_yes (se_tup (sa_cons se_var sa_nil)))) sg_name)
      (ss_seq (ss_if (st_test (se_op rv_eq se_var se_i)) (ss_seq (ss_set (se_call (sm_own (sm_val se_i sm_nil))) sg_name)
      (ss_seq (ss_set (se_fz (seo_lc (A := [11]) (vs := [11]) (si_rng1 (se_op rv_add se_i (se_call (sm_own (sm_val se_i sm_nil))))) (sg_name (i := 11)) st_yes (se_op rv_add se_var se_var))) sg_name)
      (ss_seq (ss_set (se_fz (seo_lst sa_nil)) sg_name)
      (ss_for (si_list rfl se_var) (sg_name (i := 8))
      (ss_set (se_fz (seo_op rn_cat se_var (se_fz (seo_lc (A := [12]) (vs := [12]) (si_list rfl se_var) (sg_name (i := 12)) st_yes (se_tup (sa_cons se_var (sa_cons se_var sa_nil))))))) sg_name))))) ss_nil)
      (ss_seq (ss_setO (seo_lst sa_nil))
      (ss_seq (ss_for (si_list rfl se_var) (sg_name (i := 10))
      (ss_if (st_test (se_op rv_lt (se_call (sm_own (sm_val se_i sm_nil))) se_var)) (ss_app se_var) ss_nil))
      (ss_frz (i := 9) (ss_ret (se_cb1 (r1_tup rfl) se_var)))))))))))
abbrev s__law_due : Stmt := topS 11
abbrev N__law_due : List Str := ["_law_table", "_law_finish", "_law_nodes", "_law_k", "_law_row", "_law_node"]
theorem sc__law_due : FnScope N__law_due ["_law_table", "_law_finish"] (defScope (topS 11)) := ⟨rfl, rfl, rfl, by decide +kernel, rfl, by decide +kernel, by decide +kernel⟩
theorem cl__law_due (M : Mg K mg) (D : DefK K "_law_due" s__law_due) (k__law_up : Kept P w K mg base CX0 1 "_law_up" (spM P w K (REk K) F__law_up)) (z_len : FreeK K "len") (z_range : FreeK K "range") (z_tuple : FreeK K "tuple") : Kept P w K mg base CX0 2 "_law_due" (spM P w K (REk K) F__law_due) := by
  refine cl_of (k := 1) D M (fun _ _ _ _ _ _ us hl => match us, hl with | [_, _], _ => rfl) sc__law_due rfl rfl rfl fun f cdv A outer s H E hr => ?_
  have nd := sc__law_due.nd
  refine ⟨?A, _, (pss_cons (ps_if (pt_cmpR (eqdK (K := K) rfl hr.units) (pe_ix (ixK (K := K) rfl) (pv 1) pe_int (fun _ _ => rfl)) pe_str (nomark _)) (pss_one (ps_ret (pv 0))) pss_nil)
      (pss_cons (ps_if (pt_cmpR (eqdK (K := K) rfl hr.units) (pe_ix (ixK (K := K) rfl) (pv 1) pe_int (fun _ _ => rfl)) pe_str (nomark _)) (pss_one (ps_ret (pe_callB (id := "len") (lenK (K := K) rfl) (by rfl) (M.free z_len) (by decide +kernel) (pa_cons (pv 0) pa_nil)))) pss_nil)
      (pss_cons (ps_if (pt_cmpR (eqdK (K := K) rfl hr.units) (pe_ix (ixK (K := K) rfl) (pv 1) pe_int (fun _ _ => rfl)) pe_str (nomark _)) (pss_one (ps_ret (pe_callTy (T := "tuple") (tupK (K := K) rfl) (by rfl) (M.free z_tuple) (by decide +kernel) (pa_cons (pe_lc (own := [("_law_k", 3)]) rfl nd (pi_range1 (by rfl) (M.free z_range) (pa_cons (pe_callB (id := "len") (lenK (K := K) rfl) (by rfl) (M.free z_len) (by decide +kernel) (pa_cons (pv 0) pa_nil)) pa_nil)) (blkOk_by (N := N__law_due) (sc := defScope s__law_due) (by decide +kernel)) (fun _ _ _ _ _ => (pg_name (i := 3) nd rfl (Or.inl rfl))) (fun _ _ _ _ _ => (pts_one (pt_cmpR op_lt (pv 3) (pe_ix (ixK (K := K) rfl) (pv 1) pe_int (fun _ _ => rfl)) (nomark _)))) (fun _ _ _ _ _ => (pe_ix (ixK (K := K) rfl) (pv 0) (pv 3) (fun _ _ => rfl)))) pa_nil)))) pss_nil)
      (pss_cons (ps_set (i := 2) nd rfl (Or.inl rfl) (pe_clS k__law_up hr (by decide) (by rfl) (pass0S (E := L2.WE (fun c od _ H => E c od H))) (pa_cons (pe_lc (own := [("_law_row", 4)]) rfl nd (pi_tupK (K := K) rfl (pv 0)) (blkOk_by (N := N__law_due) (sc := defScope s__law_due) (by decide +kernel)) (fun _ _ _ _ _ => (pg_name (i := 4) nd rfl (Or.inl rfl))) (fun _ _ _ _ _ => pts_nil) (fun _ _ _ _ _ => (pe_ix (ixK (K := K) rfl) (pv 4) (pe_ix (ixK (K := K) rfl) (pv 1) pe_int (fun _ _ => rfl)) (fun _ _ => rfl)))) pa_nil)))
      (pss_cons (ps_if (pt_cmpR (eqdK (K := K) rfl hr.units) (pe_ix (ixK (K := K) rfl) (pv 1) pe_int (fun _ _ => rfl)) pe_str (nomark _)) (pss_one (ps_ret (pv 2))) pss_nil)
      (pss_one (ps_ret (pe_callTy (T := "tuple") (tupK (K := K) rfl) (by rfl) (M.free z_tuple) (by decide +kernel) (pa_cons (pe_lc (own := [("_law_node", 5)]) rfl nd (pi_tupK (K := K) rfl (pv 2)) (blkOk_by (N := N__law_due) (sc := defScope s__law_due) (by decide +kernel)) (fun _ _ _ _ _ => (pg_name (i := 5) nd rfl (Or.inr rfl))) (fun _ _ _ _ _ => pts_nil) (fun _ _ _ _ _ => (pe_tupP (pa_cons (pv 5) (pa_cons (pe_callB (id := "len") (lenK (K := K) rfl) (by rfl) (M.free z_len) (by decide +kernel) (pa_cons (pe_lc (own := [("_law_row", 4)]) rfl nd (pi_tupK (K := K) rfl (pv 0)) (blkOk_nest (N := N__law_due) (by decide +kernel)) (fun _ _ _ _ _ => (pg_name (i := 4) nd rfl (Or.inl rfl))) (fun _ _ _ _ _ => (pts_one (pt_cmpR op_eq (pe_ix (ixK (K := K) rfl) (pv 4) (pe_ix (ixK (K := K) rfl) (pv 1) pe_int (fun _ _ => rfl)) (fun _ _ => rfl)) (pv 5) (nomark _)))) (fun _ _ _ _ _ => (pv 4))) pa_nil)) pa_nil))))) pa_nil))))))))), fun sc Hs Ps => ?z⟩
  case z => exact (ss_seq (ss_if (st_test (se_op (rv_eqD rfl) (se_op (rv_ix rfl) se_var se_i) (se_s t0_eq))) (ss_ret se_var) ss_nil)
      (ss_seq (ss_if (st_test (se_op (rv_eqD rfl) (se_op (rv_ix rfl) se_var se_i) (se_s t1_eq))) (ss_ret (se_cb1 (r1_len rfl) se_var)) ss_nil)
      (ss_seq (ss_if (st_test (se_op (rv_eqD rfl) (se_op (rv_ix rfl) se_var se_i) (se_s t2_eq))) (ss_ret (se_cb1 (r1_tup rfl) (se_fz (seo_lc (A := [3]) (vs := [3]) (si_rng1 (se_cb1 (r1_len rfl) se_var)) (sg_name (i := 3)) (st_test (se_op rv_lt se_var (se_op (rv_ix rfl) se_var se_i))) (se_op (rv_ix rfl) se_var se_var))))) ss_nil)
      (ss_seq (ss_set (se_call (sm_val (se_fz (seo_lc (A := [4]) (vs := [4]) (si_tup rfl se_var) (sg_name (i := 4)) st_yes (se_op (rv_ix rfl) se_var (se_op (rv_ix rfl) se_var se_i)))) sm_nil)) sg_name)
      (ss_seq (ss_if (st_test (se_op (rv_eqD rfl) (se_op (rv_ix rfl) se_var se_i) (se_s t4_eq))) (ss_ret se_var) ss_nil)
      (ss_ret (se_cb1 (r1_tup rfl) (se_fz (seo_lc (A := [5]) (vs := [5]) (si_tup rfl se_var) (sg_name (i := 5)) st_yes (se_tup (sa_cons se_var (sa_cons (se_cb1 (r1_len rfl) (se_fz (seo_lc (A := [4]) (vs := [4]) (si_tup rfl se_var) (sg_name (i := 4)) (st_test (se_op rv_eq (se_op (rv_ix rfl) se_var (se_op (rv_ix rfl) se_var se_i)) se_var)) se_var))) sa_nil))))))))))))
abbrev s__law_finishes : Stmt := topS 12
abbrev N__law_finishes : List Str := ["_law_d", "_law_table", "_law_many", "_law_rows", "_law_k"]
theorem sc__law_finishes : FnScope N__law_finishes ["_law_d", "_law_table", "_law_many"] (defScope (topS 12)) := ⟨rfl, rfl, rfl, by decide +kernel, rfl, by decide +kernel, by decide +kernel⟩
theorem cl__law_finishes (M : Mg K mg) (D : DefK K "_law_finishes" s__law_finishes) (k__law_draw : Kept P w K mg base CX0 1 "_law_draw" (spM P w K (REk K) F__law_draw)) (k__law_shuffled : Kept P w K mg base CX0 2 "_law_shuffled" (spM P w K (REk K) F__law_shuffled)) (z_len : FreeK K "len") (z_range : FreeK K "range") : Kept P w K mg base CX0 3 "_law_finishes" (spM P w K (REk K) F__law_finishes) := by
  refine cl_of (k := 2) D M (fun _ _ _ _ _ _ us hl => match us, hl with | [_, _, _], _ => rfl) sc__law_finishes rfl rfl rfl fun f cdv A outer s H E hr => ?_
  have nd := sc__law_finishes.nd
  refine ⟨?A, _, (pss_cons (ps_set (i := 3) nd rfl (Or.inl rfl) (pe_lst (pa_cons (pe_tupP (pa_cons pe_str pa_nil)) (pa_cons (pe_tupP (pa_cons pe_str pa_nil)) (pa_cons (pe_tupP (pa_cons pe_str (pa_cons pe_int pa_nil))) (pa_cons (pe_tupP (pa_cons pe_str (pa_cons pe_int pa_nil))) (pa_cons (pe_tupP (pa_cons pe_str (pa_cons (pe_clS k__law_draw hr (by decide) (by rfl) (pass0S (E := L2.WE (fun c od _ H => E c od H))) (pa_cons (pv 0) (pa_cons (pe_op (op_add.or op_add_str) (pe_callB (id := "len") (lenK (K := K) rfl) (by rfl) (M.free z_len) (by decide +kernel) (pa_cons (pv 1) pa_nil)) pe_int) pa_nil))) pa_nil))) pa_nil)))))))
      (pss_cons (ps_for PassesOwn.never rfl (pi_range1 (by rfl) (M.free z_range) (pa_cons (pv 2) pa_nil)) (pg_name (i := 4) nd rfl (Or.inl rfl))
      (pss_one (ps_set (i := 3) nd rfl (Or.inl rfl) (pe_op op_cat (pv 3) (pe_lst (pa_cons (pe_tupP (pa_cons pe_str (pa_cons (pv 4) pa_nil))) (pa_cons (pe_tupP (pa_cons pe_str (pa_cons (pv 4) pa_nil))) pa_nil)))))))
      (pss_one (ps_ret (pe_clS k__law_shuffled hr (by decide) (by rfl) (pass0S (E := L2.WE (fun c od _ H => E c od H))) (pa_cons (pv 0) (pa_cons (pv 3) pa_nil))))))), fun sc Hs Ps => ?z⟩
  case z => exact (ss_seq (ss_set (se_fz (seo_lst (sa_cons (se_tup (sa_cons (se_s t0_eq) sa_nil)) (sa_cons (se_tup (sa_cons (se_s t1_eq) sa_nil)) (sa_cons (se_tup (sa_cons (se_s t2_eq) (sa_cons se_i sa_nil))) (sa_cons (se_tup (sa_cons (se_s t2_eq) (sa_cons se_i sa_nil))) (sa_cons (se_tup (sa_cons (se_s t2_eq) (sa_cons (se_call (sm_own (sm_val (se_op rv_add (se_cb1 (r1_len rfl) se_var) se_i) sm_nil))) sa_nil))) sa_nil))))))) sg_name)
      (ss_seq (ss_for (si_rng1 se_var) (sg_name (i := 4))
      (ss_set (se_fz (seo_op rn_cat se_var (se_fz (seo_lst (sa_cons (se_tup (sa_cons (se_s t3_eq) (sa_cons se_var sa_nil))) (sa_cons (se_tup (sa_cons (se_s t4_eq) (sa_cons se_var sa_nil))) sa_nil)))))) sg_name))
      (ss_retO (seo_call (sm_own (sm_val se_var sm_nil))))))
abbrev N_law : List Str := ["_law_script", "_law_d", "_law_tables", "_law_k", "_law_many", "_law_table", "_law_finishes_here", "_law_finish"]
theorem sc_law : FnScope N_law ["_law_script"] (defScope (topS 13)) := ⟨rfl, rfl, rfl, by decide +kernel, rfl, by decide +kernel, by decide +kernel⟩
end
abbrev s__law_begin : Stmt := topS 3
theorem sc__law_begin : FnScope ["_law_script", "_law_cell"] ["_law_script"] (defScope s__law_begin) := ⟨rfl, rfl, rfl, by decide +kernel, rfl, by decide +kernel, by decide +kernel⟩
section
variable {P : Program} {w : World} {K : PySem.W.Frag} {mg : Str → Option Value} {base : Heap}
theorem cl__law_begin (M : Mg K mg) (D : DefK K "_law_begin" s__law_begin) (z_int : FreeK K "int") : Kept P w K mg base CX0 1 "_law_begin" (spBegin K) := by
  obtain ⟨f, fd, hn, Fd⟩ := D
  refine ⟨f, fd, ["_law_script"], ?_, M.get hn, Fd.kp, Fd.binds fun _ _ _ _ _ _ us hl => match us, hl with | [_], _ => rfl⟩
  refine Fd.ok sc__law_begin (fun vs H Q E h => by obtain ⟨a, ns, rfl, _⟩ := h; rfl) fun cdv A outer s H vs Q E hr h => ?_
  have nd := sc__law_begin.nd
  refine ⟨_, pss_one (ps_ret (pe_lst (pa_cons (pe_lc (own := [("_law_cell", 1)]) rfl nd (pi_list (pv 0)) (blkOk_by (N := ["_law_script", "_law_cell"]) (sc := defScope s__law_begin) (by decide +kernel)) (fun _ _ _ _ _ => pg_name (i := 1) nd rfl (Or.inl rfl)) (fun _ _ _ _ _ => pts_nil) (fun _ _ _ _ _ => pe_callTy (T := "int") call_int1 (by rfl) (M.free z_int) (by decide +kernel) (pa_cons (pv 1) pa_nil))) (pa_cons pe_int (pa_cons pe_int (pa_cons pe_int pa_nil)))))), ?_⟩
  exact begin_red h
abbrev s_law : Stmt := topS 13
theorem ok_law (M : Mg K mg) {f : Addr} {fd : FuncData} (Fd : Fun K "law" "law" s_law f fd) (hm : ∀ ns : List Int, ns.length ≤ 63 → ∃ e, m_law (lawE ns 6) = .rt (.fz (.bl true)) e) (k__law_begin : Kept P w K mg base CX0 1 "_law_begin" (spBegin K)) (k__law_due : Kept P w K mg base CX0 2 "_law_due" (spM P w K (REk K) F__law_due)) (k__law_finishes : Kept P w K mg base CX0 3 "_law_finishes" (spM P w K (REk K) F__law_finishes)) (k__law_pick : Kept P w K mg base CX0 2 "_law_pick" (spM P w K (REk K) F__law_pick)) (k__law_same : Kept P w K mg base CX0 8 "_law_same" (spM P w K (REk K) (F__law_same 6))) (k__law_table_of : Kept P w K mg base CX0 2 "_law_table_of" (spM P w K (REk K) F__law_table_of)) (k_finished : Kept P w K mg base CX0 1 "finished" (spM P w K (REk K) F_finished)) (z_range : FreeK K "range") : FnOk P w K mg base CX0 9 f fd ["_law_script"] (spLaw K) := by
  refine Fd.ok (k := 8) sc_law (fun vs H Q E h => by obtain ⟨a, ns, rfl, _⟩ := h; rfl) fun cdv A outer s H vs Q E hr h => ?_
  have nd := sc_law.nd
  refine ⟨_, pss_cons (ps_set (i := 1) nd rfl (Or.inl rfl) (pe_clS k__law_begin hr (by decide) (by rfl) (pass0S (E := fun _ _ _ _ => False)) (pa_cons (pv 0) pa_nil)))
      (pss_cons (ps_set (i := 2) nd rfl (Or.inl rfl) (pe_lst pa_nil))
      (pss_cons (ps_for PassesOwn.never rfl (pi_range1 (by rfl) (M.free z_range) (pa_cons pe_int pa_nil)) (pg_name (i := 3) nd rfl (Or.inl rfl))
      (pss_cons (ps_set (i := 4) nd rfl (Or.inl rfl) (pe_clS k__law_pick hr (by decide) (by rfl) (pass0S (E := L2.WE (fun c od _ H => E c od H))) (pa_cons (pv 1) (pa_cons (pe_lst (pa_cons pe_int (pa_cons pe_int (pa_cons pe_int (pa_cons pe_int (pa_cons pe_int (pa_cons pe_int (pa_cons pe_int pa_nil)))))))) pa_nil))))
      (pss_cons (ps_set (i := 5) nd rfl (Or.inl rfl) (pe_clS k__law_table_of hr (by decide) (by rfl) (pass0S (E := L2.WE (fun c od _ H => E c od H))) (pa_cons (pv 1) (pa_cons (pv 4) pa_nil))))
      (pss_one (ps_expr (pe_bm PySem.F.plainAttrs_list PySem.F.slot_list_append PySem.F.type_list_append mt_append (pv 2) (pa_cons (pe_tupP (pa_cons (pv 5) (pa_cons (pe_clS k__law_finishes hr (by decide) (by rfl) (pass0S (E := L2.WE (fun c od _ H => E c od H))) (pa_cons (pv 1) (pa_cons (pv 5) (pa_cons (pv 4) pa_nil)))) pa_nil))) pa_nil)))))))
      (pss_cons (ps_for PassesOwn.never rfl (pi_listK (K := K) rfl (pe_lst (pa_cons (pe_ix (ixK (K := K) rfl) (pv 2) pe_int (fun _ _ => rfl)) (pa_cons (pe_ix (ixK (K := K) rfl) (pv 2) pe_int (fun _ _ => rfl)) (pa_cons (pe_ix (ixK (K := K) rfl) (pv 2) pe_int (fun _ _ => rfl)) pa_nil))))) (pg_tupK (K := K) (n := 2) rfl rfl (pgs_cons (pg_name (i := 5) nd rfl (Or.inl rfl)) (pgs_cons (pg_name (i := 6) nd rfl (Or.inl rfl)) pgs_nil)))
      (pss_one (ps_for PassesOwn.never rfl (pi_listK (K := K) rfl (pv 6)) (pg_name (i := 7) nd rfl (Or.inl rfl))
      (pss_one (ps_if (pt_not (pt_tr (K := K) rfl (pe_clS k__law_same hr (by decide) (by rfl) (pass0S (E := L2.WE (fun c od _ H => E c od H))) (pa_cons (pe_clS k_finished hr (by decide) (by rfl) (pass0S (E := L2.WE (fun c od _ H => E c od H))) (pa_cons (pv 5) (pa_cons (pv 7) pa_nil))) (pa_cons (pe_clS k__law_due hr (by decide) (by rfl) (pass0S (E := L2.WE (fun c od _ H => E c od H))) (pa_cons (pv 5) (pa_cons (pv 7) pa_nil))) pa_nil))) (by intro _; rfl))) (pss_one (ps_ret pe_bl)) pss_nil)))))
      (pss_one (ps_ret pe_bl))))), ?_⟩
  refine law_red (P := P) (w := w) (A := ?A) (RE := REk K) (nl := 6) rfl hm (fun sc Hs Ps H => ?z) h
  case z => exact (ss_seq (ss_setO (seo_lst sa_nil))
      (ss_seq (ss_for (si_rng1 se_i) (sg_name (i := 3))
      (ss_seq (ss_set (se_call (sm_own (sm_val (se_fz (seo_lst (sa_cons se_i (sa_cons se_i (sa_cons se_i (sa_cons se_i (sa_cons se_i (sa_cons se_i (sa_cons se_i sa_nil))))))))) sm_nil))) sg_name)
      (ss_seq (ss_set (se_call (sm_own (sm_val se_var sm_nil))) sg_name)
      (ss_app (se_tup (sa_cons se_var (sa_cons (se_fz (seo_call (sm_own (sm_val se_var (sm_val se_var sm_nil))))) sa_nil)))))))
      (ss_frz (i := 2) (ss_seq (ss_for (si_list rfl (se_fz (seo_lst (sa_cons (se_op (rv_ix rfl) se_var se_i) (sa_cons (se_op (rv_ix rfl) se_var se_i) (sa_cons (se_op (rv_ix rfl) se_var se_i) sa_nil)))))) (sg_tup (sgs_cons (sg_name (i := 5)) (sgs_cons (sg_name (i := 6)) sgs_nil)))
      (ss_for (si_list rfl se_var) (sg_name (i := 7))
      (ss_if (st_not (st_truth rfl (se_call (sm_val (se_call (sm_val se_var (sm_val se_var sm_nil))) (sm_val (se_call (sm_val se_var (sm_val se_var sm_nil))) sm_nil))))) (ss_ret se_b) ss_nil)))
      (ss_ret se_b)))))
end
theorem all_mk {P : Program} {w : World} {K : PySem.W.Frag} {mg : Str → Option Value} {h : Heap} {fa f : Addr} (X : K.In h) (G : h.Ns mainGlobals mg) (hfa : mg "law" = some (.ref fa)) (hm : ∀ ns : List Int, ns.length ≤ 63 → ∃ e, m_law (lawE ns 6) = .rt (.fz (.bl true)) e)
    {oc : Value} {od an : Option Addr} {osl : Array (Option Value)} {kV doc pm cdv ct : Value} (a : PySem.W.nsIn K mainGlobals "law" = some (some (.ref f)))
    (l : K.lookup f = some ⟨oc, od, .func (PySem.W.fnOf "law" "law" (defArgs s_law) (defBody s_law) (defScope s_law) .none kV doc pm an cdv ct), osl⟩) (c : PySem.W.codeIn K cdv "law" = true) (k : PySem.W.keepIn K (.ref f) = true)
        (d__law_begin : DefK K "_law_begin" s__law_begin)
    (d_finished : DefK K "finished" s_finished)
    (d__law_draw : DefK K "_law_draw" s__law_draw)
    (d__law_pick : DefK K "_law_pick" s__law_pick)
    (d__law_shuffled : DefK K "_law_shuffled" s__law_shuffled)
    (d__law_is_int : DefK K "_law_is_int" s__law_is_int)
    (d__law_up : DefK K "_law_up" s__law_up)
    (d__law_same : DefK K "_law_same" s__law_same)
    (d__law_table_of : DefK K "_law_table_of" s__law_table_of)
    (d__law_due : DefK K "_law_due" s__law_due)
    (d__law_finishes : DefK K "_law_finishes" s__law_finishes)
    (z_abs : FreeK K "abs")
    (z_all : FreeK K "all")
    (z_bool : FreeK K "bool")
    (z_int : FreeK K "int")
    (z_isinstance : FreeK K "isinstance")
    (z_len : FreeK K "len")
    (z_list : FreeK K "list")
    (z_range : FreeK K "range")
    (z_set : FreeK K "set")
    (z_sorted : FreeK K "sorted")
    (z_str : FreeK K "str")
    (z_tuple : FreeK K "tuple") :
    ∃ fd : FuncData, (∀ (s : Shared) (v : Value), BindsTo s fd ⟨[v], []⟩ [("_law_script", v)]) ∧ ∀ base : Heap, K.In base → base.Ns mainGlobals mg → FnOk P w K mg base CX0 9 fa fd ["_law_script"] (spLaw K) := by
  have M : Mg K mg := mg_mk X G
  have e := hfa.symm.trans (M.get a)
  cases e
  have Fd := fun_mk (st := s_law) l c k
  have k__law_begin : ∀ base, Kept P w K mg base CX0 1 "_law_begin" (spBegin K) := fun base => cl__law_begin M d__law_begin z_int
  have k_finished : ∀ base, Kept P w K mg base CX0 1 "finished" (spM P w K (REk K) F_finished) := fun base => cl_finished M d_finished z_len z_sorted z_tuple
  have k__law_draw : ∀ base, Kept P w K mg base CX0 1 "_law_draw" (spM P w K (REk K) F__law_draw) := fun base => cl__law_draw M d__law_draw z_abs z_int z_len
  have k__law_pick : ∀ base, Kept P w K mg base CX0 2 "_law_pick" (spM P w K (REk K) F__law_pick) := fun base => cl__law_pick M d__law_pick (k__law_draw base) z_len
  have k__law_shuffled : ∀ base, Kept P w K mg base CX0 2 "_law_shuffled" (spM P w K (REk K) F__law_shuffled) := fun base => cl__law_shuffled M d__law_shuffled (k__law_draw base) z_len z_list z_range
  have k__law_is_int : ∀ base, Kept P w K mg base CX0 1 "_law_is_int" (spM P w K (REk K) F__law_is_int) := fun base => cl__law_is_int M d__law_is_int z_bool z_int z_isinstance
  have k__law_up : ∀ base, Kept P w K mg base CX0 1 "_law_up" (spM P w K (REk K) F__law_up) := fun base => cl__law_up M d__law_up z_set z_sorted z_tuple
  have k__law_same : ∀ base, Kept P w K mg base CX0 8 "_law_same" (spM P w K (REk K) (F__law_same 6)) := fun base => cl__law_same M d__law_same (k__law_is_int base) z_all z_isinstance z_len z_range z_str z_tuple 6
  have k__law_table_of : ∀ base, Kept P w K mg base CX0 2 "_law_table_of" (spM P w K (REk K) F__law_table_of) := fun base => cl__law_table_of M d__law_table_of (k__law_draw base) z_range z_tuple
  have k__law_due : ∀ base, Kept P w K mg base CX0 2 "_law_due" (spM P w K (REk K) F__law_due) := fun base => cl__law_due M d__law_due (k__law_up base) z_len z_range z_tuple
  have k__law_finishes : ∀ base, Kept P w K mg base CX0 3 "_law_finishes" (spM P w K (REk K) F__law_finishes) := fun base => cl__law_finishes M d__law_finishes (k__law_draw base) (k__law_shuffled base) z_len z_range
  exact ⟨_, fun s v => .of_eq rfl, fun base _ _ => ok_law M Fd hm (k__law_begin base) (k__law_due base) (k__law_finishes base) (k__law_pick base) (k__law_same base) (k__law_table_of base) (k_finished base) z_range⟩
end K60

set_option linter.all false
set_option maxRecDepth 10000
/-! The draws, as every law makes them. -/
namespace Ml
def drawM : MS :=
  (sSeq (sIf (mTest (mO2 oGt (mOwn2 0 wIx (mC (.int 2))) (mC (.int 0))))
  (sSeq (sSet (mOwn2 0 wIx (mC (.int 2))) (gN 2))
  (sSeq (sPut 0 (mC (.int 2)) (mO2 oDiv (mVar 2) (mVar 1)))
  (sRet (mO2 oMod (mO1 oInt (mVar 2)) (mVar 1)))))
  sNil)
  (sSeq (sSet (mC (.int 0)) (gN 3))
  (sSeq (sIf (mTest (mO2 oLt (mOwn2 0 wIx (mC (.int 1))) (mO1 oLen (mOwn2 0 wIx (mC (.int 0))))))
  (sSeq (sSet (mO2 oIx (mOwn2 0 wIx (mC (.int 0))) (mOwn2 0 wIx (mC (.int 1)))) (gN 4))
  (sSet (mO2 oAdd (mO2 oMul (mC (.int 2)) (mO1 oAbs (mVar 4))) (mO1 oInt (mO2 oLt (mVar 4) (mC (.int 0))))) (gN 3)))
  sNil)
  (sSeq (sPutAug 0 (mC (.int 1)) oAddI (mC (.int 1)))
  (sSeq (sIf (mTest (mO2 oGe (mVar 3) (mO2 oMul (mC (.int 2)) (mO2 oPow (mC (.int 10)) (mC (.int 18))))))
  (sSeq (sSet (mO2 oMod (mO1 oInt (mO2 oDiv (mVar 3) (mC (.int 2)))) (mO2 oShl (mC (.int 1)) (mC (.int 6000)))) (gN 2))
  (sSeq (sPut 0 (mC (.int 2)) (mO2 oDiv (mVar 2) (mVar 1)))
  (sRet (mO2 oMod (mO1 oInt (mVar 2)) (mVar 1)))))
  sNil)
  (sSeq (sPut 0 (mC (.int 3)) (mO2 oMod (mO1 oInt (mO2 oAdd (mO2 oAdd (mO2 oAdd (mO2 oMul (mOwn2 0 wIx (mC (.int 3))) (mC (.int 48271))) (mO2 oMul (mO2 oMod (mO1 oInt (mVar 3)) (mC (.int 2147483629))) (mC (.int 16807)))) (mO2 oMul (mOwn2 0 wIx (mC (.int 1))) (mC (.int 69621)))) (mC (.int 11)))) (mC (.int 2147483647))))
  (sRet (mO2 oMod (mO1 oInt (mO2 oDiv (mOwn2 0 wIx (mC (.int 3))) (mC (.int 16)))) (mVar 1)))))))))
def drawF : Fn := mkFn 2 3 drawM
/-- the state of the draws -/
def Dr (ns : List Int) (ds : List Dv) : Prop := ∃ i l s : Int, ds = [.scr ns, .int i, .int l, .int s] ∧ 0 ≤ i ∧ 0 ≤ l ∧ 0 ≤ s
theorem fmod_b (a : Int) {m : Int} (h : 1 ≤ m) : 0 ≤ a.fmod m ∧ a.fmod m < m := ⟨Int.fmod_nonneg_of_pos a (by omega), Int.fmod_lt_of_pos a (by omega)⟩
theorem fdiv_n {a m : Int} (ha : 0 ≤ a) (h : 1 ≤ m) : 0 ≤ a.fdiv m := Int.fdiv_nonneg ha (by omega)
def drawR : MS :=
  (sSeq (sPutAug 0 (mC (.int 1)) oAddI (mC (.int 1)))
  (sSeq (sIf (mTest (mO2 oGe (mVar 3) (mO2 oMul (mC (.int 2)) (mO2 oPow (mC (.int 10)) (mC (.int 18))))))
  (sSeq (sSet (mO2 oMod (mO1 oInt (mO2 oDiv (mVar 3) (mC (.int 2)))) (mO2 oShl (mC (.int 1)) (mC (.int 6000)))) (gN 2))
  (sSeq (sPut 0 (mC (.int 2)) (mO2 oDiv (mVar 2) (mVar 1)))
  (sRet (mO2 oMod (mO1 oInt (mVar 2)) (mVar 1)))))
  sNil)
  (sSeq (sPut 0 (mC (.int 3)) (mO2 oMod (mO1 oInt (mO2 oAdd (mO2 oAdd (mO2 oAdd (mO2 oMul (mOwn2 0 wIx (mC (.int 3))) (mC (.int 48271))) (mO2 oMul (mO2 oMod (mO1 oInt (mVar 3)) (mC (.int 2147483629))) (mC (.int 16807)))) (mO2 oMul (mOwn2 0 wIx (mC (.int 1))) (mC (.int 69621)))) (mC (.int 11)))) (mC (.int 2147483647))))
  (sRet (mO2 oMod (mO1 oInt (mO2 oDiv (mOwn2 0 wIx (mC (.int 3))) (mC (.int 16)))) (mVar 1))))))
theorem drawR_ok {ns : List Int} {i l s z m : Int} {x : Slt} (h1 : 1 ≤ m) (h2 : m < 1073741824) (hi : 0 ≤ i) (hl : 0 ≤ l) (hs : 0 ≤ s) (hz : 0 ≤ z) :
    ∃ k ds' y w, drawR [.ow (some 0) (.lst [.scr ns, .int i, .int l, .int s]), .fz (.int m), .un, .fz (.int z), x] = .rt (.fz (.int k)) [.ow (some 0) (.lst ds'), .fz (.int m), y, w, x] ∧ 0 ≤ k ∧ k < m ∧ Dr ns ds' := by
  have hm0 : m ≠ 0 := by omega
  have hmb : m.natAbs < 1073741824 := by omega
  generalize hB : (2 : Int) ^ 6000 = B
  have hB1 : 1 ≤ B := by
    rw [← hB]
    have : (0 : Int) < 2 ^ 6000 := Int.pow_pos (by decide)
    omega
  have hB0 : B ≠ 0 := by omega
  by_cases c : (2000000000000000000 : Int) ≤ z
  · refine ⟨((z.fdiv 2).fmod B).fmod m, [.scr ns, .int (i + 1), .int (((z.fdiv 2).fmod B).fdiv m), .int s], .fz (.int ((z.fdiv 2).fmod B)), .fz (.int z), ?_, (fmod_b _ h1).1, (fmod_b _ h1).2, i + 1, _, s, rfl, by omega, fdiv_n (fmod_b _ hB1).1 h1, hs⟩
    simp [drawR, sSeq, sPutAug, isOw, mC, getI, ixn, oAddI, sIf, mTest, mO2, oGe, mVar, oMul, oPow, c, sSet, oMod, oDiv, mO1, oInt, oShl, hB, hB0, nxO, gN, free, sPut, sRet, hm0, hmb, sNil]
  · refine ⟨((((s * 48271 + z.fmod 2147483629 * 16807 + (i + 1) * 69621 + 11).fmod 2147483647).fdiv 16)).fmod m, [.scr ns, .int (i + 1), .int l, .int ((s * 48271 + z.fmod 2147483629 * 16807 + (i + 1) * 69621 + 11).fmod 2147483647)], .un, .fz (.int z), ?_, (fmod_b _ h1).1, (fmod_b _ h1).2, i + 1, l, _, rfl, by omega, hl, (fmod_b _ (by decide)).1⟩
    simp [drawR, sSeq, sPutAug, isOw, mC, getI, ixn, oAddI, sIf, mTest, mO2, oGe, mVar, oMul, oPow, c, sSet, oMod, oDiv, mO1, oInt, oShl, oAdd, mOwn2, mOwn, wIx, nxO, gN, free, sPut, sRet, hm0, hmb, sNil]
theorem draw_ok {ns : List Int} {ds : List Dv} {m : Int} (hd : Dr ns ds) (h1 : 1 ≤ m) (h2 : m < 1073741824) :
    ∃ k ds', drawF [.ow none (.lst ds), .fz (.int m)] = .ok (.fz (.int k)) [.lst ds'] ∧ 0 ≤ k ∧ k < m ∧ Dr ns ds' := by
  obtain ⟨i, l, s, rfl, hi, hl, hs⟩ := hd
  have hm0 : m ≠ 0 := by omega
  have hmb : m.natAbs < 1073741824 := by omega
  by_cases c1 : 0 < l
  · refine ⟨l.fmod m, [.scr ns, .int i, .int (l.fdiv m), .int s], ?_, (fmod_b l h1).1, (fmod_b l h1).2, i, l.fdiv m, s, rfl, hi, fdiv_n hl h1, hs⟩
    simp [drawF, drawM, mkFn, initE, outsE, isArg, sSeq, sIf, mTest, mO2, mOwn2, mOwn, wIx, getI, ixn, mC, oGt, c1, sSet, nxO, gN, free, sPut, isOw, oDiv, oMod, oInt, mO1, mVar, sRet, hm0, hmb]
  · have key : ∃ z x, 0 ≤ z ∧ drawM (initE 0 [.ow none (.lst [.scr ns, .int i, .int l, .int s]), .fz (.int m)] ++ List.replicate 3 .un) = drawR [.ow (some 0) (.lst [.scr ns, .int i, .int l, .int s]), .fz (.int m), .un, .fz (.int z), x] := by
      by_cases c2 : i < ns.length
      · obtain ⟨j, rfl⟩ := Int.eq_ofNat_of_zero_le hi
        have hj : j < ns.length := by omega
        refine ⟨2 * (if ns[j] < 0 then -ns[j] else ns[j]) + (if ns[j] < 0 then 1 else 0), .fz (.int ns[j]), by split <;> omega, ?_⟩
        have hg : getI ns (j : Int) = some ns[j] := by simp [getI, ixn, hj]
        by_cases c3 : ns[j] < 0
        · simp [drawM, initE, sSeq, sIf, mTest, mO2, mOwn2, mOwn, wIx, mC, oGt, c1, sSet, nxO, gN, free, oLt, mO1, oLen, hj, oIx, hg, oAdd, oMul, oAbs, mVar, oInt, c3, sNil, show getI [Dv.scr ns, .int (j : Int), .int l, .int s] 0 = some (.scr ns) from rfl, show getI [Dv.scr ns, .int (j : Int), .int l, .int s] 1 = some (.int j) from rfl, show getI [Dv.scr ns, .int (j : Int), .int l, .int s] 2 = some (.int l) from rfl]
          rfl
        · simp [drawM, initE, sSeq, sIf, mTest, mO2, mOwn2, mOwn, wIx, mC, oGt, c1, sSet, nxO, gN, free, oLt, mO1, oLen, hj, oIx, hg, oAdd, oMul, oAbs, mVar, oInt, c3, sNil, show getI [Dv.scr ns, .int (j : Int), .int l, .int s] 0 = some (.scr ns) from rfl, show getI [Dv.scr ns, .int (j : Int), .int l, .int s] 1 = some (.int j) from rfl, show getI [Dv.scr ns, .int (j : Int), .int l, .int s] 2 = some (.int l) from rfl]
          rfl
      · refine ⟨0, .un, by omega, ?_⟩
        simp [drawM, initE, sSeq, sIf, mTest, mO2, mOwn2, mOwn, wIx, mC, oGt, c1, sSet, nxO, gN, free, oLt, mO1, oLen, c2, sNil, show getI [Dv.scr ns, .int i, .int l, .int s] 0 = some (.scr ns) from rfl, show getI [Dv.scr ns, .int i, .int l, .int s] 1 = some (.int i) from rfl, show getI [Dv.scr ns, .int i, .int l, .int s] 2 = some (.int l) from rfl]
        rfl
    obtain ⟨z, x, hz, e⟩ := key
    obtain ⟨k, ds', y, w, hr, b1, b2, b3⟩ := drawR_ok (ns := ns) (x := x) h1 h2 hi hl hs hz
    refine ⟨k, ds', ?_, b1, b2, b3⟩
    have e2 : drawM (initE 0 [.ow none (.lst [.scr ns, .int i, .int l, .int s]), .fz (.int m)] ++ List.replicate 3 .un) = _ := e.trans hr
    unfold drawF mkFn
    simp only [e2]
    simp [isArg, outsE]
/-- a draw, as it is written in a law: d in slot i -/
theorem call_draw {e e1 : Loc} {i : Nat} {j : Option Nat} {ns : List Int} {ds0 ds : List Dv} {ma : ME Dv} {m : Int} (he : e[i]? = some (.ow j (.lst ds0))) (hd : Dr ns ds) (hm : ma e = .ok (.int m) e1) (he1 : e1[i]? = some (.ow j (.lst ds))) (h1 : 1 ≤ m) (h2 : m < 1073741824) :
    ∃ k ds', mCallD drawF [.own i, .val ma] e = .ok (.int k) (e1.set i (.ow j (.lst ds'))) ∧ 0 ≤ k ∧ k < m ∧ Dr ns ds' := by
  obtain ⟨k, ds', h, b1, b2, b3⟩ := draw_ok hd h1 h2
  refine ⟨k, ds', ?_, b1, b2, b3⟩
  simp [mCallD, mCall, mAs, he, isOw, hm, owns, resolve, he1, h, wback, putO]
end Ml

set_option linter.all false
set_option maxRecDepth 10000
/-! More of what every law draws; loops by what stays true. -/
namespace Ml
def pickM : MS :=
  (sRet (mO2 oIx (mVar 1) (mCallD drawF [.own 0, .val (mO1 oLen (mVar 1))])))
def pickF : Fn := mkFn 2 0 pickM
def rareM : MS :=
  (sRet (mO2 oEq (mCallD drawF [.own 0, .val (mVar 1)]) (mO2 oDiv (mVar 1) (mC (.int 2)))))
def rareF : Fn := mkFn 2 0 rareM
theorem getI_nat {α : Type} {ds : List α} {k : Int} (h : 0 ≤ k) (h2 : k < ds.length) : ∃ x, getI ds k = some x ∧ x ∈ ds := by
  obtain ⟨j, rfl⟩ := Int.eq_ofNat_of_zero_le h
  have hj : j < ds.length := by omega
  exact ⟨ds[j], by simp [getI, ixn, hj], List.getElem_mem hj⟩
theorem getI_of {α : Type} {ds : List α} {j : Nat} (hj : j < ds.length) : getI ds (j : Int) = some ds[j] := by simp [getI, ixn, hj]
theorem pick_ok {ns : List Int} {ds xs : List Dv} (hd : Dr ns ds) (h1 : xs ≠ []) (h2 : xs.length < 1073741824) :
    ∃ x ds', pickF [.ow none (.lst ds), .fz (.lst xs)] = .ok (.fz x) [.lst ds'] ∧ x ∈ xs ∧ Dr ns ds' := by
  have h1 : 1 ≤ (xs.length : Int) := by
    cases xs with
    | nil => exact absurd rfl h1
    | cons => simp; omega
  obtain ⟨k, ds', h, b1, b2, b3⟩ := call_draw (e := [.ow (some 0) (.lst ds), .fz (.lst xs)]) (e1 := [.ow (some 0) (.lst ds), .fz (.lst xs)]) (i := 0) (j := some 0) (ma := mO1 oLen (mVar 1)) (m := xs.length) (by rfl) hd (by rfl) (by rfl) h1 (by omega)
  obtain ⟨x, hx, hm⟩ := getI_nat b1 b2
  refine ⟨x, ds', ?_, hm, b3⟩
  simp [pickF, mkFn, initE, isArg, pickM, sRet, mO2, mVar, h, oIx, hx, outsE]
theorem rare_ok {ns : List Int} {ds : List Dv} {m : Int} (hd : Dr ns ds) (h1 : 1 ≤ m) (h2 : m < 1073741824) :
    ∃ b ds', rareF [.ow none (.lst ds), .fz (.int m)] = .ok (.fz (.bl b)) [.lst ds'] ∧ Dr ns ds' := by
  obtain ⟨k, ds', h, b1, b2, b3⟩ := call_draw (e := [.ow (some 0) (.lst ds), .fz (.int m)]) (e1 := [.ow (some 0) (.lst ds), .fz (.int m)]) (i := 0) (j := some 0) (ma := mVar 1) (m := m) (by rfl) hd (by rfl) (by rfl) h1 h2
  refine ⟨decide (k = m.fdiv 2), ds', ?_, b3⟩
  simp [rareF, mkFn, initE, isArg, rareM, sRet, mO2, mVar, h, oDiv, mC, oEq, eqS, outsE]
/-! calls, once the def's answer is known -/
section
variable {e e1 : Loc} {i : Nat} {j : Option Nat} {ds ds' : List Dv} {ma mb : ME Dv} {F : Fn} {a b v : Dv} {o : Ob}
theorem call_1 (he : e[i]? = some (.ow j (.lst ds))) (h : F [.ow none (.lst ds)] = .ok (.fz v) [.lst ds']) : mCallD F [.own i] e = .ok v (e.set i (.ow j (.lst ds'))) := by
  simp [mCallD, mCall, mAs, he, isOw, owns, resolve, h, wback, putO]
theorem call_2 (he : e[i]? = some (.ow j (.lst ds))) (hm : ma e = .ok a e1) (he1 : e1[i]? = some (.ow j (.lst ds'))) {ds2 : List Dv} (h : F [.ow none (.lst ds'), .fz a] = .ok (.fz v) [.lst ds2]) : mCallD F [.own i, .val ma] e = .ok v (e1.set i (.ow j (.lst ds2))) := by
  simp [mCallD, mCall, mAs, he, isOw, hm, owns, resolve, he1, h, wback, putO]
theorem call_v0 (h : F [] = .ok (.fz v) []) : mCallD F [] e = .ok v e := by
  simp [mCallD, mCall, mAs, owns, resolve, h, wback]
theorem call_v1 (hm : ma e = .ok a e1) (h : F [.fz a] = .ok (.fz v) []) : mCallD F [.val ma] e = .ok v e1 := by
  simp [mCallD, mCall, mAs, hm, owns, resolve, h, wback]
theorem call_v2 {e2 : Loc} (hm : ma e = .ok a e1) (hb : mb e1 = .ok b e2) (h : F [.fz a, .fz b] = .ok (.fz v) []) : mCallD F [.val ma, .val mb] e = .ok v e2 := by
  simp [mCallD, mCall, mAs, hm, hb, owns, resolve, h, wback]
theorem call_o0 (h : F [] = .ok (.ow none o) []) : mCallO F [] e = .ok o e := by
  simp [mCallO, mCall, mAs, owns, resolve, h, wback]
theorem call_o1 (hm : ma e = .ok a e1) (h : F [.fz a] = .ok (.ow none o) []) : mCallO F [.val ma] e = .ok o e1 := by
  simp [mCallO, mCall, mAs, hm, owns, resolve, h, wback]
end
theorem fn_ok {np nl : Nat} {b : MS} {as : List Slt} {s : Slt} {e : Loc} {os : List Ob} (h1 : as.length = np) (h2 : as.all isArg = true) (h : b (initE 0 as ++ List.replicate nl .un) = .rt s e) (h3 : outsE 0 as e = some os) : mkFn np nl b as = .ok s os := by
  unfold mkFn
  rw [if_pos ⟨h1, h2⟩, h]
  simp only [h3]
/-! statement by statement -/
section
variable {a b : MS} {e e1 e2 : Loc} {v : Slt} {m : ME Dv} {mo : ME Ob} {d : Dv} {o : Ob} {g : MG} {t : ME Bool} {ds : List Dv} {mi : ME (List Dv)} {i : Nat}
theorem seq_nx (h : a e = .nx e1) : sSeq a b e = b e1 := by unfold sSeq; rw [h]; rfl
theorem seq_rt (h : a e = .rt v e1) : sSeq a b e = .rt v e1 := by unfold sSeq; rw [h]; rfl
theorem set_ok (h : m e = .ok d e1) (hg : g d e1 = some e2) : sSet m g e = .nx e2 := by unfold sSet; rw [h]; simp [hg, nxO]
theorem setO_ok (h : mo e = .ok o e1) (hg : free e1[i]? = true) : sSetO i mo e = .nx (e1.set i (.ow none o)) := by unfold sSetO; rw [h]; simp [hg]
theorem if_t (h : t e = .ok true e1) : sIf t a b e = a e1 := by unfold sIf; rw [h]; rfl
theorem if_f (h : t e = .ok false e1) : sIf t a b e = b e1 := by unfold sIf; rw [h]; rfl
theorem for_ok (h : mi e = .ok ds e1) : sFor mi g b e = loop g b ds e1 := by unfold sFor; rw [h]; rfl
theorem ret_ok (h : m e = .ok d e1) : sRet m e = .rt (.fz d) e1 := by unfold sRet; rw [h]; rfl
theorem rg1_ok {n : Int} {L : List Dv} (h : m e = .ok (.int n) e1) (hL : itR 0 n = some L) : mRg1 m e = .ok L e1 := by unfold mRg1; rw [h]; simp [hL]
theorem not_ok {x : Bool} (h : t e = .ok x e1) : mNot t e = .ok (!x) e1 := by unfold mNot; rw [h]; rfl
theorem and_t {s : ME Bool} (h : t e = .ok true e1) : mAnd t s e = s e1 := by unfold mAnd; rw [h]; rfl
theorem and_f {s : ME Bool} (h : t e = .ok false e1) : mAnd t s e = .ok false e1 := by unfold mAnd; rw [h]; rfl
theorem truth_b {x : Bool} (h : m e = .ok (.bl x) e1) : mTruth m e = .ok x e1 := by unfold mTruth; rw [h]; rfl
theorem test_b {x : Bool} (h : m e = .ok (.bl x) e1) : mTest m e = .ok x e1 := by unfold mTest; rw [h]; rfl
theorem fz_ok {d : Dv} (h : mo e = .ok o e1) (hd : o.toD = some d) : mFz mo e = .ok d e1 := by unfold mFz; rw [h]; simp [hd]
end
/-! loops -/
theorem loop_inv {g : MG} {b : MS} {ds : List Dv} {e : Loc} (I : Nat → Loc → Prop) (h0 : I 0 e)
    (step : ∀ k d e, ds[k]? = some d → I k e → ∃ e1 e2, g d e = some e1 ∧ (b e1 = .nx e2 ∨ b e1 = .ct e2) ∧ I (k + 1) e2) : ∃ e', loop g b ds e = .nx e' ∧ I ds.length e' := by
  induction ds generalizing e I with
  | nil => exact ⟨e, rfl, h0⟩
  | cons d ds ih =>
    obtain ⟨e1, e2, hg, hb, hi⟩ := step 0 d e rfl h0
    obtain ⟨e', h, hI⟩ := ih (e := e2) (fun k => I (k + 1)) hi fun k d e hd hI => step (k + 1) d e hd hI
    refine ⟨e', ?_, hI⟩
    rcases hb with hb | hb <;> simp [loop, hg, hb, h]
theorem lc_inv {g : MG} {t : ME Bool} {m : ME Dv} {vs : List Nat} {ds acc : List Dv} {e : Loc} (I : Nat → List Dv → Loc → Prop) (h0 : I 0 acc e)
    (step : ∀ k d acc e, ds[k]? = some d → I k acc e → ∃ e1 e2, g d e = some e1 ∧ ((∃ y e3, t e1 = .ok true e2 ∧ m e2 = .ok y e3 ∧ acc.length < lim ∧ I (k + 1) (acc ++ [y]) (wipeE e3 vs)) ∨ (t e1 = .ok false e2 ∧ I (k + 1) acc (wipeE e2 vs)))) :
    ∃ acc' e', lcGo g t m vs ds acc e = some (acc', e') ∧ I ds.length acc' e' := by
  induction ds generalizing e acc I with
  | nil => exact ⟨acc, e, rfl, h0⟩
  | cons d ds ih =>
    obtain ⟨e1, e2, hg, h⟩ := step 0 d acc e rfl h0
    rcases h with ⟨y, e3, ht, hm, hl, hi⟩ | ⟨ht, hi⟩
    · obtain ⟨acc', e', h, hI⟩ := ih (e := wipeE e3 vs) (acc := acc ++ [y]) (fun k => I (k + 1)) hi fun k d acc e hd hI => step (k + 1) d acc e hd hI
      exact ⟨acc', e', by simp [lcGo, hg, ht, hm, hl, h], hI⟩
    · obtain ⟨acc', e', h, hI⟩ := ih (e := wipeE e2 vs) (acc := acc) (fun k => I (k + 1)) hi fun k d acc e hd hI => step (k + 1) d acc e hd hI
      exact ⟨acc', e', by simp [lcGo, hg, ht, h], hI⟩
end Ml

set_option linter.all false
set_option maxRecDepth 10000
/-! What a mirror comes to, step by step. -/
namespace Ml
section
variable {α β : Type} {e : Loc} {i j : Nat} {d : Dv} {f : Dv → Option Dv} {f2 : Dv → Dv → Option Dv} {ma mb mc m : ME Dv} {mo : ME Ob} {ms : List (ME Dv)} {g : MG} {gs : List MG} {a b : MS} {t s : ME Bool} {F : Fn} {as : List MA} {mi : ME (List Dv)}
@[simp] theorem ev_var : mVar i e = match e[i]? with | some (.fz d) => .ok d e | _ => .ud := rfl
@[simp] theorem ev_C : mC d e = .ok d e := rfl
@[simp] theorem ev_O1 : mO1 f ma e = (ma e).bind fun a e => .of (f a) e := rfl
@[simp] theorem ev_O2 : mO2 f2 ma mb e = (ma e).bind fun a e => (mb e).bind fun b e => .of (f2 a b) e := rfl
@[simp] theorem ev_N1 {f : Dv → Option (List Dv)} : mN1 f ma e = (ma e).bind fun a e => .of ((f a).map Ob.lst) e := rfl
@[simp] theorem ev_N2 {f : Dv → Dv → Option (List Dv)} : mN2 f ma mb e = (ma e).bind fun a e => (mb e).bind fun b e => .of ((f a b).map Ob.lst) e := rfl
@[simp] theorem ev_fz : mFz mo e = (mo e).bind fun o e => .of o.toD e := rfl
@[simp] theorem ev_toD {ds : List Dv} : Ob.toD (.lst ds) = some (.lst ds) := rfl
@[simp] theorem ev_args0 : mArgs [] e = .ok [] e := rfl
@[simp] theorem ev_args1 : mArgs (m :: ms) e = (m e).bind fun d e => (mArgs ms e).bind fun ds e => .ok (d :: ds) e := rfl
@[simp] theorem ev_tup : mTup ms e = (mArgs ms e).bind fun ds e => if ds.length ≤ 1000 then .ok (.tup ds) e else .ud := rfl
@[simp] theorem ev_lst : mLst ms e = (mArgs ms e).bind fun ds e => if ds.length ≤ 1000 then .ok (.lst ds) e else .ud := rfl
@[simp] theorem ev_own {f : List Dv → Option Dv} : mOwn i f e = match e[i]? with | some (.ow _ (.lst ds)) => .of (f ds) e | _ => .ud := rfl
@[simp] theorem ev_own2 {f : List Dv → Dv → Option Dv} : mOwn2 i f mb e = match e[i]? with | some (.ow _ _) => (mb e).bind fun b e => mOwn i (fun ds => f ds b) e | _ => .ud := rfl
@[simp] theorem ev_test : mTest m e = (m e).bind fun d e => match d with | .bl b => .ok b e | _ => .ud := rfl
@[simp] theorem ev_truth : mTruth m e = (m e).bind fun d e => .of (truthD d) e := rfl
@[simp] theorem ev_and : mAnd t s e = (t e).bind fun x e => if x = true then s e else .ok false e := rfl
@[simp] theorem ev_or : mOr t s e = (t e).bind fun x e => if x = true then .ok true e else s e := rfl
@[simp] theorem ev_not : mNot t e = (t e).bind fun x e => .ok (!x) e := rfl
@[simp] theorem ev_andV : mAndV ma mb e = (mTest ma e).bind fun x e => if x = true then mb e else .ok (.bl false) e := rfl
@[simp] theorem ev_orV : mOrV ma mb e = (mTest ma e).bind fun x e => if x = true then .ok (.bl true) e else mb e := rfl
@[simp] theorem ev_notV : mNotV ma e = (mTest ma e).bind fun x e => .ok (.bl (!x)) e := rfl
@[simp] theorem ev_gN : gN i d e = if free e[i]? = true then some (e.set i (.fz d)) else none := rfl
@[simp] theorem ev_gT {ds : List Dv} : gT gs (.tup ds) e = gTs gs ds e := rfl
@[simp] theorem ev_gT0 : gTs [] [] e = some e := rfl
@[simp] theorem ev_gT1 {ds : List Dv} : gTs (g :: gs) (d :: ds) e = (g d e).bind fun e => gTs gs ds e := rfl
@[simp] theorem ev_free1 : free (some .un) = true := rfl
@[simp] theorem ev_free2 : free (some (.fz d)) = true := rfl
@[simp] theorem ev_free3 {o : Ob} : free (some (.ow none o)) = true := rfl
@[simp] theorem ev_isOw1 {k : Option Nat} {o : Ob} : isOw (some (.ow k o)) = true := rfl
@[simp] theorem ev_isLs1 {k : Option Nat} {ds : List Dv} : isLs (some (.ow k (.lst ds))) = true := rfl
@[simp] theorem ev_nxO1 {e : Loc} : nxO (some e) = .nx e := rfl
@[simp] theorem ev_nil : sNil e = .nx e := rfl
@[simp] theorem ev_seq : sSeq a b e = (a e).then b := rfl
@[simp] theorem ev_brk : sBrk e = .bk e := rfl
@[simp] theorem ev_cnt : sCnt e = .ct e := rfl
@[simp] theorem ev_set : sSet m g e = (m e).go fun d e => nxO (g d e) := rfl
@[simp] theorem ev_setO : sSetO i mo e = (mo e).go fun o e => if free e[i]? = true then .nx (e.set i (.ow none o)) else .ud := rfl
@[simp] theorem ev_if : sIf t a b e = (t e).go fun x e => if x = true then a e else b e := rfl
@[simp] theorem ev_ret : sRet m e = (m e).go fun d e => .rt (.fz d) e := rfl
@[simp] theorem ev_retO : sRetO mo e = (mo e).go fun o e => .rt (.ow none o) e := rfl
@[simp] theorem ev_retV : sRetV i e = match e[i]? with | some (.ow none o) => .rt (.ow none o) e | _ => .ud := rfl
@[simp] theorem ev_drop : sDrop m e = (m e).go fun _ e => .nx e := rfl
@[simp] theorem ev_for : sFor mi g b e = (mi e).go fun ds e => loop g b ds e := rfl
@[simp] theorem ev_it {f : Dv → Option (List Dv)} : mIt f m e = (m e).bind fun d e => .of (f d) e := rfl
@[simp] theorem ev_itE {f : Dv → Option (List Dv)} : mItE f m e = (m e).bind fun d e => .of ((f d).map (enumD 0)) e := rfl
@[simp] theorem ev_rg1 : mRg1 m e = (m e).bind fun d e => match d with | .int n => .of (itR 0 n) e | _ => .ud := rfl
@[simp] theorem ev_part0 : mPart none e = .ok none e := rfl
@[simp] theorem ev_part1 : mPart (some m) e = (m e).bind fun d e => match d with | .int k => .ok (some k) e | _ => .ud := rfl
@[simp] theorem ev_sl {f : Dv → Option Int → Option Int → Option Dv} {lo hi : Option (ME Dv)} : mSl f m lo hi e = (m e).bind fun d e => (mPart lo e).bind fun a e => (mPart hi e).bind fun b e => .of (f d a b) e := rfl
@[simp] theorem ev_slN {f : Dv → Option Int → Option Int → Option (List Dv)} {lo hi : Option (ME Dv)} : mSlN f m lo hi e = (m e).bind fun d e => (mPart lo e).bind fun a e => (mPart hi e).bind fun b e => .of ((f d a b).map Ob.lst) e := rfl
@[simp] theorem ev_chain {f g : Dv → Dv → Option Dv} : mChain f g ma mb mc e = (ma e).bind fun a e => (mb e).bind fun b e => (Rs.of (f a b) e).bind fun t e => match t with | .bl true => (mc e).bind fun c e => .of (g b c) e | .bl false => .ok (.bl false) e | _ => .ud := rfl
@[simp] theorem ev_raise {c f : List Nat} : sRaise c f m e = (m e).go fun d e => if lowD 60 d = true then .er (c, [.str f, d]) e else .ud := rfl
@[simp] theorem ev_go_er {x : Err} {f : α → Loc → Sr} : (Rs.er x e : Rs α).go f = .er x e := rfl
@[simp] theorem ev_tupR : mTupR mi e = (mi e).bind fun ds e => .ok (.tup ds) e := rfl
@[simp] theorem ev_rs2 : mRs2 ma mb e = (ma e).bind fun x e => (mb e).bind fun y e => match x, y with | .int x, .int y => .of (itRs x y) e | _, _ => .ud := rfl
@[simp] theorem ev_callD : mCallD F as e = (mCall F as e).bind fun s e => match s with | .fz d => .ok d e | _ => .ud := rfl
@[simp] theorem ev_callO : mCallO F as e = (mCall F as e).bind fun s e => match s with | .ow none o => .ok o e | _ => .ud := rfl
@[simp] theorem ev_inO {neg : Bool} : mInO neg ma i e = (ma e).bind fun a e => match e[i]? with | some (.ow _ (.lst ds)) => .of (if neg = true then wNi ds a else wIn ds a) e | _ => .ud := rfl
@[simp] theorem ev_app : sApp i m e = if isLs e[i]? = true then (m e).go fun d e => match e[i]? with | some (.ow j (.lst ds)) => if ds.length < lim then .nx (e.set i (.ow j (.lst (ds ++ [d])))) else .ud | _ => .ud else .ud := rfl
@[simp] theorem ev_frz : sFrz i a e = match e[i]? with | some (.ow none (.lst ds)) => a (e.set i (.fz (.lst ds))) | _ => .ud := rfl
@[simp] theorem ev_isX {tab : List (List Nat × Bool)} : mIsX tab m e = (m e).bind fun a e => match a with | .exc c _ _ => .of ((tab.lookup c).map .bl) e | _ => .ud := rfl
@[simp] theorem ev_fld {f : List Nat} : mFld f m e = (m e).bind fun a e => match a with | .exc c g d => if g = f then .ok d e else .ud | _ => .ud := rfl
end
/-! calls -/
section
variable {e e1 e2 e3 : Loc} {F : Fn} {ma mb mc : ME Dv} {a b c : Dv} {s : Slt}
@[simp] theorem call_f0 : mCall F [] e = match F [] with | .ok s [] => .ok s e | .er x [] => .er x e | _ => .ud := by
  simp only [mCall, mAs, Rs.bind_ok, owns, List.nodup_nil, if_true, resolve]
  cases F [] with
  | ok s os => cases os <;> simp [wback]
  | er x os => cases os <;> simp [wback]
  | ud => rfl
@[simp] theorem call_f1 : mCall F [.val ma] e = (ma e).bind fun a e => match F [.fz a] with | .ok s [] => .ok s e | .er x [] => .er x e | _ => .ud := by
  simp only [mCall, mAs]
  cases ma e with
  | ok a e1 =>
    simp only [Rs.bind_ok, owns, List.nodup_nil, if_true, resolve, Option.map_some]
    cases F [.fz a] with
    | ok s os => cases os <;> simp [wback]
    | er x os => cases os <;> simp [wback]
    | ud => rfl
  | er x e => rfl
  | ud => rfl
@[simp] theorem call_f2 : mCall F [.val ma, .val mb] e = (ma e).bind fun a e => (mb e).bind fun b e => match F [.fz a, .fz b] with | .ok s [] => .ok s e | .er x [] => .er x e | _ => .ud := by
  simp only [mCall, mAs]
  cases ma e with
  | ok a e1 =>
    simp only [Rs.bind_ok]
    cases mb e1 with
    | ok b e2 =>
      simp only [Rs.bind_ok, owns, List.nodup_nil, if_true, resolve, Option.map_some]
      cases F [.fz a, .fz b] with
      | ok s os => cases os <;> simp [wback]
      | er x os => cases os <;> simp [wback]
      | ud => rfl
    | er x e => rfl
    | ud => rfl
  | er x e => rfl
  | ud => rfl
@[simp] theorem call_f3 : mCall F [.val ma, .val mb, .val mc] e = (ma e).bind fun a e => (mb e).bind fun b e => (mc e).bind fun c e => match F [.fz a, .fz b, .fz c] with | .ok s [] => .ok s e | .er x [] => .er x e | _ => .ud := by
  simp only [mCall, mAs]
  cases ma e with
  | ok a e1 =>
    simp only [Rs.bind_ok]
    cases mb e1 with
    | ok b e2 =>
      simp only [Rs.bind_ok]
      cases mc e2 with
      | ok c e3 =>
        simp only [Rs.bind_ok, owns, List.nodup_nil, if_true, resolve, Option.map_some]
        cases F [.fz a, .fz b, .fz c] with
        | ok s os => cases os <;> simp [wback]
        | er x os => cases os <;> simp [wback]
        | ud => rfl
      | er x e => rfl
      | ud => rfl
    | er x e => rfl
    | ud => rfl
  | er x e => rfl
  | ud => rfl
end
/-! a def's body -/
theorem fn_er {np nl : Nat} {b : MS} {as : List Slt} {x : Err} {e : Loc} {os : List Ob} (h1 : as.length = np) (h2 : as.all isArg = true) (h : b (initE 0 as ++ List.replicate nl .un) = .er x e) (h3 : outsE 0 as e = some os) : mkFn np nl b as = .er x os := by
  unfold mkFn
  rw [if_pos ⟨h1, h2⟩, h]
  simp only [h3]
theorem fn_nx {np nl : Nat} {b : MS} {as : List Slt} {e : Loc} {os : List Ob} (h1 : as.length = np) (h2 : as.all isArg = true) (h : b (initE 0 as ++ List.replicate nl .un) = .nx e) (h3 : outsE 0 as e = some os) : mkFn np nl b as = .ok (.fz .non) os := by
  unfold mkFn
  rw [if_pos ⟨h1, h2⟩, h]
  simp only [h3]
/-- what stops a loop and goes on from it -/
def stops : Sr → Prop
  | .rt _ _ => True
  | .er _ _ => True
  | _ => False
/-- a loop that looks for the first item that ends it -/
theorem loop_find {g : MG} {b : MS} {I : Loc → Prop} {R : Dv → Option (Loc → Sr)} : ∀ {ds : List Dv} {e : Loc}, I e → (∀ d ∈ ds, ∀ e, I e → ∃ e1 e2, g d e = some e1 ∧ I e2 ∧ (R d = none ∧ (b e1 = .nx e2 ∨ b e1 = .ct e2) ∨ ∃ f, R d = some f ∧ b e1 = f e2 ∧ stops (f e2))) →
    ∃ e', I e' ∧ loop g b ds e = match ds.findSome? R with | none => .nx e' | some f => f e'
  | [], e, h, _ => ⟨e, h, rfl⟩
  | d :: ds, e, h, hs => by
    obtain ⟨e1, e2, hg, h2, hb⟩ := hs d List.mem_cons_self e h
    rcases hb with ⟨hr, hb⟩ | ⟨f, hr, hb, hst⟩
    · obtain ⟨e', h', q⟩ := loop_find (ds := ds) h2 fun d hd => hs d (List.mem_cons_of_mem _ hd)
      refine ⟨e', h', ?_⟩
      rcases hb with hb | hb <;> simp only [loop, hg, hb, List.findSome?_cons, hr, q]
    · refine ⟨e2, h2, ?_⟩
      simp only [loop, hg, hb, List.findSome?_cons, hr]
      revert hst
      cases f e2 <;> simp [stops]
/-- a comprehension that takes each item to another one -/
theorem lc_map {g : MG} {t : ME Bool} {m : ME Dv} {vs : List Nat} {f : Dv → Dv} {e : Loc} : ∀ {ds acc : List Dv}, acc.length + ds.length ≤ lim →
    (∀ d ∈ ds, ∃ e2 e3, g d e = some e2 ∧ t e2 = .ok true e2 ∧ m e2 = .ok (f d) e3 ∧ wipeE e3 vs = e) → lcGo g t m vs ds acc e = some (acc ++ ds.map f, e)
  | [], acc, _, _ => by simp [lcGo]
  | d :: ds, acc, hl, h => by
    obtain ⟨e2, e3, h1, h2, h3, h4⟩ := h d List.mem_cons_self
    simp only [List.length_cons] at hl
    have hlt : acc.length < lim := by omega
    simp only [lcGo, h1, h2, h3, hlt, if_true, h4]
    rw [lc_map (by simp; omega) fun d hd => h d (List.mem_cons_of_mem _ hd)]
    simp
theorem mlc_map {mi : ME (List Dv)} {g : MG} {t : ME Bool} {m : ME Dv} {vs : List Nat} {f : Dv → Dv} {e e1 : Loc} {ds : List Dv} (hi : mi e = .ok ds e1) (hn : noOw e1 vs = true) (hl : ds.length ≤ lim) (h : ∀ d ∈ ds, ∃ e2 e3, g d (wipeE e1 vs) = some e2 ∧ t e2 = .ok true e2 ∧ m e2 = .ok (f d) e3 ∧ wipeE e3 vs = wipeE e1 vs)
    (hb : backE e1 (wipeE e1 vs) vs = e1) : mLc mi g t m vs e = .ok (.lst (ds.map f)) e1 := by
  unfold mLc
  rw [hi]
  simp only [Rs.bind_ok, hn, if_true]
  rw [lc_map (by simpa using hl) h]
  simp [hb]
theorem itR_nat {n : Nat} (h : n < 1000000000) : itR 0 (n : Int) = some ((List.range n).map fun (k : Nat) => Dv.int (k : Int)) := by
  unfold itR big
  rw [if_pos (by omega)]
  simp
theorem limv : lim = 16000000 := rfl
end Ml
namespace Ml
/-- a loop whose items each pass, or end it with one and the same answer -/
theorem loop_all {g : MG} {b : MS} {I : Loc → Prop} {P : Dv → Bool} {v : Slt} : ∀ {ds : List Dv} {e : Loc}, I e → (∀ d ∈ ds, ∀ e, I e → ∃ e1 e2, g d e = some e1 ∧ I e2 ∧ (P d = true → b e1 = .nx e2) ∧ (P d = false → b e1 = .rt v e2)) →
    ∃ e', I e' ∧ loop g b ds e = if ds.all P = true then .nx e' else .rt v e'
  | [], e, h, _ => ⟨e, h, rfl⟩
  | d :: ds, e, h, hs => by
    obtain ⟨e1, e2, hg, h2, ht, hf⟩ := hs d List.mem_cons_self e h
    cases hp : P d with
    | true =>
      obtain ⟨e', h', q⟩ := loop_all (ds := ds) h2 fun d hd => hs d (List.mem_cons_of_mem _ hd)
      exact ⟨e', h', by simp only [loop, hg, ht hp, List.all_cons, hp, Bool.true_and, q]⟩
    | false => exact ⟨e2, h2, by simp [loop, hg, hf hp, hp]⟩
/-- it returns s -/
def RT (r : Sr) (s : Slt) (n : Nat) : Prop := ∃ e, r = .rt s e ∧ e.length = n
theorem RT.of {r : Sr} {s : Slt} {n : Nat} {e : Loc} (h : r = .rt s e) (hl : e.length = n) : RT r s n := ⟨e, h, hl⟩
theorem RT.eq {r r' : Sr} {s : Slt} {n : Nat} (h : r = r') (h' : RT r' s n) : RT r s n := h ▸ h'
@[simp] theorem rt_rt {s s' : Slt} {n : Nat} {e : Loc} : RT (.rt s e) s' n ↔ s = s' ∧ e.length = n := ⟨fun ⟨_, h, hl⟩ => by cases h; exact ⟨rfl, hl⟩, fun ⟨h, hl⟩ => ⟨e, by rw [h], hl⟩⟩
def allFz : List Slt → Bool
  | [] => true
  | .fz _ :: r => allFz r
  | _ :: _ => false
theorem allFz_arg : ∀ {as : List Slt}, allFz as = true → as.all isArg = true ∧ (∀ k, initE k as = as) ∧ ∀ k (e : Loc), as.length ≤ e.length → outsE k as e = some []
  | [], _ => ⟨rfl, fun _ => rfl, fun _ _ _ => rfl⟩
  | .fz d :: r, h => by
    obtain ⟨h1, h2, h3⟩ := allFz_arg (as := r) h
    refine ⟨by simp [isArg] at h1 ⊢; exact h1, fun k => by simp [initE, h2], fun k e he => ?_⟩
    cases e with
    | nil => simp at he
    | cons s e => simp only [outsE]; exact h3 k e (by simpa using he)
  | .un :: _, h => by simp [allFz] at h
  | .ow _ _ :: _, h => by simp [allFz] at h
/-- a def whose arguments are all data -/
theorem fn_rt {np nl : Nat} {b : MS} {as : List Slt} {s : Slt} (h1 : as.length = np) (h2 : allFz as = true) (h : RT (b (as ++ List.replicate nl .un)) s (np + nl)) : mkFn np nl b as = .ok s [] := by
  obtain ⟨a1, a2, a3⟩ := allFz_arg h2
  obtain ⟨e, he, hl⟩ := h
  exact fn_ok h1 a1 (by rw [a2]; exact he) (a3 0 e (by omega))
theorem any_strs (s : List Nat) : ∀ l : List (List Nat), ((l.map Dv.str).any fun y => eqF y (.str s)) = decide (s ∈ l)
  | [] => by simp
  | a :: l => by
    rw [List.map_cons, List.any_cons, any_strs s l, show eqF (.str a) (.str s) = decide (a = s) from rfl]
    simp [eq_comm]
theorem all_strs : ∀ l : List (List Nat), (l.map Dv.str).all flatD = true
  | [] => rfl
  | a :: l => by simp only [List.map_cons, List.all_cons, all_strs l]; rfl
theorem oIn_strs {s : List Nat} {l : List (List Nat)} : oIn (.str s) (.lst (l.map Dv.str)) = some (.bl (decide (s ∈ l))) := by
  simp only [oIn, seqD, Option.bind_some, flatD, all_strs, any_strs, and_self, if_true]
theorem oNi_strs {s : List Nat} {l : List (List Nat)} : oNi (.str s) (.tup (l.map Dv.str)) = some (.bl (decide (s ∉ l))) := by
  simp only [oNi, seqD, Option.bind_some, flatD, all_strs, any_strs, and_self, if_true]; simp
theorem wIn_strs {s : List Nat} {l : List (List Nat)} : wIn (l.map Dv.str) (.str s) = some (.bl (decide (s ∈ l))) := by
  simp only [wIn, flatD, all_strs, any_strs, and_self, if_true]
theorem getI0 {α : Type} (a : α) (l : List α) : getI (a :: l) 0 = some a := by simp [getI, ixn]
/-- the same, the walked list told as a map -/
theorem lc_mapA {α : Type} {g : MG} {t : ME Bool} {m : ME Dv} {vs : List Nat} {h f : α → Dv} {e : Loc} : ∀ {L : List α} {acc : List Dv}, acc.length + L.length ≤ lim →
    (∀ x ∈ L, ∃ e2 e3, g (h x) e = some e2 ∧ t e2 = .ok true e2 ∧ m e2 = .ok (f x) e3 ∧ wipeE e3 vs = e) → lcGo g t m vs (L.map h) acc e = some (acc ++ L.map f, e)
  | [], acc, _, _ => by simp [lcGo]
  | d :: ds, acc, hl, hh => by
    obtain ⟨e2, e3, h1, h2, h3, h4⟩ := hh d List.mem_cons_self
    simp only [List.length_cons] at hl
    have hlt : acc.length < lim := by omega
    simp only [List.map_cons, lcGo, h1, h2, h3, hlt, if_true, h4]
    rw [lc_mapA (by simp; omega) fun d hd => hh d (List.mem_cons_of_mem _ hd)]
    simp
theorem mlc_mapA {α : Type} {mi : ME (List Dv)} {g : MG} {t : ME Bool} {m : ME Dv} {vs : List Nat} {h f : α → Dv} {e e1 : Loc} {L : List α} (hi : mi e = .ok (L.map h) e1) (hn : noOw e1 vs = true) (hl : L.length ≤ lim)
    (hh : ∀ x ∈ L, ∃ e2 e3, g (h x) (wipeE e1 vs) = some e2 ∧ t e2 = .ok true e2 ∧ m e2 = .ok (f x) e3 ∧ wipeE e3 vs = wipeE e1 vs)
    (hb : backE e1 (wipeE e1 vs) vs = e1) : mLc mi g t m vs e = .ok (.lst (L.map f)) e1 := by
  unfold mLc
  rw [hi]
  simp only [Rs.bind_ok, hn, if_true]
  rw [lc_mapA (by simpa using hl) hh]
  simp [hb]
end Ml

/-! The mirror of edgesaway_k02_changes_done, printed from the text. -/
namespace Lw
open Ml
def t0 : List Nat := [115, 105, 110, 103, 108, 101]
def t1 : List Nat := [109, 97, 114, 107]
def t2 : List Nat := [66, 97, 100, 69, 100, 103, 101]
def t3 : List Nat := [101, 100, 103, 101]
def t4 : List Nat := [70, 105, 114, 109]
def t5 : List Nat := [110, 97, 109, 101]
def t6 : List Nat := [116, 97, 107, 101]
def t7 : List Nat := [100, 111, 110, 101]
def t8 : List Nat := [103, 111, 110, 101]
def t9 : List Nat := [116, 104, 101, 114, 101]
def t10 : List Nat := [104, 101, 108, 100]
def t11 : List Nat := [84, 104, 101, 114, 101]
def t12 : List Nat := [72, 101, 108, 100]
def t13 : List Nat := [71, 111, 110, 101]
def t14 : List Nat := [112, 117, 116]
def t15 : List Nat := [97, 32, 98, 50, 32, 116, 111, 119, 110, 32, 114, 111, 97, 100, 32, 114, 32, 107, 48, 32, 115, 101, 97, 116, 32, 122, 57, 122, 32, 102, 117, 108, 108, 32, 116, 97, 105, 108, 32, 110, 32, 109, 56, 32, 97, 97, 32, 98, 117, 115, 121, 32, 115, 104, 111, 112, 32, 112, 32, 116, 52, 32, 101, 118, 101, 110, 50, 32, 97, 98, 49, 32, 115, 104, 105, 112, 32, 117, 32, 118, 50, 32, 119, 32, 108, 97, 110, 101, 32, 104, 105, 103, 104, 32, 109, 105, 100, 32]
def t16 : List Nat := [115, 32, 116, 32, 101, 32, 102, 32, 103, 32, 104, 32, 106, 32, 120, 32, 121, 32, 113, 55, 32, 100, 101, 101, 112, 32, 116, 117, 114, 110, 32, 103, 97, 116, 101, 32, 108, 53, 32, 104, 111, 108, 100, 32, 110, 101, 120, 116, 49, 32, 99, 48, 32, 100, 50, 32, 116, 119, 111, 32, 122, 122, 49, 32, 110, 101, 97, 114, 32, 102, 97, 114, 57, 32, 108, 97, 115, 116, 32, 114, 105, 110, 103, 50, 32, 97, 97, 97, 97, 97, 97, 97, 56]
def t17 : List Nat := [32]
def t18 : List Nat := [109, 97, 110, 121]
def t19 : List Nat := [115, 99, 104, 101, 109, 97]
def t20 : List Nat := [111, 100, 100]
def tab_AwayError : List (List Nat × Bool) := [(t2, true), (t4, true), (t13, true), (t12, true), (t11, true)]
def tab_BadEdge : List (List Nat × Bool) := [(t2, true), (t4, false), (t13, false), (t12, false), (t11, false)]
def tab_ChangeError : List (List Nat × Bool) := [(t2, true), (t4, true), (t13, true), (t12, true), (t11, true)]
def tab_Firm : List (List Nat × Bool) := [(t2, false), (t4, true), (t13, false), (t12, false), (t11, false)]
def tab_Gone : List (List Nat × Bool) := [(t2, false), (t4, false), (t13, true), (t12, false), (t11, false)]
def tab_Held : List (List Nat × Bool) := [(t2, false), (t4, false), (t13, false), (t12, true), (t11, false)]
def tab_There : List (List Nat × Bool) := [(t2, false), (t4, false), (t13, false), (t12, false), (t11, true)]
def tab_ValueError : List (List Nat × Bool) := [(t2, true), (t4, true), (t13, true), (t12, true), (t11, true)]
def m_kind_of : MS :=
  (sSeq (sIf (mTest (mO2 oLt (mVar 1) (mC (.int 0))))
  (sRet (mC .non))
  sNil)
  (sSeq (sSet (mC (.int 0)) (gN 2))
  (sSeq (sFor (mItE itT (mO2 oIx (mVar 0) (mC (.int 1)))) (gT [(gN 3), (gT [(gN 4), (gN 5)])])
  (sSeq (sAug 2 oAddI (mVar 5))
  (sIf (mTest (mO2 oLt (mVar 1) (mVar 2)))
  (sRet (mVar 3))
  sNil)))
  (sRet (mC .non)))))
def F_kind_of : Fn := mkFn 2 4 m_kind_of
def m_label_name : MS :=
  (sRet (mO2 oIx (mO2 oIx (mO2 oIx (mVar 0) (mC (.int 2))) (mVar 1)) (mC (.int 0))))
def F_label_name : Fn := mkFn 2 0 m_label_name
def m_label_kinds : MS :=
  (sRet (mSl slT (mO2 oIx (mO2 oIx (mVar 0) (mC (.int 2))) (mVar 1)) (some (mC (.int 1))) (some (mC (.int 3)))))
def F_label_kinds : Fn := mkFn 2 0 m_label_kinds
def m_label_price : MS :=
  (sRet (mO2 oIx (mO2 oIx (mO2 oIx (mVar 0) (mC (.int 2))) (mVar 1)) (mC (.int 3))))
def F_label_price : Fn := mkFn 2 0 m_label_price
def m_is_firm : MS :=
  (sRet (mO2 oEq (mCallD F_label_price [.val (mVar 0), .val (mVar 1)]) (mC (.int 0))))
def F_is_firm : Fn := mkFn 2 0 m_is_firm
def m_is_single : MS :=
  (sRet (mO2 oEq (mO2 oIx (mO2 oIx (mO2 oIx (mVar 0) (mC (.int 2))) (mVar 1)) (mC (.int 4))) (mC (.str t0))))
def F_is_single : Fn := mkFn 2 0 m_is_single
def m_is_mark : MS :=
  (sRet (mO2 oEq (mO2 oIx (mO2 oIx (mO2 oIx (mVar 0) (mC (.int 2))) (mVar 1)) (mC (.int 4))) (mC (.str t1))))
def F_is_mark : Fn := mkFn 2 0 m_is_mark
def m_is_edge : MS :=
  (sSeq (sSet (mVar 1) (gT [(gN 2), (gN 3), (gN 4)]))
  (sSeq (sIf (mNot (mTest (mChain oLe oLt (mC (.int 0)) (mVar 3) (mO1 oLen (mO2 oIx (mVar 0) (mC (.int 2)))))))
  (sRet (mC (.bl false)))
  sNil)
  (sSeq (sIf (mTest (mO2 oNeD (mTup [(mCallD F_kind_of [.val (mVar 0), .val (mVar 2)]), (mCallD F_kind_of [.val (mVar 0), .val (mVar 4)])]) (mCallD F_label_kinds [.val (mVar 0), .val (mVar 3)])))
  (sRet (mC (.bl false)))
  sNil)
  (sRet (mOrV (mO2 oEqD (mVar 2) (mVar 4)) (mNotV (mCallD F_is_mark [.val (mVar 0), .val (mVar 3)])))))))
def F_is_edge : Fn := mkFn 2 3 m_is_edge
def m_is_graph : MS :=
  (sSeq (sSetO 2 mSet0)
  (sSeq (sFor (mItE itT (mVar 1)) (gT [(gN 3), (gN 4)])
  (sSeq (sIf (mNot (mTruth (mCallD F_is_edge [.val (mVar 0), .val (mVar 4)])))
  (sRet (mC (.bl false)))
  sNil)
  (sSeq (sIf (mAnd (mTest (mO2 oGt (mVar 3) (mC (.int 0)))) (mTest (mO2 oGeT (mO2 oIx (mVar 1) (mO2 oSub (mVar 3) (mC (.int 1)))) (mVar 4))))
  (sRet (mC (.bl false)))
  sNil)
  (sSeq (sSet (mSl slT (mVar 4) none (some (mC (.int 2)))) (gN 5))
  (sSeq (sIf (mAnd (mTest (mInS false (mVar 5) 2)) (mTruth (mCallD F_is_single [.val (mVar 0), .val (mO2 oIx (mVar 4) (mC (.int 1)))])))
  (sRet (mC (.bl false)))
  sNil)
  (sAddS 2 (mVar 5)))))))
  (sRet (mC (.bl true)))))
def F_is_graph : Fn := mkFn 2 4 m_is_graph
def m_rival_of : MS :=
  (sSeq (sIf (mTruth (mCallD F_is_single [.val (mVar 0), .val (mO2 oIx (mVar 2) (mC (.int 1)))]))
  (sFor (mIt itT (mVar 1)) (gN 3)
  (sIf (mAnd (mTest (mO2 oEqD (mSl slT (mVar 3) none (some (mC (.int 2)))) (mSl slT (mVar 2) none (some (mC (.int 2)))))) (mTest (mO2 oNeD (mVar 3) (mVar 2))))
  (sRet (mVar 3))
  sNil))
  sNil)
  (sRet (mC .non)))
def F_rival_of : Fn := mkFn 3 1 m_rival_of
def m_check_change : MS :=
  (sSeq (sSet (mSl slT (mVar 1) (some (mC (.int 1))) none) (gN 2))
  (sSeq (sIf (mNot (mTruth (mCallD F_is_edge [.val (mVar 0), .val (mVar 2)])))
  (sRaise t2 t3 (mVar 2))
  sNil)
  (sIf (mTruth (mCallD F_is_firm [.val (mVar 0), .val (mO2 oIx (mVar 2) (mC (.int 1)))]))
  (sRaise t4 t5 (mCallD F_label_name [.val (mVar 0), .val (mO2 oIx (mVar 2) (mC (.int 1)))]))
  sNil)))
def F_check_change : Fn := mkFn 2 1 m_check_change
def m_outcome : MS :=
  (sSeq (sDrop (mCallD F_check_change [.val (mVar 0), .val (mVar 2)]))
  (sSeq (sSet (mSl slT (mVar 2) (some (mC (.int 1))) none) (gN 3))
  (sSeq (sIf (mTest (mO2 oEqD (mO2 oIx (mVar 2) (mC (.int 0))) (mC (.str t6))))
  (sRet (mIte (mTest (mO2 oInT (mVar 3) (mVar 1))) (mC (.str t7)) (mC (.str t8))))
  sNil)
  (sSeq (sIf (mTest (mO2 oInT (mVar 3) (mVar 1)))
  (sRet (mC (.str t9)))
  sNil)
  (sRet (mIte (mTest (mO2 oIsN (mCallD F_rival_of [.val (mVar 0), .val (mVar 1), .val (mVar 3)]) (mC .non))) (mC (.str t7)) (mC (.str t10))))))))
def F_outcome : Fn := mkFn 3 1 m_outcome
def m_check_done : MS :=
  (sSeq (sSet (mCallD F_outcome [.val (mVar 0), .val (mVar 1), .val (mVar 2)]) (gN 3))
  (sSeq (sSet (mSl slT (mVar 2) (some (mC (.int 1))) none) (gN 4))
  (sSeq (sIf (mTest (mO2 oEq (mVar 3) (mC (.str t9))))
  (sRaise t11 t3 (mVar 4))
  sNil)
  (sSeq (sIf (mTest (mO2 oEq (mVar 3) (mC (.str t10))))
  (sRaise t12 t3 (mCallD F_rival_of [.val (mVar 0), .val (mVar 1), .val (mVar 4)]))
  sNil)
  (sIf (mTest (mO2 oEq (mVar 3) (mC (.str t8))))
  (sRaise t13 t3 (mVar 4))
  sNil)))))
def F_check_done : Fn := mkFn 3 2 m_check_done
def m_with_change : MS :=
  (sSeq (sSet (mSl slT (mVar 1) (some (mC (.int 1))) none) (gN 2))
  (sSeq (sIf (mTest (mO2 oEqD (mO2 oIx (mVar 1) (mC (.int 0))) (mC (.str t6))))
  (sRet (mO1 oTup (mFz (mLc (mIt itT (mVar 0)) (gN 3) (mTest (mO2 oNeD (mVar 3) (mVar 2))) (mVar 3) [3]))))
  sNil)
  (sRet (mO1 oTup (mFz (mN1 oSortT (mFz (mLstA (mAStar (mVar 0) (mACons (mVar 2) (mArgs [])))))))))))
def F_with_change : Fn := mkFn 2 2 m_with_change
def m_changed : MS :=
  (sSeq (sFor (mIt itT (mVar 2)) (gN 3)
  (sSeq (sDrop (mCallD F_check_done [.val (mVar 0), .val (mVar 1), .val (mVar 3)]))
  (sSet (mCallD F_with_change [.val (mVar 1), .val (mVar 3)]) (gN 1))))
  (sRet (mVar 1)))
def F_changed : Fn := mkFn 3 1 m_changed
def m_price_of : MS :=
  (sRet (mO1 oSum (mFz (mLc (mIt itT (mVar 1)) (gN 2) mYes (mCallD F_label_price [.val (mVar 0), .val (mO2 oIx (mVar 2) (mC (.int 2)))]) [2]))))
def F_price_of : Fn := mkFn 2 1 m_price_of
def m_difference : MS :=
  (sSeq (sSet (mFz (mLc (mIt itT (mVar 0)) (gN 4) (mTest (mO2 oNiT (mVar 4) (mVar 1))) (mTupA (mACons (mC (.str t6)) (mAStar (mVar 4) (mArgs [])))) [4])) (gN 2))
  (sSeq (sSet (mFz (mLc (mIt itT (mVar 1)) (gN 4) (mTest (mO2 oNiT (mVar 4) (mVar 0))) (mTupA (mACons (mC (.str t14)) (mAStar (mVar 4) (mArgs [])))) [4])) (gN 3))
  (sRet (mTupA (mAStar (mVar 2) (mAStar (mVar 3) (mArgs [])))))))
def F_difference : Fn := mkFn 2 3 m_difference
def m_apart : MS :=
  (sSeq (sSet (mCallD F_difference [.val (mVar 1), .val (mVar 2)]) (gN 3))
  (sSeq (sIf (mTruth (mO1 oAny (mFz (mLc (mIt itT (mVar 3)) (gN 4) mYes (mCallD F_is_firm [.val (mVar 0), .val (mO2 oIx (mVar 4) (mC (.int 2)))]) [4]))))
  (sRet (mC .non))
  sNil)
  (sRet (mCallD F_price_of [.val (mVar 0), .val (mVar 3)]))))
def F_apart : Fn := mkFn 3 2 m_apart
def m__law_draw : MS :=
  (sSeq (sIf (mTest (mO2 oGt (mOwn2 0 wIx (mC (.int 2))) (mC (.int 0))))
  (sSeq (sSet (mOwn2 0 wIx (mC (.int 2))) (gN 2))
  (sSeq (sPut 0 (mC (.int 2)) (mO2 oDiv (mVar 2) (mVar 1)))
  (sRet (mO2 oMod (mO1 oInt (mVar 2)) (mVar 1)))))
  sNil)
  (sSeq (sSet (mC (.int 0)) (gN 3))
  (sSeq (sIf (mTest (mO2 oLt (mOwn2 0 wIx (mC (.int 1))) (mO1 oLen (mOwn2 0 wIx (mC (.int 0))))))
  (sSeq (sSet (mO2 oIx (mOwn2 0 wIx (mC (.int 0))) (mOwn2 0 wIx (mC (.int 1)))) (gN 4))
  (sSet (mO2 oAdd (mO2 oMul (mC (.int 2)) (mO1 oAbs (mVar 4))) (mO1 oInt (mO2 oLt (mVar 4) (mC (.int 0))))) (gN 3)))
  sNil)
  (sSeq (sPutAug 0 (mC (.int 1)) oAddI (mC (.int 1)))
  (sSeq (sIf (mTest (mO2 oGe (mVar 3) (mO2 oMul (mC (.int 2)) (mO2 oPow (mC (.int 10)) (mC (.int 18))))))
  (sSeq (sSet (mO2 oMod (mO1 oInt (mO2 oDiv (mVar 3) (mC (.int 2)))) (mO2 oShl (mC (.int 1)) (mC (.int 6000)))) (gN 2))
  (sSeq (sPut 0 (mC (.int 2)) (mO2 oDiv (mVar 2) (mVar 1)))
  (sRet (mO2 oMod (mO1 oInt (mVar 2)) (mVar 1)))))
  sNil)
  (sSeq (sPut 0 (mC (.int 3)) (mO2 oMod (mO1 oInt (mO2 oAdd (mO2 oAdd (mO2 oAdd (mO2 oMul (mOwn2 0 wIx (mC (.int 3))) (mC (.int 48271))) (mO2 oMul (mO2 oMod (mO1 oInt (mVar 3)) (mC (.int 2147483629))) (mC (.int 16807)))) (mO2 oMul (mOwn2 0 wIx (mC (.int 1))) (mC (.int 69621)))) (mC (.int 11)))) (mC (.int 2147483647))))
  (sRet (mO2 oMod (mO1 oInt (mO2 oDiv (mOwn2 0 wIx (mC (.int 3))) (mC (.int 16)))) (mVar 1)))))))))
def F__law_draw : Fn := mkFn 2 3 m__law_draw
def m__law_pick : MS :=
  (sRet (mO2 oIx (mVar 1) (mCallD F__law_draw [.own 0, .val (mO1 oLen (mVar 1))])))
def F__law_pick : Fn := mkFn 2 0 m__law_pick
def m__law_pop : MS :=
  (sRet (mPopAt 1 (mCallD F__law_draw [.own 0, .val (mOwn 1 wLen)])))
def F__law_pop : Fn := mkFn 2 0 m__law_pop
def m__law_rare : MS :=
  (sRet (mO2 oEq (mCallD F__law_draw [.own 0, .val (mVar 1)]) (mO2 oDiv (mVar 1) (mC (.int 2)))))
def F__law_rare : Fn := mkFn 2 0 m__law_rare
def m__law_pool : MS :=
  (sSeq (sSet (mC (.str t15)) (gN 0))
  (sSeq (sSet (mO2 oAdd (mVar 0) (mC (.str t16))) (gN 0))
  (sRetO (mM1N oSplit (mVar 0) (mC (.str t17))))))
def F__law_pool : Fn := mkFn 0 1 m__law_pool
def m__law_is_int : MS :=
  (sRet (mAndV (mO1 oIsI (mVar 0)) (mNotV (mO1 oIsB (mVar 0)))))
def F__law_is_int : Fn := mkFn 1 0 m__law_is_int
def m__law_is_row_of_ints : MS :=
  (sRet (mAndV (mO1 oIsT (mVar 0)) (mAndV (mO2 oEq (mO1 oLen (mVar 0)) (mVar 1)) (mO1 oAll (mFz (mLc (mIt itT (mVar 0)) (gN 2) mYes (mCallD F__law_is_int [.val (mVar 2)]) [2]))))))
def F__law_is_row_of_ints : Fn := mkFn 2 1 m__law_is_row_of_ints
def m__law_first : MS :=
  (sRet (mO1 oSum (mFz (mLc (mIt itT (mSl slT (mO2 oIx (mVar 0) (mC (.int 1))) none (some (mVar 1)))) (gN 2) mYes (mO2 oIx (mVar 2) (mC (.int 1))) [2]))))
def F__law_first : Fn := mkFn 2 1 m__law_first
def m__law_nodes : MS :=
  (sSeq (sSet (mCallD F__law_first [.val (mVar 0), .val (mVar 1)]) (gN 2))
  (sRetO (mLc (mRg1 (mO2 oIx (mO2 oIx (mO2 oIx (mVar 0) (mC (.int 1))) (mVar 1)) (mC (.int 1)))) (gN 3) mYes (mO2 oAdd (mVar 2) (mVar 3)) [3])))
def F__law_nodes : Fn := mkFn 2 2 m__law_nodes
def m__law_let : MS :=
  (sSeq (sSet (mO2 oIx (mO2 oIx (mVar 0) (mC (.int 2))) (mVar 1)) (gN 2))
  (sSeq (sSetO 3 (mLst []))
  (sSeq (sFor (mIt itL (mFz (mCallO F__law_nodes [.val (mVar 0), .val (mO2 oIx (mVar 2) (mC (.int 1)))]))) (gN 4)
  (sFor (mIt itL (mFz (mCallO F__law_nodes [.val (mVar 0), .val (mO2 oIx (mVar 2) (mC (.int 2)))]))) (gN 5)
  (sIf (mOr (mTest (mO2 oNe (mO2 oIx (mVar 2) (mC (.int 4))) (mC (.str t1)))) (mTest (mO2 oEq (mVar 4) (mVar 5))))
  (sApp 3 (mTup [(mVar 4), (mVar 1), (mVar 5)]))
  sNil)))
  (sRetV 3))))
def F__law_let : Fn := mkFn 2 4 m__law_let
def m__law_schema : MS :=
  (sSeq (sSetO 4 (mCallO F__law_pool []))
  (sSeq (sSetO 5 (mLst []))
  (sSeq (sFor (mRg1 (mVar 1)) (gN 6)
  (sApp 5 (mTup [(mCallD F__law_pop [.own 0, .own 4]), (mO2 oAdd (mC (.int 1)) (mCallD F__law_draw [.own 0, .val (mVar 3)]))])))
  (sFrz 5 (sSeq (sSetO 7 (mLst []))
  (sSeq (sFor (mRg1 (mVar 2)) (gN 6)
  (sSeq (sSet (mCallD F__law_draw [.own 0, .val (mVar 1)]) (gN 8))
  (sSeq (sSet (mCallD F__law_draw [.own 0, .val (mVar 1)]) (gN 9))
  (sSeq (sSet (mCallD F__law_draw [.own 0, .val (mC (.int 10))]) (gN 10))
  (sSeq (sSet (mC (.str t18)) (gN 11))
  (sSeq (sIf (mTest (mO2 oIn (mVar 10) (mTup [(mC (.int 3)), (mC (.int 4))])))
  (sSet (mC (.str t0)) (gN 11))
  sNil)
  (sSeq (sIf (mTest (mO2 oEq (mVar 10) (mC (.int 7))))
  (sSeq (sSet (mC (.str t1)) (gN 11))
  (sSet (mVar 8) (gN 9)))
  sNil)
  (sSeq (sSet (mO2 oAdd (mC (.int 1)) (mCallD F__law_draw [.own 0, .val (mC (.int 4))])) (gN 12))
  (sSeq (sIf (mTest (mO2 oEq (mCallD F__law_draw [.own 0, .val (mC (.int 9))]) (mC (.int 5))))
  (sSet (mC (.int 0)) (gN 12))
  sNil)
  (sSeq (sIf (mTruth (mCallD F__law_rare [.own 0, .val (mC (.int 9))]))
  (sSet (mC (.int 9)) (gN 12))
  sNil)
  (sApp 7 (mTup [(mCallD F__law_pop [.own 0, .own 4]), (mVar 8), (mVar 9), (mVar 12), (mVar 11)]))))))))))))
  (sFrz 7 (sRet (mTup [(mC (.str t19)), (mO1 oTup (mVar 5)), (mO1 oTup (mVar 7))])))))))))
def F__law_schema : Fn := mkFn 4 9 m__law_schema
def m__law_held_by : MS :=
  (sSeq (sIf (mTest (mO2 oEq (mO2 oIx (mO2 oIx (mO2 oIx (mVar 0) (mC (.int 2))) (mO2 oIx (mVar 2) (mC (.int 1)))) (mC (.int 4))) (mC (.str t0))))
  (sFor (mIt itT (mVar 1)) (gN 3)
  (sIf (mAnd (mTest (mO2 oEqD (mO2 oIx (mVar 3) (mC (.int 0))) (mO2 oIx (mVar 2) (mC (.int 0))))) (mAnd (mTest (mO2 oEqD (mO2 oIx (mVar 3) (mC (.int 1))) (mO2 oIx (mVar 2) (mC (.int 1))))) (mTest (mO2 oNeD (mVar 3) (mVar 2)))))
  (sRet (mVar 3))
  sNil))
  sNil)
  (sRet (mC .non)))
def F__law_held_by : Fn := mkFn 3 1 m__law_held_by
def m__law_held_by__1 : MS :=
  (sSeq (sIf (mTest (mO2 oEq (mO2 oIx (mO2 oIx (mO2 oIx (mVar 0) (mC (.int 2))) (mO2 oIx (mVar 2) (mC (.int 1)))) (mC (.int 4))) (mC (.str t0))))
  (sForO 1 (gN 3)
  (sIf (mAnd (mTest (mO2 oEqD (mO2 oIx (mVar 3) (mC (.int 0))) (mO2 oIx (mVar 2) (mC (.int 0))))) (mAnd (mTest (mO2 oEqD (mO2 oIx (mVar 3) (mC (.int 1))) (mO2 oIx (mVar 2) (mC (.int 1))))) (mTest (mO2 oNeD (mVar 3) (mVar 2)))))
  (sRet (mVar 3))
  sNil))
  sNil)
  (sRet (mC .non)))
def F__law_held_by__1 : Fn := mkFn 3 1 m__law_held_by__1
def m__law_graph : MS :=
  (sSeq (sSetO 3 (mLst []))
  (sSeq (sFor (mRg1 (mVar 2)) (gN 4)
  (sSeq (sSet (mFz (mCallO F__law_let [.val (mVar 1), .val (mCallD F__law_draw [.own 0, .val (mO1 oLen (mO2 oIx (mVar 1) (mC (.int 2))))])])) (gN 5))
  (sIf (mTest (mO2 oGt (mO1 oLen (mVar 5)) (mC (.int 0))))
  (sSeq (sSet (mCallD F__law_pick [.own 0, .val (mVar 5)]) (gN 6))
  (sIf (mAnd (mTest (mInOD true (mVar 6) 3)) (mTest (mO2 oIsN (mCallD F__law_held_by__1 [.val (mVar 1), .own 3, .val (mVar 6)]) (mC .non))))
  (sApp 3 (mVar 6))
  sNil))
  sNil)))
  (sFrz 3 (sRet (mO1 oTup (mFz (mN1 oSortT (mVar 3))))))))
def F__law_graph : Fn := mkFn 3 4 m__law_graph
def m__law_is_graph : MS :=
  (sSeq (sIf (mNot (mTruth (mO1 oIsT (mVar 1))))
  (sRet (mC (.bl false)))
  sNil)
  (sSeq (sFor (mIt itT (mVar 1)) (gN 2)
  (sSeq (sIf (mOr (mNot (mTruth (mCallD F__law_is_row_of_ints [.val (mVar 2), .val (mC (.int 3))]))) (mNot (mTest (mChain oLe oLt (mC (.int 0)) (mO2 oIx (mVar 2) (mC (.int 1))) (mO1 oLen (mO2 oIx (mVar 0) (mC (.int 2))))))))
  (sRet (mC (.bl false)))
  sNil)
  (sIf (mOr (mTest (mO2 oNiD (mVar 2) (mFz (mCallO F__law_let [.val (mVar 0), .val (mO2 oIx (mVar 2) (mC (.int 1)))])))) (mTest (mO2 oNoN (mCallD F__law_held_by [.val (mVar 0), .val (mVar 1), .val (mVar 2)]) (mC .non))))
  (sRet (mC (.bl false)))
  sNil)))
  (sRet (mO2 oEqD (mFz (mN1 listD (mVar 1))) (mFz (mN1 oSortSetT (mVar 1)))))))
def F__law_is_graph : Fn := mkFn 2 1 m__law_is_graph
def m__law_outcome : MS :=
  (sSeq (sSet (mSl slT (mVar 2) (some (mC (.int 1))) none) (gN 3))
  (sSeq (sIf (mTest (mO2 oEqD (mO2 oIx (mVar 2) (mC (.int 0))) (mC (.str t6))))
  (sSeq (sIf (mTest (mO2 oInT (mVar 3) (mVar 1)))
  (sRet (mC (.str t7)))
  sNil)
  (sRet (mC (.str t8))))
  sNil)
  (sSeq (sIf (mTest (mO2 oInT (mVar 3) (mVar 1)))
  (sRet (mC (.str t9)))
  sNil)
  (sSeq (sIf (mTest (mO2 oNoN (mCallD F__law_held_by [.val (mVar 0), .val (mVar 1), .val (mVar 3)]) (mC .non)))
  (sRet (mC (.str t10)))
  sNil)
  (sRet (mC (.str t7)))))))
def F__law_outcome : Fn := mkFn 3 1 m__law_outcome
def m__law_done : MS :=
  (sSeq (sIf (mTest (mO2 oEqD (mO2 oIx (mVar 1) (mC (.int 0))) (mC (.str t6))))
  (sRet (mO1 oTup (mFz (mLc (mIt itT (mVar 0)) (gN 2) (mTest (mO2 oNeD (mVar 2) (mSl slT (mVar 1) (some (mC (.int 1))) none))) (mVar 2) [2]))))
  sNil)
  (sRet (mO1 oTup (mFz (mN1 oSortT (mFz (mN2 oCat (mFz (mN1 listD (mVar 0))) (mFz (mLst [(mSl slT (mVar 1) (some (mC (.int 1))) none)])))))))))
def F__law_done : Fn := mkFn 2 1 m__law_done
def m__law_change : MS :=
  (sSeq (sSet (mFz (mLc (mRg1 (mO1 oLen (mO2 oIx (mVar 1) (mC (.int 2))))) (gN 5) (mTest (mO2 oGt (mO2 oIx (mO2 oIx (mO2 oIx (mVar 1) (mC (.int 2))) (mVar 5)) (mC (.int 3))) (mC (.int 0)))) (mVar 5) [5])) (gN 3))
  (sSeq (sSet (mFz (mLc (mIt itL (mVar 3)) (gN 5) (mTest (mO2 oGt (mO1 oLen (mFz (mCallO F__law_let [.val (mVar 1), .val (mVar 5)]))) (mC (.int 0)))) (mVar 5) [5])) (gN 3))
  (sSeq (sSet (mFz (mLc (mIt itT (mVar 2)) (gN 6) (mTest (mO2 oIn (mO2 oIx (mVar 6) (mC (.int 1))) (mVar 3))) (mVar 6) [6])) (gN 4))
  (sSeq (sIf (mAnd (mTest (mO2 oGt (mO1 oLen (mVar 4)) (mC (.int 0)))) (mTest (mO2 oLt (mCallD F__law_draw [.own 0, .val (mC (.int 5))]) (mC (.int 2)))))
  (sRet (mO2 oCatT (mTup [(mC (.str t6))]) (mCallD F__law_pick [.own 0, .val (mVar 4)])))
  sNil)
  (sSeq (sIf (mTest (mO2 oEq (mO1 oLen (mVar 3)) (mC (.int 0))))
  (sRet (mC .non))
  sNil)
  (sRet (mO2 oCatT (mTup [(mCallD F__law_pick [.own 0, .val (mFz (mLst [(mC (.str t14)), (mC (.str t14)), (mC (.str t14)), (mC (.str t6))]))])]) (mCallD F__law_pick [.own 0, .val (mFz (mCallO F__law_let [.val (mVar 1), .val (mCallD F__law_pick [.own 0, .val (mVar 3)])]))]))))))))
def F__law_change : Fn := mkFn 3 4 m__law_change
def m__law_price : MS :=
  (sRet (mO1 oSum (mFz (mLc (mIt itT (mVar 1)) (gN 2) mYes (mO2 oIx (mO2 oIx (mO2 oIx (mVar 0) (mC (.int 2))) (mO2 oIx (mVar 2) (mC (.int 2)))) (mC (.int 3))) [2]))))
def F__law_price : Fn := mkFn 2 1 m__law_price
def m__law_difference : MS :=
  (sSeq (sSet (mFz (mLc (mIt itL (mFz (mN1 oSortTT (mVar 0)))) (gN 4) (mTest (mO2 oNiT (mVar 4) (mVar 1))) (mO2 oCatT (mTup [(mC (.str t6))]) (mVar 4)) [4])) (gN 2))
  (sSeq (sSet (mFz (mLc (mIt itL (mFz (mN1 oSortTT (mVar 1)))) (gN 4) (mTest (mO2 oNiT (mVar 4) (mVar 0))) (mO2 oCatT (mTup [(mC (.str t14))]) (mVar 4)) [4])) (gN 3))
  (sRet (mO1 oTup (mFz (mN2 oCat (mVar 2) (mVar 3)))))))
def F__law_difference : Fn := mkFn 2 3 m__law_difference
def m__law_wild : MS :=
  (sSeq (sSet (mO1 oSum (mFz (mLc (mIt itT (mO2 oIx (mVar 1) (mC (.int 1)))) (gN 8) mYes (mO2 oIx (mVar 8) (mC (.int 1))) [8]))) (gN 3))
  (sSeq (sSet (mCallD F__law_draw [.own 0, .val (mC (.int 8))]) (gN 4))
  (sSeq (sSet (mCallD F__law_pick [.own 0, .val (mFz (mLst [(mC (.str t14)), (mC (.str t6))]))]) (gN 5))
  (sSeq (sIf (mTest (mO2 oEq (mVar 4) (mC (.int 0))))
  (sRet (mTup [(mVar 5), (mO2 oSub (mCallD F__law_draw [.own 0, .val (mO2 oAdd (mVar 3) (mC (.int 2)))]) (mC (.int 1))), (mO2 oSub (mCallD F__law_draw [.own 0, .val (mO2 oAdd (mO1 oLen (mO2 oIx (mVar 1) (mC (.int 2)))) (mC (.int 2)))]) (mC (.int 1))), (mO2 oSub (mCallD F__law_draw [.own 0, .val (mO2 oAdd (mVar 3) (mC (.int 2)))]) (mC (.int 1)))]))
  sNil)
  (sSeq (sIf (mAnd (mTest (mO2 oLt (mVar 4) (mC (.int 3)))) (mTest (mO2 oGt (mO1 oLen (mVar 2)) (mC (.int 0)))))
  (sRet (mO2 oCatT (mTup [(mVar 5)]) (mCallD F__law_pick [.own 0, .val (mFz (mN1 listD (mVar 2)))])))
  sNil)
  (sSeq (sIf (mTest (mO2 oEq (mVar 4) (mC (.int 3))))
  (sSeq (sSet (mFz (mCallO F__law_let [.val (mVar 1), .val (mCallD F__law_draw [.own 0, .val (mO1 oLen (mO2 oIx (mVar 1) (mC (.int 2))))])])) (gN 6))
  (sIf (mTest (mO2 oGt (mO1 oLen (mVar 6)) (mC (.int 0))))
  (sRet (mO2 oCatT (mTup [(mVar 5)]) (mCallD F__law_pick [.own 0, .val (mVar 6)])))
  sNil))
  sNil)
  (sSeq (sSet (mCallD F__law_change [.own 0, .val (mVar 1), .val (mVar 2)]) (gN 7))
  (sSeq (sIf (mTest (mO2 oIsN (mVar 7) (mC .non)))
  (sRet (mTup [(mVar 5), (mC (.int 0)), (mC (.int 0)), (mC (.int 0))]))
  sNil)
  (sRet (mVar 7))))))))))
def F__law_wild : Fn := mkFn 3 6 m__law_wild
def m__law_due_one : MS :=
  (sSeq (sSet (mSl slT (mVar 2) (some (mC (.int 1))) none) (gN 3))
  (sSeq (sIf (mOr (mNot (mTest (mChain oLe oLt (mC (.int 0)) (mO2 oIx (mVar 3) (mC (.int 1))) (mO1 oLen (mO2 oIx (mVar 0) (mC (.int 2))))))) (mTest (mO2 oNiD (mVar 3) (mFz (mCallO F__law_let [.val (mVar 0), .val (mO2 oIx (mVar 3) (mC (.int 1)))])))))
  (sRet (mTup [(mC (.str t2)), (mVar 3)]))
  sNil)
  (sSeq (sIf (mTest (mO2 oEq (mO2 oIx (mO2 oIx (mO2 oIx (mVar 0) (mC (.int 2))) (mO2 oIx (mVar 3) (mC (.int 1)))) (mC (.int 3))) (mC (.int 0))))
  (sRet (mTup [(mC (.str t4)), (mO2 oIx (mO2 oIx (mO2 oIx (mVar 0) (mC (.int 2))) (mO2 oIx (mVar 3) (mC (.int 1)))) (mC (.int 0)))]))
  sNil)
  (sRet (mCallD F__law_outcome [.val (mVar 0), .val (mVar 1), .val (mVar 2)])))))
def F__law_due_one : Fn := mkFn 3 1 m__law_due_one
def m__law_due_error : MS :=
  (sSeq (sIf (mTruth (mO1 oIsT (mVar 3)))
  (sRet (mVar 3))
  sNil)
  (sSeq (sIf (mTest (mO2 oEqD (mVar 3) (mC (.str t9))))
  (sRet (mTup [(mC (.str t11)), (mSl slT (mVar 2) (some (mC (.int 1))) none)]))
  sNil)
  (sSeq (sIf (mTest (mO2 oEqD (mVar 3) (mC (.str t10))))
  (sRet (mTup [(mC (.str t12)), (mCallD F__law_held_by [.val (mVar 0), .val (mVar 1), .val (mSl slT (mVar 2) (some (mC (.int 1))) none)])]))
  sNil)
  (sRet (mTup [(mC (.str t13)), (mSl slT (mVar 2) (some (mC (.int 1))) none)])))))
def F__law_due_error : Fn := mkFn 4 0 m__law_due_error
def m__law_class : MS :=
  (sSeq (sSetO 1 (mLst []))
  (sSeq (sIf (mTruth (mIsX tab_BadEdge (mVar 0)))
  (sApp 1 (mTup [(mC (.str t2)), (mFld t3 (mVar 0))]))
  sNil)
  (sSeq (sIf (mTruth (mIsX tab_Firm (mVar 0)))
  (sApp 1 (mTup [(mC (.str t4)), (mFld t5 (mVar 0))]))
  sNil)
  (sSeq (sIf (mTruth (mIsX tab_There (mVar 0)))
  (sApp 1 (mTup [(mC (.str t11)), (mFld t3 (mVar 0))]))
  sNil)
  (sSeq (sIf (mTruth (mIsX tab_Held (mVar 0)))
  (sApp 1 (mTup [(mC (.str t12)), (mFld t3 (mVar 0))]))
  sNil)
  (sSeq (sIf (mTruth (mIsX tab_Gone (mVar 0)))
  (sApp 1 (mTup [(mC (.str t13)), (mFld t3 (mVar 0))]))
  sNil)
  (sSeq (sIf (mOr (mNot (mTruth (mIsX tab_ChangeError (mVar 0)))) (mNot (mTruth (mIsX tab_ValueError (mVar 0)))))
  (sApp 1 (mC (.str t20)))
  sNil)
  (sRetV 1))))))))
def F__law_class : Fn := mkFn 1 1 m__law_class
def m__law_told_outcome : MS :=
  (sTryZ (sRet (mCallD F_outcome [.val (mVar 0), .val (mVar 1), .val (mVar 2)])) tab_AwayError 3 F__law_class)
def F__law_told_outcome : Fn := mkFn 3 1 m__law_told_outcome
def m__law_told_changed : MS :=
  (sTryZ (sRet (mCallD F_changed [.val (mVar 0), .val (mVar 1), .val (mVar 2)])) tab_AwayError 3 F__law_class)
def F__law_told_changed : Fn := mkFn 3 1 m__law_told_changed
def m__law_apart : MS :=
  (sSeq (sSet (mFz (mLc (mIt itT (mVar 1)) (gN 4) (mTest (mO2 oEq (mO2 oIx (mO2 oIx (mO2 oIx (mVar 0) (mC (.int 2))) (mO2 oIx (mVar 4) (mC (.int 1)))) (mC (.int 3))) (mC (.int 0)))) (mVar 4) [4])) (gN 3))
  (sSeq (sIf (mTest (mO2 oNeD (mVar 3) (mFz (mLc (mIt itT (mVar 2)) (gN 4) (mTest (mO2 oEq (mO2 oIx (mO2 oIx (mO2 oIx (mVar 0) (mC (.int 2))) (mO2 oIx (mVar 4) (mC (.int 1)))) (mC (.int 3))) (mC (.int 0)))) (mVar 4) [4]))))
  (sRet (mC .non))
  sNil)
  (sRet (mCallD F__law_price [.val (mVar 0), .val (mCallD F__law_difference [.val (mVar 1), .val (mVar 2)])]))))
def F__law_apart : Fn := mkFn 3 2 m__law_apart
def m__law_pick__1 : MS :=
  (sRet (mOwn2 1 wIx (mCallD F__law_draw [.own 0, .val (mOwn 1 wLen)])))
def F__law_pick__1 : Fn := mkFn 2 0 m__law_pick__1
def m__law_spoilt : MS :=
  (sSeq (sSetO 3 (mN1 listD (mVar 2)))
  (sSeq (sSet (mCallD F__law_draw [.own 0, .val (mC (.int 5))]) (gN 4))
  (sSeq (sIf (mAnd (mTest (mO2 oEq (mVar 4) (mC (.int 0)))) (mTest (mO2 oGt (mOwn 3 wLen) (mC (.int 1)))))
  (sSeq (sSet (mCallD F__law_draw [.own 0, .val (mO2 oSub (mOwn 3 wLen) (mC (.int 1)))]) (gN 5))
  (sSlSet 3 (mLst [(mOwn2 3 wIx (mO2 oAdd (mVar 5) (mC (.int 1)))), (mOwn2 3 wIx (mVar 5))]) (mPart (some (mVar 5))) (mPart (some (mO2 oAdd (mVar 5) (mC (.int 2)))))))
  sNil)
  (sSeq (sIf (mAnd (mTest (mO2 oEq (mVar 4) (mC (.int 1)))) (mTest (mO2 oGt (mOwn 3 wLen) (mC (.int 0)))))
  (sApp 3 (mCallD F__law_pick__1 [.own 0, .own 3]))
  sNil)
  (sSeq (sIf (mTest (mO2 oEq (mVar 4) (mC (.int 2))))
  (sApp 3 (mTup [(mO2 oSub (mCallD F__law_draw [.own 0, .val (mC (.int 9))]) (mC (.int 1))), (mCallD F__law_draw [.own 0, .val (mO2 oAdd (mO1 oLen (mO2 oIx (mVar 1) (mC (.int 2)))) (mC (.int 1)))]), (mO2 oSub (mCallD F__law_draw [.own 0, .val (mC (.int 9))]) (mC (.int 1)))]))
  sNil)
  (sSeq (sIf (mTest (mO2 oEq (mVar 4) (mC (.int 3))))
  (sSeq (sSet (mFz (mCallO F__law_let [.val (mVar 1), .val (mCallD F__law_draw [.own 0, .val (mO1 oLen (mO2 oIx (mVar 1) (mC (.int 2))))])])) (gN 6))
  (sIf (mTest (mO2 oGt (mO1 oLen (mVar 6)) (mC (.int 0))))
  (sSetO 3 (mN1 oSortT (mFz (mCatO 3 (mFz (mLst [(mCallD F__law_pick [.own 0, .val (mVar 6)])]))))))
  sNil))
  sNil)
  (sFrz 3 (sRet (mO1 oTup (mVar 3))))))))))
def F__law_spoilt : Fn := mkFn 3 4 m__law_spoilt
def m__law_pair_right : MS :=
  (sSeq (sSet (mCallD F__law_difference [.val (mVar 1), .val (mVar 2)]) (gN 3))
  (sSeq (sIf (mOr (mTest (mO2 oNeD (mCallD F_difference [.val (mVar 1), .val (mVar 2)]) (mVar 3))) (mTest (mO2 oNeD (mCallD F_apart [.val (mVar 0), .val (mVar 1), .val (mVar 2)]) (mCallD F__law_apart [.val (mVar 0), .val (mVar 1), .val (mVar 2)]))))
  (sRet (mC (.bl false)))
  sNil)
  (sSeq (sIf (mOr (mTruth (mO1 oIsB (mCallD F_apart [.val (mVar 0), .val (mVar 1), .val (mVar 2)]))) (mTest (mO2 oNe (mCallD F_price_of [.val (mVar 0), .val (mVar 3)]) (mCallD F__law_price [.val (mVar 0), .val (mVar 3)]))))
  (sRet (mC (.bl false)))
  sNil)
  (sSeq (sIf (mTest (mO2 oIsN (mCallD F__law_apart [.val (mVar 0), .val (mVar 1), .val (mVar 2)]) (mC .non)))
  (sRet (mC (.bl true)))
  sNil)
  (sRet (mO2 oEqD (mCallD F_changed [.val (mVar 0), .val (mVar 1), .val (mCallD F_difference [.val (mVar 1), .val (mVar 2)])]) (mVar 2)))))))
def F__law_pair_right : Fn := mkFn 3 1 m__law_pair_right
def m_law : MS :=
  (sSeq (sSet (mCallD F__law_schema [.own 1, .val (mO2 oAdd (mC (.int 1)) (mCallD F__law_draw [.own 1, .val (mC (.int 2))])), .val (mO2 oAdd (mC (.int 1)) (mCallD F__law_draw [.own 1, .val (mC (.int 4))])), .val (mC (.int 3))]) (gN 2))
  (sSeq (sSet (mCallD F__law_graph [.own 1, .val (mVar 2), .val (mC (.int 8))]) (gN 3))
  (sSeq (sSet (mVar 3) (gN 4))
  (sSeq (sSetO 5 (mLst []))
  (sSeq (sSet (mC .non) (gN 6))
  (sSeq (sFor (mRg1 (mO2 oAdd (mC (.int 1)) (mCallD F__law_draw [.own 1, .val (mC (.int 6))]))) (gN 7)
  (sSeq (sSet (mCallD F__law_wild [.own 1, .val (mVar 2), .val (mVar 4)]) (gN 8))
  (sSeq (sIf (mTest (mO2 oNoN (mVar 6) (mC .non)))
  (sSeq (sApp 5 (mVar 8))
  sCnt)
  sNil)
  (sSeq (sSet (mCallD F__law_due_one [.val (mVar 2), .val (mVar 4), .val (mVar 8)]) (gN 9))
  (sSeq (sSet (mCallD F__law_told_outcome [.val (mVar 2), .val (mVar 4), .val (mVar 8)]) (gN 10))
  (sSeq (sIf (mTruth (mO1 oIsT (mVar 9)))
  (sIf (mTest (mO2 oNeD (mVar 10) (mFz (mLst [(mVar 9)]))))
  (sRet (mC (.bl false)))
  sNil)
  (sIf (mTest (mO2 oNeD (mVar 10) (mVar 9)))
  (sRet (mC (.bl false)))
  sNil))
  (sIf (mOr (mTest (mO2 oEqD (mVar 9) (mC (.str t7)))) (mTest (mO2 oEq (mCallD F__law_draw [.own 1, .val (mC (.int 4))]) (mC (.int 1)))))
  (sSeq (sApp 5 (mVar 8))
  (sIf (mTest (mO2 oEqD (mVar 9) (mC (.str t7))))
  (sSet (mCallD F__law_done [.val (mVar 4), .val (mVar 8)]) (gN 4))
  (sSet (mCallD F__law_due_error [.val (mVar 2), .val (mVar 4), .val (mVar 8), .val (mVar 9)]) (gN 6))))
  sNil)))))))
  (sFrz 5 (sSeq (sSet (mCallD F__law_told_changed [.val (mVar 2), .val (mVar 3), .val (mO1 oTup (mVar 5))]) (gN 10))
  (sSeq (sIf (mTest (mO2 oNoN (mVar 6) (mC .non)))
  (sIf (mTest (mO2 oNeD (mVar 10) (mFz (mLst [(mVar 6)]))))
  (sRet (mC (.bl false)))
  sNil)
  (sIf (mOr (mTest (mO2 oNeD (mVar 10) (mVar 4))) (mNot (mTruth (mCallD F__law_is_graph [.val (mVar 2), .val (mVar 10)]))))
  (sRet (mC (.bl false)))
  sNil))
  (sSeq (sSet (mCallD F__law_graph [.own 1, .val (mVar 2), .val (mC (.int 8))]) (gN 11))
  (sSeq (sIf (mOr (mNot (mTruth (mCallD F__law_pair_right [.val (mVar 2), .val (mVar 3), .val (mVar 11)]))) (mNot (mTruth (mCallD F__law_pair_right [.val (mVar 2), .val (mVar 3), .val (mVar 4)]))))
  (sRet (mC (.bl false)))
  sNil)
  (sSeq (sFor (mIt itL (mFz (mLst [(mVar 3), (mCallD F__law_spoilt [.own 1, .val (mVar 2), .val (mVar 3)]), (mCallD F__law_spoilt [.own 1, .val (mVar 2), .val (mVar 11)])]))) (gN 12)
  (sSeq (sSet (mCallD F_is_graph [.val (mVar 2), .val (mVar 12)]) (gN 10))
  (sIf (mOr (mTest (mO2 oNeD (mVar 10) (mCallD F__law_is_graph [.val (mVar 2), .val (mVar 12)]))) (mNot (mTruth (mO1 oIsB (mVar 10)))))
  (sRet (mC (.bl false)))
  sNil)))
  (sRet (mC (.bl true)))))))))))))))
end Lw

set_option linter.all false
set_option maxRecDepth 10000
set_option maxHeartbeats 1000000
namespace Lw
open Ml
abbrev Kd := List Nat × Int
structure Lb where
  n : List Nat
  s : Int
  t : Int
  p : Int
  r : List Nat
def kD (k : Kd) : Dv := .tup [.str k.1, .int k.2]
def lD (l : Lb) : Dv := .tup [.str l.n, .int l.s, .int l.t, .int l.p, .str l.r]
def scD (K : List Kd) (L : List Lb) : Dv := .tup [.str t19, .tup (K.map kD), .tup (L.map lD)]
def tx (s : List Nat) : Prop := s.length ≤ 1000 ∧ (s.all fun c => decide (c < 1114112)) = true
def inB (lo hi i : Int) : Bool := decide (lo ≤ i) && decide (i ≤ hi)
def rules : List (List Nat) := [t18, t0, t1]
theorem intsOf_map {α : Type} (f : α → Int) : ∀ l : List α, intsOf (l.map fun x => Dv.int (f x)) = some (l.map f)
  | [] => rfl
  | a :: l => by simp only [List.map_cons, intsOf, intsOf_map f l]; rfl
theorem cut_pre {α : Type} {ds : List α} {k : Nat} (h : k ≤ ds.length) : cutN ds none (some (k : Int)) = ds.take k := by
  have hk : ¬ ((k : Int) < 0) := by omega
  simp [cutN, sIx, hk, Nat.min_eq_left h]
def pref (K : List Kd) (k : Nat) : Int := ((K.take k).map (·.2)).sum
def cnt (K : List Kd) (k : Nat) : Int := (K[k]?.map (·.2)).getD 0
def nds (K : List Kd) (k : Nat) : List Int := (List.range (cnt K k).toNat).map fun (j : Nat) => pref K k + (j : Int)
def vK (K : List Kd) : Prop := K.length ≤ 6 ∧ ∀ k ∈ K, 0 ≤ k.2 ∧ k.2 ≤ 24
theorem sum_b : ∀ {l : List Int}, (∀ x ∈ l, 0 ≤ x ∧ x ≤ 24) → 0 ≤ l.sum ∧ l.sum ≤ 24 * l.length
  | [], _ => by simp
  | a :: l, h => by
    have h1 := h a List.mem_cons_self
    have h2 := sum_b fun x hx => h x (List.mem_cons_of_mem _ hx)
    simp only [List.sum_cons, List.length_cons]
    omega
theorem pref_b {K : List Kd} (h : vK K) (k : Nat) : 0 ≤ pref K k ∧ pref K k ≤ 144 := by
  have := sum_b (l := (K.take k).map (·.2)) (fun x hx => by
    obtain ⟨y, hy, rfl⟩ := List.mem_map.mp hx
    exact h.2 y (List.mem_of_mem_take hy))
  have h1 := h.1
  simp only [List.length_map, List.length_take] at this
  unfold pref
  omega
theorem cnt_b {K : List Kd} (h : vK K) (k : Nat) : 0 ≤ cnt K k ∧ cnt K k ≤ 24 := by
  unfold cnt
  cases hk : K[k]? with
  | none => simp
  | some x => exact h.2 x (List.mem_of_getElem? hk)
theorem mem_nds {K : List Kd} (h : vK K) {k : Nat} {n : Int} : n ∈ nds K k ↔ pref K k ≤ n ∧ n < pref K k + cnt K k := by
  have := cnt_b h k
  unfold nds
  simp only [List.mem_map, List.mem_range]
  constructor
  · rintro ⟨j, hj, rfl⟩; omega
  · rintro ⟨h1, h2⟩; exact ⟨(n - pref K k).toNat, by omega, by omega⟩
theorem nds_len {K : List Kd} (h : vK K) (k : Nat) : (nds K k).length ≤ 24 := by
  have := cnt_b h k
  simp [nds]; omega
theorem nds_lt (K : List Kd) (k : Nat) : (nds K k).Pairwise (· < ·) := by
  unfold nds
  rw [List.pairwise_map]
  exact List.pairwise_lt_range.imp (by intro a b h; omega)
theorem sc_1 (K : List Kd) (L : List Lb) : oIx (scD K L) (.int 1) = some (.tup (K.map kD)) := rfl
theorem sc_2 (K : List Kd) (L : List Lb) : oIx (scD K L) (.int 2) = some (.tup (L.map lD)) := rfl
theorem ix_k {K : List Kd} {k : Nat} (h : k < K.length) : oIx (.tup (K.map kD)) (.int k) = some (.tup [.str K[k].1, .int (cnt K k)]) := by
  simp only [oIx]; rw [getI_of (by simpa using h)]; simp [kD, cnt, h]
theorem ix_l {L : List Lb} {k : Nat} (h : k < L.length) : oIx (.tup (L.map lD)) (.int k) = some (.tup [.str L[k].n, .int L[k].s, .int L[k].t, .int L[k].p, .str L[k].r]) := by
  simp only [oIx]; rw [getI_of (by simpa using h)]; simp [lD]
theorem sl_k {K : List Kd} {k : Nat} (h : k ≤ K.length) : slT (.tup (K.map kD)) none (some (k : Int)) = some (.tup ((K.take k).map kD)) := by
  simp only [slT]; rw [cut_pre (by simpa using h), List.map_take]
theorem law_first_ok {K : List Kd} {L : List Lb} {k : Nat} (h : k ≤ K.length) (hv : vK K) : F__law_first [.fz (scD K L), .fz (.int k)] = .ok (.fz (.int (pref K k))) [] := by
  refine fn_rt rfl rfl ?_
  show RT (m__law_first [.fz (scD K L), .fz (.int k), .un]) _ _
  have hm : mLc (mIt itT (mSl slT (mO2 oIx (mVar 0) (mC (.int 1))) none (some (mVar 1)))) (gN 2) mYes (mO2 oIx (mVar 2) (mC (.int 1))) [2] [.fz (scD K L), .fz (.int k), .un] = .ok (.lst ((K.take k).map fun k => .int k.2)) [.fz (scD K L), .fz (.int k), .un] :=
    mlc_mapA (h := kD) (by simp [sc_1, sl_k h, itT]) rfl (by have := limv; have := hv.1; simp; omega) (fun d hd => ⟨_, _, rfl, rfl, rfl, rfl⟩) rfl
  simp only [m__law_first, ev_ret, ev_O1, ev_fz, hm, Rs.bind_ok, ev_toD, oSum, intsOf_map (fun k : Kd => k.2), Option.map_some, Rs.of_some, Rs.go_ok]
  exact ⟨_, rfl, rfl⟩
theorem law_nodes_ok {K : List Kd} {L : List Lb} {k : Nat} (h : k < K.length) (hv : vK K) : F__law_nodes [.fz (scD K L), .fz (.int k)] = .ok (.ow none (.lst ((nds K k).map .int))) [] := by
  refine fn_rt rfl rfl ?_
  show RT (m__law_nodes [.fz (scD K L), .fz (.int k), .un, .un]) _ _
  have hf := law_first_ok (L := L) (Nat.le_of_lt h) hv
  have hc := cnt_b hv k
  have g1 : oIx (.tup [.str K[k].1, .int (cnt K k)]) (.int 1) = some (.int (cnt K k)) := rfl
  have hr : itR 0 (cnt K k) = some ((List.range (cnt K k).toNat).map fun (j : Nat) => Dv.int (j : Int)) := by
    have := itR_nat (n := (cnt K k).toNat) (by omega)
    rwa [Int.toNat_of_nonneg hc.1] at this
  have hm : mLc (mRg1 (mO2 oIx (mO2 oIx (mO2 oIx (mVar 0) (mC (.int 1))) (mVar 1)) (mC (.int 1)))) (gN 3) mYes (mO2 oAdd (mVar 2) (mVar 3)) [3] [.fz (scD K L), .fz (.int k), .fz (.int (pref K k)), .un] = .ok (.lst ((List.range (cnt K k).toNat).map fun (j : Nat) => .int (pref K k + (j : Int)))) [.fz (scD K L), .fz (.int k), .fz (.int (pref K k)), .un] :=
    mlc_mapA (h := fun (j : Nat) => Dv.int (j : Int)) (by simp [sc_1, ix_k h, g1, hr]) rfl (by have := limv; simp; omega) (fun d hd => ⟨_, _, rfl, rfl, rfl, rfl⟩) rfl
  simp [m__law_nodes, hf, hm, nds]
def kof (acc : Int) (k : Nat) : List Kd → Int → Option Nat
  | [], _ => none
  | c :: r, n => if n < acc + c.2 then some k else kof (acc + c.2) (k + 1) r n
theorem kof_ge : ∀ {K : List Kd} {acc : Int} {k : Nat} {n : Int} {j : Nat}, kof acc k K n = some j → k ≤ j
  | [], _, _, _, _, h => by simp [kof] at h
  | c :: r, acc, k, n, j, h => by
    unfold kof at h
    split at h
    · cases h; omega
    · have := kof_ge h; omega
theorem pref_cons (c : Kd) (r : List Kd) (i : Nat) : pref (c :: r) (i + 1) = c.2 + pref r i := by simp [pref]
theorem cnt_cons (c : Kd) (r : List Kd) (i : Nat) : cnt (c :: r) (i + 1) = cnt r i := by simp [cnt]
theorem pref_nn {K : List Kd} (h : ∀ k ∈ K, 0 ≤ k.2) (i : Nat) : 0 ≤ pref K i := by
  induction K generalizing i with
  | nil => simp [pref]
  | cons c r ih =>
    cases i with
    | zero => simp [pref]
    | succ i =>
      rw [pref_cons]
      have := ih (fun k hk => h k (List.mem_cons_of_mem _ hk)) i
      have := h c List.mem_cons_self
      omega
theorem kof_iff : ∀ {K : List Kd} {acc : Int} {k : Nat} {n : Int} {i : Nat}, (∀ k ∈ K, 0 ≤ k.2) → acc ≤ n → (kof acc k K n = some (k + i) ↔ acc + pref K i ≤ n ∧ n < acc + pref K i + cnt K i)
  | [], acc, k, n, i, _, _ => by simp [kof, pref, cnt]; try omega
  | c :: r, acc, k, n, i, h, hn => by
    have hc := h c List.mem_cons_self
    have hr : ∀ k ∈ r, 0 ≤ k.2 := fun k hk => h k (List.mem_cons_of_mem _ hk)
    cases i with
    | zero =>
      have p0 : pref (c :: r) 0 = 0 := by simp [pref]
      have c0 : cnt (c :: r) 0 = c.2 := by simp [cnt]
      rw [p0, c0]
      unfold kof
      split
      · simp; omega
      · constructor
        · intro hh; have := kof_ge hh; omega
        · intro hh; omega
    | succ i =>
      rw [pref_cons, cnt_cons]
      have hp := pref_nn hr i
      unfold kof
      split
      · constructor
        · intro hh; simp at hh
        · intro hh; omega
      · have := kof_iff (K := r) (acc := acc + c.2) (k := k + 1) (n := n) (i := i) hr (by omega)
        rw [show k + (i + 1) = k + 1 + i by omega, this]
        constructor <;> intro hh <;> omega
def ko (K : List Kd) (n : Int) : Option Nat := if n < 0 then none else kof 0 0 K n
theorem ko_iff {K : List Kd} (h : vK K) {n : Int} {i : Nat} : ko K n = some i ↔ n ∈ nds K i := by
  rw [mem_nds h]
  unfold ko
  have hp := pref_b h i
  split
  · constructor
    · intro hh; cases hh
    · intro hh; omega
  · have := kof_iff (K := K) (acc := 0) (k := 0) (n := n) (i := i) (fun k hk => (h.2 k hk).1) (by omega)
    simp only [Nat.zero_add, Int.zero_add] at this
    exact this
def kiD (o : Option Nat) : Dv := match o with
  | none => .non
  | some k => .int k
theorem kind_lp {d : Dv} {n : Int} : ∀ {K : List Kd} {acc : Int} {k : Nat} {x y z : Slt}, free (some x) = true → free (some y) = true → free (some z) = true →
    ∃ a x' y' z', loop (gT [(gN 3), (gT [(gN 4), (gN 5)])]) (sSeq (sAug 2 oAddI (mVar 5)) (sIf (mTest (mO2 oLt (mVar 1) (mVar 2))) (sRet (mVar 3)) sNil)) (enumD k (K.map kD)) [.fz d, .fz (.int n), .fz (.int acc), x, y, z] = match kof acc k K n with | none => .nx [.fz d, .fz (.int n), a, x', y', z'] | some j => .rt (.fz (.int j)) [.fz d, .fz (.int n), a, x', y', z']
  | [], acc, k, x, y, z, _, _, _ => ⟨_, _, _, _, rfl⟩
  | c :: r, acc, k, x, y, z, hx, hy, hz => by
    simp only [List.map_cons, enumD, loop, kof]
    by_cases hc : n < acc + c.2
    · refine ⟨.fz (.int (acc + c.2)), .fz (.int k), .fz (.str c.1), .fz (.int c.2), ?_⟩
      simp [kD, hx, hy, hz, sAug, oAddI, oLt, hc]
    · obtain ⟨a, x', y', z', q⟩ := kind_lp (d := d) (n := n) (K := r) (acc := acc + c.2) (k := k + 1) (x := .fz (.int k)) (y := .fz (.str c.1)) (z := .fz (.int c.2)) rfl rfl rfl
      refine ⟨a, x', y', z', ?_⟩
      rw [if_neg hc, ← q]
      simp [kD, hx, hy, hz, sAug, oAddI, oLt, hc]
theorem kind_ok {K : List Kd} {L : List Lb} {n : Int} : F_kind_of [.fz (scD K L), .fz (.int n)] = .ok (.fz (kiD (ko K n))) [] := by
  refine fn_rt rfl rfl ?_
  show RT (m_kind_of [.fz (scD K L), .fz (.int n), .un, .un, .un, .un]) _ _
  obtain ⟨a, x', y', z', q⟩ := kind_lp (d := scD K L) (n := n) (K := K) (acc := 0) (k := 0) (x := .un) (y := .un) (z := .un) rfl rfl rfl
  unfold ko m_kind_of
  by_cases hn : n < 0
  · simp [oLt, hn, kiD]
  · simp only [ev_seq, ev_if, ev_test, ev_O2, ev_var, List.getElem?_cons_zero, List.getElem?_cons_succ, Rs.bind_ok, ev_C, oLt, Rs.of_some, hn, decide_false, Rs.go_ok, Bool.false_eq_true, if_false, ev_nil, Sr.then_nx, ev_set, ev_gN, ev_free1, if_true, List.set_cons_succ, List.set_cons_zero, ev_nxO1, ev_for, ev_itE, sc_1, itT, Option.map_some, q]
    cases kof 0 0 K n with
    | none => simp [kiD]
    | some j => simp [kiD]
theorem lk_ok {K : List Kd} {L : List Lb} {j : Nat} (h : j < L.length) : F_label_kinds [.fz (scD K L), .fz (.int j)] = .ok (.fz (.tup [.int L[j].s, .int L[j].t])) [] := by
  refine fn_rt rfl rfl ?_
  show RT (m_label_kinds [.fz (scD K L), .fz (.int j)]) _ _
  have : ∀ a b c d e : Dv, slT (.tup [a, b, c, d, e]) (some 1) (some 3) = some (.tup [b, c]) := fun _ _ _ _ _ => rfl
  simp [m_label_kinds, sc_2, ix_l h, this]
theorem mark_ok {K : List Kd} {L : List Lb} {j : Nat} (h : j < L.length) : F_is_mark [.fz (scD K L), .fz (.int j)] = .ok (.fz (.bl (decide (L[j].r = t1)))) [] := by
  refine fn_rt rfl rfl ?_
  show RT (m_is_mark [.fz (scD K L), .fz (.int j)]) _ _
  have : ∀ a b c d e : Dv, oIx (.tup [a, b, c, d, e]) (.int 4) = some e := fun _ _ _ _ _ => rfl
  simp [m_is_mark, sc_2, ix_l h, this, oEq, eqS]
end Lw

set_option linter.all false
set_option maxRecDepth 10000
set_option maxHeartbeats 1000000
namespace Lw
open Ml
def vL (m : Nat) (l : Lb) : Prop := (0 ≤ l.s ∧ l.s < m) ∧ (0 ≤ l.t ∧ l.t < m) ∧ (l.r = t1 → l.s = l.t)
def tr (j : Nat) (p : Int × Int) : Dv := .tup [.int p.1, .int j, .int p.2]
def okE (l : Lb) (a b : Int) : Bool := !decide (l.r = t1) || decide (a = b)
theorem beqI (a b : Int) : (a == b) = decide (a = b) := rfl
def letT (K : List Kd) (l : Lb) : List (Int × Int) := (nds K l.s.toNat).flatMap fun a => ((nds K l.t.toNat).filter (okE l a)).map fun b => (a, b)
theorem filt_one {a : Int} : ∀ {l : List Int}, l.Pairwise (· < ·) → a ∈ l → (l.filter fun b => decide (a = b)) = [a]
  | [], _, h => by cases h
  | c :: l, hp, h => by
    rw [List.pairwise_cons] at hp
    by_cases hc : a = c
    · subst hc
      have : (l.filter fun b => decide (a = b)) = [] := by
        rw [List.filter_eq_nil_iff]
        intro b hb
        have := hp.1 b hb
        simp; omega
      simp [this]
    · have hm : a ∈ l := by
        rcases List.mem_cons.mp h with h | h
        · exact absurd h hc
        · exact h
      rw [List.filter_cons]
      simp [hc, filt_one hp.2 hm]
theorem flat_congr {α β : Type} {f g : α → List β} : ∀ {l : List α}, (∀ x ∈ l, f x = g x) → l.flatMap f = l.flatMap g
  | [], _ => rfl
  | a :: l, h => by
    rw [List.flatMap_cons, List.flatMap_cons, h a List.mem_cons_self, flat_congr fun x hx => h x (List.mem_cons_of_mem _ hx)]
theorem flat_one {α β : Type} {f : α → β} : ∀ {l : List α}, (l.flatMap fun x => [f x]) = l.map f
  | [] => rfl
  | a :: l => by rw [List.flatMap_cons, flat_one]; rfl
theorem letT_mark {K : List Kd} {l : Lb} (h : l.r = t1) (hs : l.s = l.t) : letT K l = (nds K l.s.toNat).map fun a => (a, a) := by
  unfold letT
  rw [← flat_one]
  refine flat_congr fun a ha => ?_
  rw [← hs]
  have : okE l a = fun b => decide (a = b) := by funext b; simp [okE, h]
  rw [this, filt_one (nds_lt K _) ha]
  rfl
theorem letT_plain {K : List Kd} {l : Lb} (h : l.r ≠ t1) : letT K l = (nds K l.s.toNat).flatMap fun a => (nds K l.t.toNat).map fun b => (a, b) := by
  unfold letT
  refine flat_congr fun a ha => ?_
  rw [List.filter_eq_self.mpr (fun b _ => by simp [okE, h])]
theorem mem_letT {K : List Kd} {l : Lb} {a b : Int} : (a, b) ∈ letT K l ↔ a ∈ nds K l.s.toNat ∧ b ∈ nds K l.t.toNat ∧ (l.r ≠ t1 ∨ a = b) := by
  unfold letT
  simp only [List.mem_flatMap, List.mem_map, List.mem_filter, Prod.mk.injEq]
  constructor
  · rintro ⟨a', h1, b', ⟨h2, h3⟩, rfl, rfl⟩
    exact ⟨h1, h2, by simpa [okE] using h3⟩
  · rintro ⟨h1, h2, h3⟩
    exact ⟨a, h1, b, ⟨h2, by simpa [okE] using h3⟩, rfl, rfl⟩
theorem letT_lt (K : List Kd) (l : Lb) : (letT K l).Pairwise fun p q => p.1 < q.1 ∨ p.1 = q.1 ∧ p.2 < q.2 := by
  unfold letT
  rw [List.pairwise_flatMap]
  constructor
  · intro a ha
    rw [List.pairwise_map]
    exact ((nds_lt K _).filter _).imp fun h => .inr ⟨rfl, h⟩
  · refine (nds_lt K _).imp ?_
    intro a b hab p hp q hq
    obtain ⟨x, _, rfl⟩ := List.mem_map.mp hp
    obtain ⟨y, _, rfl⟩ := List.mem_map.mp hq
    exact .inl hab
theorem srtD_id : ∀ {l : List (List Int × Dv)}, l.Pairwise (fun p q => ltI q.1 p.1 = false) → srtD l = l
  | [], _ => rfl
  | x :: l, h => by
    rw [List.pairwise_cons] at h
    rw [srtD, srtD_id h.2]
    cases l with
    | nil => rfl
    | cons y r =>
      have := h.1 y List.mem_cons_self
      simp [insD, this]
theorem tupsI_tr (j : Nat) : ∀ l : List (Int × Int), tupsI (l.map (tr j)) = some (l.map fun p => ([p.1, (j : Int), p.2], tr j p))
  | [] => rfl
  | p :: l => by
    have : tupI (tr j p) = some [p.1, (j : Int), p.2] := rfl
    simp only [List.map_cons, tupsI, this, tupsI_tr j l]
theorem sort_tr {j : Nat} {l : List (Int × Int)} (h : l.Pairwise fun p q => p.1 < q.1 ∨ p.1 = q.1 ∧ p.2 < q.2) : oSortT (.lst (l.map (tr j))) = some (l.map (tr j)) := by
  simp only [oSortT, tupsI_tr, Option.map_some]
  rw [srtD_id]
  · simp
  · rw [List.pairwise_map]
    refine h.imp ?_
    intro p q h
    rcases h with h | ⟨h1, h2⟩
    · have e1 : ¬ q.1 = p.1 := by omega
      have e2 : ¬ q.1 < p.1 := by omega
      simp [ltI, e1, e2]
    · have e1 : q.1 = p.1 := h1.symm
      have e2 : ¬ q.2 = p.2 := by omega
      have e3 : ¬ q.2 < p.2 := by omega
      simp [ltI, e1, e2, e3]
theorem low_tr {n j : Nat} (p : Int × Int) : lowD (n + 1) (tr j p) = true := by simp [tr, lowD, lowDs]
theorem lows_tr {n j : Nat} : ∀ l : List (Int × Int), lowDs (n + 1) (l.map (tr j)) = true
  | [] => by simp [lowDs]
  | p :: l => by simp [lowDs, low_tr, lows_tr l]
theorem eqD_tr {j : Nat} (p q : Int × Int) : eqD (tr j p) (tr j q) = decide (p = q) := by
  obtain ⟨a, b⟩ := p; obtain ⟨c, d⟩ := q
  simp [tr, eqD, eqDs, eqF, beqI]
theorem eqDs_tr {j : Nat} : ∀ l : List (Int × Int), eqDs (l.map (tr j)) (l.map (tr j)) = true
  | [] => by simp [eqDs]
  | p :: l => by simp [eqDs, eqD_tr, eqDs_tr l]
theorem len_letT {K : List Kd} (hv : vK K) (l : Lb) : (letT K l).length ≤ 576 := by
  unfold letT
  rw [List.length_flatMap]
  have h1 := nds_len hv l.s.toNat
  generalize nds K l.s.toNat = S at *
  have : ∀ S : List Int, ((S.map fun a => (((nds K l.t.toNat).filter (okE l a)).map fun b => (a, b)).length).sum) ≤ 24 * S.length := by
    intro S
    induction S with
    | nil => simp
    | cons a S ih =>
      have h2 := nds_len hv l.t.toNat
      have h3 : (((nds K l.t.toNat).filter (okE l a)).map fun b => (a, b)).length ≤ 24 := by
        rw [List.length_map]
        exact Nat.le_trans (List.length_filter_le _ _) h2
      simp only [List.map_cons, List.sum_cons, List.length_cons]
      omega
  have := this S
  omega
theorem let_in {K : List Kd} {L : List Lb} {j : Nat} {l : Lb} {a : Int} : ∀ {T : List Int} {acc : List Dv} {x : Slt}, free (some x) = true → acc.length + T.length ≤ 1000 →
    ∃ x', free (some x') = true ∧ loop (gN 5) (sIf (mOr (mTest (mO2 oNe (mO2 oIx (mVar 2) (mC (.int 4))) (mC (.str t1)))) (mTest (mO2 oEq (mVar 4) (mVar 5)))) (sApp 3 (mTup [(mVar 4), (mVar 1), (mVar 5)])) sNil) (T.map .int) [.fz (scD K L), .fz (.int j), .fz (lD l), .ow none (.lst acc), .fz (.int a), x] =
      .nx [.fz (scD K L), .fz (.int j), .fz (lD l), .ow none (.lst (acc ++ ((T.filter (okE l a)).map fun b => tr j (a, b)))), .fz (.int a), x']
  | [], acc, x, hx, _ => ⟨x, hx, by simp [loop]⟩
  | b :: T, acc, x, hx, hl => by
    simp only [List.length_cons] at hl
    have hlt : acc.length < lim := by have := limv; omega
    have g4 : oIx (lD l) (.int 4) = some (.str l.r) := rfl
    have hb : gN 5 (.int b) [.fz (scD K L), .fz (.int j), .fz (lD l), .ow none (.lst acc), .fz (.int a), x] = some [.fz (scD K L), .fz (.int j), .fz (lD l), .ow none (.lst acc), .fz (.int a), .fz (.int b)] := by simp [hx]
    simp only [List.map_cons, loop, hb]
    by_cases c : okE l a b = true
    · obtain ⟨x', hx', q⟩ := let_in (K := K) (L := L) (j := j) (l := l) (a := a) (T := T) (acc := acc ++ [tr j (a, b)]) (x := .fz (.int b)) rfl (by simp; omega)
      refine ⟨x', hx', ?_⟩
      rw [List.filter_cons_of_pos c, List.map_cons, List.append_cons, ← q]
      by_cases c1 : l.r = t1
      · have c2 : a = b := by simpa [okE, c1] using c
        simp [g4, oNe, eqS, c1, oEq, c2, hlt, tr]
      · simp [g4, oNe, eqS, c1, hlt, tr]
    · obtain ⟨x', hx', q⟩ := let_in (K := K) (L := L) (j := j) (l := l) (a := a) (T := T) (acc := acc) (x := .fz (.int b)) rfl (by omega)
      refine ⟨x', hx', ?_⟩
      rw [List.filter_cons_of_neg c, ← q]
      have c' : l.r = t1 ∧ ¬ a = b := by simpa [okE] using c
      simp [g4, oNe, eqS, c'.1, oEq, c'.2]
theorem let_out {K : List Kd} {L : List Lb} {j : Nat} {l : Lb} (hv : vK K) (hl : vL K.length l) : ∀ {S : List Int} {acc : List Dv} {x y : Slt}, free (some x) = true → free (some y) = true → acc.length + S.length * 24 ≤ 1000 →
    ∃ x' y', loop (gN 4) (sFor (mIt itL (mFz (mCallO F__law_nodes [.val (mVar 0), .val (mO2 oIx (mVar 2) (mC (.int 2)))]))) (gN 5) (sIf (mOr (mTest (mO2 oNe (mO2 oIx (mVar 2) (mC (.int 4))) (mC (.str t1)))) (mTest (mO2 oEq (mVar 4) (mVar 5)))) (sApp 3 (mTup [(mVar 4), (mVar 1), (mVar 5)])) sNil)) (S.map .int) [.fz (scD K L), .fz (.int j), .fz (lD l), .ow none (.lst acc), x, y] =
      .nx [.fz (scD K L), .fz (.int j), .fz (lD l), .ow none (.lst (acc ++ S.flatMap fun a => ((nds K l.t.toNat).filter (okE l a)).map fun b => tr j (a, b))), x', y']
  | [], acc, x, y, _, _, _ => ⟨x, y, by simp [loop]⟩
  | a :: S, acc, x, y, hx, hy, hle => by
    simp only [List.length_cons, Nat.succ_mul] at hle
    obtain ⟨⟨s1, s2⟩, ⟨u1, u2⟩, hm⟩ := hl
    have nt := law_nodes_ok (L := L) (k := l.t.toNat) (by omega) hv
    have lt := nds_len hv l.t.toNat
    rw [Int.toNat_of_nonneg u1] at nt
    have g2 : oIx (lD l) (.int 2) = some (.int l.t) := rfl
    obtain ⟨y', hy', q⟩ := let_in (K := K) (L := L) (j := j) (l := l) (a := a) (T := nds K l.t.toNat) (acc := acc) (x := y) hy (by omega)
    have hf := List.length_filter_le (okE l a) (nds K l.t.toNat)
    obtain ⟨x2, y2, q2⟩ := let_out (L := L) (j := j) hv ⟨⟨s1, s2⟩, ⟨u1, u2⟩, hm⟩ (S := S) (acc := acc ++ ((nds K l.t.toNat).filter (okE l a)).map fun b => tr j (a, b)) (x := .fz (.int a)) (y := y') rfl hy' (by simp; omega)
    refine ⟨x2, y2, ?_⟩
    have hg : gN 4 (.int a) [.fz (scD K L), .fz (.int j), .fz (lD l), .ow none (.lst acc), x, y] = some [.fz (scD K L), .fz (.int j), .fz (lD l), .ow none (.lst acc), .fz (.int a), y] := by simp [hx]
    simp only [List.map_cons, loop, hg, ev_for, ev_it, ev_fz, ev_callO, call_f2, ev_var, List.getElem?_cons_zero, List.getElem?_cons_succ, Rs.bind_ok, ev_O2, ev_C, g2, Rs.of_some, nt, ev_toD, itL, Rs.go_ok, q]
    rw [q2, List.flatMap_cons, List.append_assoc]
theorem let_ok {K : List Kd} {L : List Lb} {j : Nat} (h : j < L.length) (hv : vK K) (hl : vL K.length L[j]) : F__law_let [.fz (scD K L), .fz (.int j)] = .ok (.ow none (.lst ((letT K L[j]).map (tr j)))) [] := by
  refine fn_rt rfl rfl ?_
  show RT (m__law_let [.fz (scD K L), .fz (.int j), .un, .un, .un, .un]) _ _
  have ix : oIx (.tup (L.map lD)) (.int j) = some (lD L[j]) := by
    simp only [oIx]; rw [getI_of (by simpa using h)]; simp
  generalize L[j] = l at *
  have hl' := hl
  obtain ⟨⟨s1, s2⟩, ⟨u1, u2⟩, hm⟩ := hl
  have ns := law_nodes_ok (L := L) (k := l.s.toNat) (by omega) hv
  have ls := nds_len hv l.s.toNat
  rw [Int.toNat_of_nonneg s1] at ns
  have g1 : oIx (lD l) (.int 1) = some (.int l.s) := rfl
  obtain ⟨x', y', q⟩ := let_out (L := L) (j := j) hv hl' (S := nds K l.s.toNat) (acc := []) (x := .un) (y := .un) rfl rfl (by simp; omega)
  have hq : (letT K l).map (tr j) = (nds K l.s.toNat).flatMap fun a => ((nds K l.t.toNat).filter (okE l a)).map fun b => tr j (a, b) := by
    unfold letT
    rw [List.map_flatMap]
    refine flat_congr fun a ha => ?_
    rw [List.map_map]; rfl
  rw [hq]
  unfold m__law_let
  simp only [ev_seq, ev_set, ev_O2, ev_var, ev_C, List.getElem?_cons_zero, List.getElem?_cons_succ, Rs.bind_ok, sc_2, Rs.of_some, ix, Rs.go_ok, ev_gN, ev_free1, if_true, List.set_cons_succ, List.set_cons_zero, ev_nxO1, Sr.then_nx, ev_setO, ev_lst, ev_args0, List.length_nil, Nat.zero_le, ev_for, ev_it, ev_fz, ev_callO, call_f2, g1, ns, ev_toD, itL, q, List.nil_append, ev_retV]
  exact ⟨_, rfl, rfl⟩
theorem low_ki {n : Nat} (o : Option Nat) : lowD n (kiD o) = true := by cases o <;> simp [kiD, lowD]
theorem eq_ki {o : Option Nat} {s : Nat} : eqD (kiD o) (.int s) = decide (o = some s) := by
  cases o with
  | none => simp [kiD, eqD, eqF]
  | some k =>
    simp only [kiD, eqD, eqF, beqI, Option.some.injEq]
    congr 1; apply propext; omega
def edgeB (K : List Kd) (L : List Lb) (a j b : Int) : Bool := ((if 0 ≤ j then L[j.toNat]? else none).map fun l => decide ((a, b) ∈ letT K l)).getD false
theorem edgeB_in {K : List Kd} {L : List Lb} {a b : Int} {j : Nat} (h : j < L.length) : edgeB K L a j b = decide ((a, b) ∈ letT K L[j]) := by
  simp [edgeB, h]
theorem edgeB_hi {K : List Kd} {L : List Lb} {a b j : Int} (h : ¬ j.toNat < L.length) : edgeB K L a j b = false := by
  unfold edgeB
  split
  · rw [List.getElem?_eq_none (by omega)]; rfl
  · rfl
theorem edgeB_lo {K : List Kd} {L : List Lb} {a b j : Int} (h : ¬ 0 ≤ j) : edgeB K L a j b = false := by
  simp [edgeB, h]
theorem oEqD_int (a b : Int) : oEqD (.int a) (.int b) = some (.bl (decide (a = b))) := by simp [oEqD, lowD, eqD, eqF, beqI]
theorem is_edge_ok {K : List Kd} {L : List Lb} {j a b : Int} (hv : vK K) (hL : ∀ l ∈ L, vL K.length l) :
    F_is_edge [.fz (scD K L), .fz (.tup [.int a, .int j, .int b])] = .ok (.fz (.bl (edgeB K L a j b))) [] := by
  refine fn_rt rfl rfl ?_
  show RT (m_is_edge [.fz (scD K L), .fz (.tup [.int a, .int j, .int b]), .un, .un, .un]) _ _
  by_cases c1 : 0 ≤ j
  · by_cases c2 : j.toNat < L.length
    · obtain ⟨j, rfl⟩ := Int.eq_ofNat_of_zero_le c1
      simp only [Int.toNat_natCast] at c2
      have c3 : (j : Int) < (L.length : Int) := by omega
      have h1 := lk_ok (K := K) c2
      have h2 := mark_ok (K := K) c2
      have hl := hL _ (List.getElem_mem c2)
      have ka := kind_ok (K := K) (L := L) (n := a)
      have kb := kind_ok (K := K) (L := L) (n := b)
      rw [edgeB_in c2]
      generalize L[j] = l at *
      obtain ⟨⟨s1, s2⟩, ⟨u1, u2⟩, hm⟩ := hl
      have es : l.s = (l.s.toNat : Int) := (Int.toNat_of_nonneg s1).symm
      have et : l.t = (l.t.toNat : Int) := (Int.toNat_of_nonneg u1).symm
      have hne : oNeD (.tup [kiD (ko K a), kiD (ko K b)]) (.tup [.int l.s, .int l.t]) = some (.bl (!(decide (a ∈ nds K l.s.toNat) && decide (b ∈ nds K l.t.toNat)))) := by
        unfold oNeD
        rw [if_pos ⟨by simp [lowD, lowDs, low_ki], by simp [lowD, lowDs]⟩]
        have e1 := ko_iff hv (n := a) (i := l.s.toNat)
        have e2 := ko_iff hv (n := b) (i := l.t.toNat)
        rw [es, et]
        simp only [eqD, eqDs, eq_ki, Int.toNat_natCast, Bool.and_true, e1, e2]
      have hmem : decide ((a, b) ∈ letT K l) = ((decide (a ∈ nds K l.s.toNat) && decide (b ∈ nds K l.t.toNat)) && (decide (a = b) || !decide (l.r = t1))) := by
        have := mem_letT (K := K) (l := l) (a := a) (b := b)
        rw [Bool.eq_iff_iff]
        simp only [decide_eq_true_eq, Bool.and_eq_true, Bool.or_eq_true, Bool.not_eq_true', decide_eq_false_iff_not, this]
        constructor
        · rintro ⟨x, y, z⟩; exact ⟨⟨x, y⟩, z.symm⟩
        · rintro ⟨⟨x, y⟩, z⟩; exact ⟨x, y, z.symm⟩
      rw [hmem]
      generalize (decide (a ∈ nds K l.s.toNat) && decide (b ∈ nds K l.t.toNat)) = z at *
      unfold m_is_edge
      cases z with
      | false => simp [sc_2, oLe, oLt, oLen, c3, ka, kb, h1, hne]
      | true =>
        by_cases c4 : a = b
        · subst c4
          simp [sc_2, oLe, oLt, oLen, c3, ka, h1, hne, h2, oEqD_int]
        · simp [sc_2, oLe, oLt, oLen, c3, ka, kb, h1, hne, h2, oEqD_int, c4]
    · have c3 : ¬ j < (L.length : Int) := by omega
      rw [edgeB_hi c2]
      simp [m_is_edge, sc_2, oLe, oLt, oLen, c1, c3]
  · rw [edgeB_lo c1]
    simp [m_is_edge, sc_2, oLe, oLt, oLen, c1]
end Lw

set_option linter.all false
set_option maxRecDepth 10000
set_option maxHeartbeats 1000000
namespace Ml
section
variable {a b : MS} {e e1 : Loc} {Q P : Loc → Prop} {t : ME Bool} {x : Bool}
theorem nx_seq (h : a e = .nx e1) (hb : ∃ e', b e1 = .nx e' ∧ Q e') : ∃ e', sSeq a b e = .nx e' ∧ Q e' := by
  obtain ⟨e', q, hq⟩ := hb
  exact ⟨e', by rw [ev_seq, h]; exact q, hq⟩
theorem nx_seqP (h : ∃ e1, a e = .nx e1 ∧ P e1) (hb : ∀ e1, P e1 → ∃ e', b e1 = .nx e' ∧ Q e') : ∃ e', sSeq a b e = .nx e' ∧ Q e' := by
  obtain ⟨e1, q, hp⟩ := h
  exact nx_seq q (hb e1 hp)
theorem nx_if (h : t e = .ok x e1) (ha : x = true → ∃ e', a e1 = .nx e' ∧ Q e') (hb : x = false → ∃ e', b e1 = .nx e' ∧ Q e') : ∃ e', sIf t a b e = .nx e' ∧ Q e' := by
  cases x with
  | true => obtain ⟨e', q, hq⟩ := ha rfl; exact ⟨e', by rw [if_t h]; exact q, hq⟩
  | false => obtain ⟨e', q, hq⟩ := hb rfl; exact ⟨e', by rw [if_f h]; exact q, hq⟩
theorem nx_nil (h : Q e) : ∃ e', sNil e = .nx e' ∧ Q e' := ⟨e, rfl, h⟩
end
end Ml
namespace Lw
open Ml
/-- what the names must be: signs of a text -/
def isName (s : List Nat) : Bool := s.all fun c => decide (c < 1114112)
theorem draw_eq : F__law_draw = drawF := rfl
theorem pick_eq : F__law_pick = pickF := rfl
theorem rare_eq : F__law_rare = rareF := rfl
section
variable {ns : List Int} {e e1 : Loc} {i : Nat} {j : Option Nat} {ds : List Dv} {ma : ME Dv} {m : Int} {xs : List Dv}
theorem cdraw (hd : Dr ns ds) (he : e[i]? = some (.ow j (.lst ds))) (hm : ma e = .ok (.int m) e) (h1 : 1 ≤ m) (h2 : m < 1073741824) :
    ∃ k ds', mCallD F__law_draw [.own i, .val ma] e = .ok (.int k) (e.set i (.ow j (.lst ds'))) ∧ 0 ≤ k ∧ k < m ∧ Dr ns ds' :=
  call_draw he hd hm he h1 h2
theorem cpick (hd : Dr ns ds) (he : e[i]? = some (.ow j (.lst ds))) (hm : ma e = .ok (.lst xs) e) (h1 : xs ≠ []) (h2 : xs.length < 1073741824) :
    ∃ x ds', mCallD F__law_pick [.own i, .val ma] e = .ok x (e.set i (.ow j (.lst ds'))) ∧ x ∈ xs ∧ Dr ns ds' := by
  obtain ⟨x, ds', h, hx, hd'⟩ := pick_ok hd h1 h2
  exact ⟨x, ds', call_2 he hm he h, hx, hd'⟩
theorem crare (hd : Dr ns ds) (he : e[i]? = some (.ow j (.lst ds))) (hm : ma e = .ok (.int m) e) (h1 : 1 ≤ m) (h2 : m < 1073741824) :
    ∃ b ds', mCallD F__law_rare [.own i, .val ma] e = .ok (.bl b) (e.set i (.ow j (.lst ds'))) ∧ Dr ns ds' := by
  obtain ⟨x, ds', h, hd'⟩ := rare_ok hd h1 h2
  exact ⟨x, ds', call_2 he hm he h, hd'⟩
/-- a list in whose place stands another, x in between -/
theorem pop_ok (hd : Dr ns ds) (h1 : xs ≠ []) (h2 : xs.length < 1000000000) :
    ∃ k ds', ∃ hk : k < xs.length, F__law_pop [.ow none (.lst ds), .ow none (.lst xs)] = .ok (.fz xs[k]) [.lst ds', .lst (xs.eraseIdx k)] ∧ Dr ns ds' := by
  have h1 : 1 ≤ (xs.length : Int) := by
    cases xs with
    | nil => exact absurd rfl h1
    | cons => simp; omega
  obtain ⟨k, ds', h, b1, b2, b3⟩ := cdraw (ns := ns) (ds := ds) (e := [.ow (some 0) (.lst ds), .ow (some 1) (.lst xs)]) (i := 0) (j := some 0) (ma := mOwn 1 wLen) (m := xs.length) hd rfl rfl h1 (by omega)
  obtain ⟨k, rfl⟩ := Int.eq_ofNat_of_zero_le b1
  have hk : k < xs.length := by omega
  refine ⟨k, ds', hk, ?_, b3⟩
  refine fn_ok rfl rfl (e := [.ow (some 0) (.lst ds'), .ow (some 1) (.lst (xs.eraseIdx k))]) ?_ rfl
  simp only [List.set_cons_zero] at h
  have h3 : 0 ≤ (k : Int) ∧ (k : Int) < xs.length ∧ (k : Int) < 1000000000 := by omega
  simp [m__law_pop, initE, mPopAt, isOw, isLs, h, h3, hk, -ev_callD]
end
/-- names used, names left -/
def NM (U P : List (List Nat)) : Prop := U.Nodup ∧ P.Nodup ∧ (∀ u ∈ U, u ∉ P) ∧ (∀ u ∈ U, isName u = true) ∧ ∀ p ∈ P, isName p = true
theorem erase_mem {α : Type} {x : α} : ∀ {l : List α} {k : Nat}, x ∈ l.eraseIdx k → x ∈ l
  | [], _, h => by simp at h
  | a :: l, 0, h => List.mem_cons_of_mem _ h
  | a :: l, k + 1, h => by
    rw [List.eraseIdx_cons_succ] at h
    rcases List.mem_cons.mp h with h | h
    · exact h ▸ List.mem_cons_self
    · exact List.mem_cons_of_mem _ (erase_mem h)
theorem erase_not {α : Type} : ∀ {l : List α} {k : Nat} (hk : k < l.length), l.Nodup → l[k] ∉ l.eraseIdx k
  | [], _, hk, _ => by simp at hk
  | a :: l, 0, _, h => by
    have := (List.nodup_cons.mp h).1
    simpa using this
  | a :: l, k + 1, hk, h => by
    have h2 := List.nodup_cons.mp h
    have hk' : k < l.length := by simpa using hk
    simp only [List.getElem_cons_succ, List.eraseIdx_cons_succ, List.mem_cons, not_or]
    exact ⟨fun e => h2.1 (e ▸ List.getElem_mem hk'), erase_not hk' h2.2⟩
theorem erase_nd {α : Type} : ∀ {l : List α} {k : Nat}, l.Nodup → (l.eraseIdx k).Nodup
  | [], _, h => by simp
  | a :: l, 0, h => (List.nodup_cons.mp h).2
  | a :: l, k + 1, h => by
    have h2 := List.nodup_cons.mp h
    rw [List.eraseIdx_cons_succ]
    exact List.nodup_cons.mpr ⟨fun e => h2.1 (erase_mem e), erase_nd h2.2⟩
theorem erase_map {α β : Type} (f : α → β) : ∀ {l : List α} {k : Nat}, (l.map f).eraseIdx k = (l.eraseIdx k).map f
  | [], _ => by simp
  | a :: l, 0 => rfl
  | a :: l, k + 1 => by simp only [List.map_cons, List.eraseIdx_cons_succ, erase_map f]
theorem NM_pop {U P : List (List Nat)} {k : Nat} (h : NM U P) (hk : k < P.length) : NM (U ++ [P[k]]) (P.eraseIdx k) := by
  obtain ⟨a, b, c, d, f⟩ := h
  have hm := List.getElem_mem hk
  refine ⟨?_, erase_nd b, ?_, ?_, fun p hp => f p (erase_mem hp)⟩
  · rw [List.nodup_append]
    exact ⟨a, by simp, fun x hx y hy e => by
      simp only [List.mem_singleton] at hy
      subst hy; subst e
      exact c _ hx hm⟩
  · intro u hu
    rcases List.mem_append.mp hu with hu | hu
    · exact fun h => c u hu (erase_mem h)
    · simp only [List.mem_singleton] at hu
      subst hu
      exact erase_not hk b
  · intro u hu
    rcases List.mem_append.mp hu with hu | hu
    · exact d u hu
    · simp only [List.mem_singleton] at hu
      subst hu
      exact f _ hm
def poolL : List (List Nat) := splitN 32 [] (t15 ++ t16)
theorem pool_ok : F__law_pool [] = .ok (.ow none (.lst (poolL.map .str))) [] := by
  refine fn_rt rfl rfl ?_
  show RT (m__law_pool [.un]) _ _
  have h1 : oAdd (.str t15) (.str t16) = some (.str (t15 ++ t16)) := by
    have : t15.length + t16.length ≤ lim := by decide
    simp [oAdd, this]
  have h2 : oSplit (t15 ++ t16) (.str t17) = some (poolL.map .str) := by
    have : (32 : Nat) < 128 ∧ (t15 ++ t16).length + 2 ≤ lim := by decide
    simp only [oSplit, t17, this, and_self, if_true]; rfl
  simp [m__law_pool, h1, mM1N, h2]
theorem pool_len : poolL.length = 51 := by decide
theorem pool_nm : NM [] poolL := ⟨List.nodup_nil, (by decide : poolL.Nodup), fun _ h => absurd h List.not_mem_nil, fun _ h => absurd h List.not_mem_nil, by decide⟩
def gdL (m : Nat) (l : Lb) : Prop := vL m l ∧ 0 ≤ l.p ∧ l.p ≤ 9 ∧ l.r ∈ rules
/-- what _law_schema makes -/
def Gd (qq : Int) (m n : Nat) (K : List Kd) (L : List Lb) : Prop := K.length = m ∧ L.length = n ∧ (K.map (·.1) ++ L.map (·.n)).Nodup ∧ (∀ s ∈ K.map (·.1) ++ L.map (·.n), isName s = true) ∧ (∀ k ∈ K, 1 ≤ k.2 ∧ k.2 ≤ qq) ∧ ∀ l ∈ L, gdL m l
section
variable {ns : List Int}
def S1 (qq : Int) (m n : Nat) (ds : List Dv) (P : List (List Nat)) (K : List Kd) (x : Slt) : Loc := [.ow (some 0) (.lst ds), .fz (.int m), .fz (.int n), .fz (.int qq), .ow none (.lst (P.map .str)), .ow none (.lst (K.map kD)), x, .un, .un, .un, .un, .un, .un]
def S2 (qq : Int) (m n : Nat) (ds : List Dv) (P : List (List Nat)) (K : List Kd) (L : List Lb) (x x8 x9 x10 x11 x12 : Slt) : Loc := [.ow (some 0) (.lst ds), .fz (.int m), .fz (.int n), .fz (.int qq), .ow none (.lst (P.map .str)), .fz (.lst (K.map kD)), x, .ow none (.lst (L.map lD)), x8, x9, x10, x11, x12]
theorem cpop {ds : List Dv} {P : List (List Nat)} {e : Loc} {j : Option Nat} (hd : Dr ns ds) (he : e[0]? = some (.ow j (.lst ds))) (he4 : e[4]? = some (.ow none (.lst (P.map .str)))) (h1 : 1 ≤ P.length) (h2 : P.length ≤ 51) :
    ∃ k ds', ∃ hk : k < P.length, mCallD F__law_pop [.own 0, .own 4] e = .ok (.str P[k]) ((e.set 0 (.ow j (.lst ds'))).set 4 (.ow none (.lst ((P.eraseIdx k).map .str)))) ∧ Dr ns ds' := by
  obtain ⟨k, ds', hk, h, hd'⟩ := pop_ok (xs := P.map Dv.str) hd (by cases P <;> simp at h1 ⊢) (by simp; omega)
  have hk' : k < P.length := by simpa using hk
  refine ⟨k, ds', hk', ?_, hd'⟩
  have hl0 : 4 < e.length := (List.getElem?_eq_some_iff.mp he4).1
  have e4 : (e.set 0 (.ow j (.lst ds')))[4]? = some (.ow none (.lst (P.map .str))) := by rw [List.getElem?_set_ne (by decide)]; exact he4
  rw [erase_map] at h
  simp only [mCallD, mCall, mAs, he, isOw, if_true, he4, Rs.bind_ok, owns, resolve, Option.map_some, h, List.nodup_cons, List.mem_cons, List.not_mem_nil, or_false, not_false_eq_true, List.nodup_nil, and_self, wback, putO, e4]
  simp [Rs.of, putO]
theorem rows_step {qq : Int} {m n : Nat} {ds : List Dv} {P : List (List Nat)} {K : List Kd} {x : Slt} {N : Nat} (hd : Dr ns ds) (hn : NM (K.map (·.1)) P) (hP : P.length + K.length = 51) (hq : 1 ≤ qq ∧ qq ≤ 24) (hK : K.length ≤ 20) :
    ∃ e', (sApp 5 (mTup [(mCallD F__law_pop [.own 0, .own 4]), (mO2 oAdd (mC (.int 1)) (mCallD F__law_draw [.own 0, .val (mVar 3)]))])) (S1 qq m n ds P K x) = .nx e' ∧
      ∃ ds' P' k, e' = S1 qq m n ds' P' (K ++ [k]) x ∧ Dr ns ds' ∧ NM ((K ++ [k]).map (·.1)) P' ∧ P'.length + (K ++ [k]).length = 51 ∧ 1 ≤ k.2 ∧ k.2 ≤ qq := by
  obtain ⟨i, ds1, hi, h1, hd1⟩ := cpop (ns := ns) (P := P) (e := S1 qq m n ds P K x) hd rfl rfl (by omega) (by omega)
  have e1 : ((S1 qq m n ds P K x).set 0 (.ow (some 0) (.lst ds1))).set 4 (.ow none (.lst ((P.eraseIdx i).map .str))) = S1 qq m n ds1 (P.eraseIdx i) K x := rfl
  rw [e1] at h1
  obtain ⟨q, ds2, h2, q1, q2, hd2⟩ := cdraw (ns := ns) (ds := ds1) (e := S1 qq m n ds1 (P.eraseIdx i) K x) (i := 0) (j := some 0) (ma := mVar 3) (m := qq) hd1 rfl rfl (by omega) (by omega)
  have e2 : (S1 qq m n ds1 (P.eraseIdx i) K x).set 0 (.ow (some 0) (.lst ds2)) = S1 qq m n ds2 (P.eraseIdx i) K x := rfl
  rw [e2] at h2
  refine ⟨S1 qq m n ds2 (P.eraseIdx i) (K ++ [(P[i], 1 + q)]) x, ?_, ds2, P.eraseIdx i, (P[i], 1 + q), rfl, hd2, ?_, ?_, by omega, by omega⟩
  · have hl : K.length < lim := by have := limv; omega
    have : isLs (S1 qq m n ds P K x)[5]? = true := rfl
    rw [ev_app, if_pos this]
    simp only [ev_tup, ev_args1, ev_args0, h1, Rs.bind_ok, ev_O2, ev_C, h2, oAdd, Rs.of_some, List.length_cons, List.length_nil]
    simp [S1, hl, kD]
  · have := NM_pop hn hi
    simpa using this
  · simp [List.length_eraseIdx, hi]; omega
theorem told_step {qq : Int} {m n : Nat} {ds : List Dv} {P : List (List Nat)} {K : List Kd} {L : List Lb} {x x8 x9 x10 x11 x12 : Slt} (f8 : free (some x8) = true) (f9 : free (some x9) = true) (f10 : free (some x10) = true) (f11 : free (some x11) = true) (f12 : free (some x12) = true)
    (hm : 1 ≤ m ∧ m ≤ 6) (hd : Dr ns ds) (hn : NM (K.map (·.1) ++ L.map (·.n)) P) (hP : P.length + (K.length + L.length) = 51) (hK : K.length + L.length ≤ 20) :
    ∃ e', (sSeq (sSet (mCallD F__law_draw [.own 0, .val (mVar 1)]) (gN 8))
  (sSeq (sSet (mCallD F__law_draw [.own 0, .val (mVar 1)]) (gN 9))
  (sSeq (sSet (mCallD F__law_draw [.own 0, .val (mC (.int 10))]) (gN 10))
  (sSeq (sSet (mC (.str t18)) (gN 11))
  (sSeq (sIf (mTest (mO2 oIn (mVar 10) (mTup [(mC (.int 3)), (mC (.int 4))])))
  (sSet (mC (.str t0)) (gN 11))
  sNil)
  (sSeq (sIf (mTest (mO2 oEq (mVar 10) (mC (.int 7))))
  (sSeq (sSet (mC (.str t1)) (gN 11))
  (sSet (mVar 8) (gN 9)))
  sNil)
  (sSeq (sSet (mO2 oAdd (mC (.int 1)) (mCallD F__law_draw [.own 0, .val (mC (.int 4))])) (gN 12))
  (sSeq (sIf (mTest (mO2 oEq (mCallD F__law_draw [.own 0, .val (mC (.int 9))]) (mC (.int 5))))
  (sSet (mC (.int 0)) (gN 12))
  sNil)
  (sSeq (sIf (mTruth (mCallD F__law_rare [.own 0, .val (mC (.int 9))]))
  (sSet (mC (.int 9)) (gN 12))
  sNil)
  (sApp 7 (mTup [(mCallD F__law_pop [.own 0, .own 4]), (mVar 8), (mVar 9), (mVar 12), (mVar 11)]))))))))))) (S2 qq m n ds P K L x x8 x9 x10 x11 x12) = .nx e' ∧
      ∃ ds' P' l y8 y9 y10 y11 y12, e' = S2 qq m n ds' P' K (L ++ [l]) x y8 y9 y10 y11 y12 ∧ (free (some y8) = true ∧ free (some y9) = true ∧ free (some y10) = true ∧ free (some y11) = true ∧ free (some y12) = true) ∧ Dr ns ds' ∧ NM (K.map (·.1) ++ (L ++ [l]).map (·.n)) P' ∧ P'.length + (K.length + (L ++ [l]).length) = 51 ∧ gdL m l := by
  obtain ⟨s, ds1, h1, s1, s2, hd1⟩ := cdraw (ns := ns) (ds := ds) (e := S2 qq m n ds P K L x x8 x9 x10 x11 x12) (i := 0) (j := some 0) (ma := mVar 1) (m := m) hd rfl rfl (by omega) (by omega)
  refine nx_seq (e1 := S2 qq m n ds1 P K L x (.fz (.int s)) x9 x10 x11 x12) (by rw [ev_set, h1]; simp [S2, f8]) ?_
  obtain ⟨t, ds2, h2, u1, u2, hd2⟩ := cdraw (ns := ns) (ds := ds1) (e := S2 qq m n ds1 P K L x (.fz (.int s)) x9 x10 x11 x12) (i := 0) (j := some 0) (ma := mVar 1) (m := m) hd1 rfl rfl (by omega) (by omega)
  refine nx_seq (e1 := S2 qq m n ds2 P K L x (.fz (.int s)) (.fz (.int t)) x10 x11 x12) (by rw [ev_set, h2]; simp [S2, f9]) ?_
  obtain ⟨w, ds3, h3, w1, w2, hd3⟩ := cdraw (ns := ns) (ds := ds2) (e := S2 qq m n ds2 P K L x (.fz (.int s)) (.fz (.int t)) x10 x11 x12) (i := 0) (j := some 0) (ma := mC (.int 10)) (m := 10) hd2 rfl rfl (by omega) (by omega)
  refine nx_seq (e1 := S2 qq m n ds3 P K L x (.fz (.int s)) (.fz (.int t)) (.fz (.int w)) x11 x12) (by rw [ev_set, h3]; simp [S2, f10]) ?_
  refine nx_seq (e1 := S2 qq m n ds3 P K L x (.fz (.int s)) (.fz (.int t)) (.fz (.int w)) (.fz (.str t18)) x12) (by simp [S2, f11]) ?_
  refine nx_seqP (P := fun e => ∃ r, (r = t18 ∨ r = t0) ∧ e = S2 qq m n ds3 P K L x (.fz (.int s)) (.fz (.int t)) (.fz (.int w)) (.fz (.str r)) x12) ?_ ?_
  · refine nx_if (x := (w == 3 || w == 4)) (e1 := S2 qq m n ds3 P K L x (.fz (.int s)) (.fz (.int t)) (.fz (.int w)) (.fz (.str t18)) x12) ?_ ?_ ?_
    · have : oIn (.int w) (.tup [.int 3, .int 4]) = some (.bl (w == 3 || w == 4)) := by
        simp [oIn, seqD, flatD, eqF, Bool.beq_comm (a := w), BEq.comm (a := w)]
      simp [S2, this]
    · intro _; exact ⟨_, by simp [S2], t0, .inr rfl, rfl⟩
    · intro _; exact nx_nil ⟨t18, .inl rfl, rfl⟩
  rintro _ ⟨r, hr, rfl⟩
  refine nx_seqP (P := fun e => ∃ r t, r ∈ rules ∧ (0 ≤ t ∧ t < (m : Int)) ∧ (r = t1 → s = t) ∧ e = S2 qq m n ds3 P K L x (.fz (.int s)) (.fz (.int t)) (.fz (.int w)) (.fz (.str r)) x12) ?_ ?_
  · refine nx_if (x := decide (w = 7)) (e1 := S2 qq m n ds3 P K L x (.fz (.int s)) (.fz (.int t)) (.fz (.int w)) (.fz (.str r)) x12) ?_ ?_ ?_
    · simp [S2, oEq, eqS]
    · intro _; exact ⟨_, by simp [S2], t1, s, by simp [rules], ⟨s1, s2⟩, fun _ => rfl, rfl⟩
    · intro _
      refine nx_nil ⟨r, t, ?_, ⟨u1, u2⟩, fun h => ?_, rfl⟩
      · rcases hr with rfl | rfl <;> simp [rules]
      · rcases hr with rfl | rfl
        · exact absurd h (by decide)
        · exact absurd h (by decide)
  rintro _ ⟨r, t, hr, ht, hrt, rfl⟩
  obtain ⟨p, ds4, h4, p1, p2, hd4⟩ := cdraw (ns := ns) (ds := ds3) (e := S2 qq m n ds3 P K L x (.fz (.int s)) (.fz (.int t)) (.fz (.int w)) (.fz (.str r)) x12) (i := 0) (j := some 0) (ma := mC (.int 4)) (m := 4) hd3 rfl rfl (by omega) (by omega)
  refine nx_seq (e1 := S2 qq m n ds4 P K L x (.fz (.int s)) (.fz (.int t)) (.fz (.int w)) (.fz (.str r)) (.fz (.int (1 + p)))) (by rw [ev_set, ev_O2, ev_C, Rs.bind_ok, h4]; simp [S2, f12, oAdd]) ?_
  obtain ⟨k5, ds5, h5, _, _, hd5⟩ := cdraw (ns := ns) (ds := ds4) (e := S2 qq m n ds4 P K L x (.fz (.int s)) (.fz (.int t)) (.fz (.int w)) (.fz (.str r)) (.fz (.int (1 + p)))) (i := 0) (j := some 0) (ma := mC (.int 9)) (m := 9) hd4 rfl rfl (by omega) (by omega)
  refine nx_seqP (P := fun e => ∃ p, (0 ≤ p ∧ p ≤ 9) ∧ e = S2 qq m n ds5 P K L x (.fz (.int s)) (.fz (.int t)) (.fz (.int w)) (.fz (.str r)) (.fz (.int p))) ?_ ?_
  · refine nx_if (x := decide (k5 = 5)) (e1 := S2 qq m n ds5 P K L x (.fz (.int s)) (.fz (.int t)) (.fz (.int w)) (.fz (.str r)) (.fz (.int (1 + p)))) ?_ ?_ ?_
    · rw [ev_test, ev_O2, h5]; simp [S2, oEq, eqS]
    · intro _; exact ⟨_, by simp [S2], 0, by omega, rfl⟩
    · intro _; exact nx_nil ⟨1 + p, by omega, rfl⟩
  rintro _ ⟨p, hp, rfl⟩
  obtain ⟨b6, ds6, h6, hd6⟩ := crare (ns := ns) (ds := ds5) (e := S2 qq m n ds5 P K L x (.fz (.int s)) (.fz (.int t)) (.fz (.int w)) (.fz (.str r)) (.fz (.int p))) (i := 0) (j := some 0) (ma := mC (.int 9)) (m := 9) hd5 rfl rfl (by omega) (by omega)
  refine nx_seqP (P := fun e => ∃ p, (0 ≤ p ∧ p ≤ 9) ∧ e = S2 qq m n ds6 P K L x (.fz (.int s)) (.fz (.int t)) (.fz (.int w)) (.fz (.str r)) (.fz (.int p))) ?_ ?_
  · refine nx_if (x := b6) (e1 := S2 qq m n ds6 P K L x (.fz (.int s)) (.fz (.int t)) (.fz (.int w)) (.fz (.str r)) (.fz (.int p))) ?_ ?_ ?_
    · rw [ev_truth, h6]; simp [S2, truthD]
    · intro _; exact ⟨_, by simp [S2], 9, by omega, rfl⟩
    · intro _; exact nx_nil ⟨p, by omega, rfl⟩
  rintro _ ⟨p, hp, rfl⟩
  obtain ⟨i, ds7, hi, h7, hd7⟩ := cpop (ns := ns) (P := P) (e := S2 qq m n ds6 P K L x (.fz (.int s)) (.fz (.int t)) (.fz (.int w)) (.fz (.str r)) (.fz (.int p))) hd6 rfl rfl (by omega) (by omega)
  refine ⟨S2 qq m n ds7 (P.eraseIdx i) K (L ++ [⟨P[i], s, t, p, r⟩]) x (.fz (.int s)) (.fz (.int t)) (.fz (.int w)) (.fz (.str r)) (.fz (.int p)), ?_, ds7, P.eraseIdx i, ⟨P[i], s, t, p, r⟩, _, _, _, _, _, rfl, ⟨rfl, rfl, rfl, rfl, rfl⟩, hd7, ?_, ?_, ⟨⟨⟨s1, s2⟩, ht, hrt⟩, hp.1, hp.2, hr⟩⟩
  · have hl : L.length < lim := by have := limv; omega
    rw [ev_app, if_pos (by rfl)]
    simp only [ev_tup, ev_args1, ev_args0, h7, Rs.bind_ok]
    simp [S2, hl, lD]
  · have := NM_pop hn hi
    simpa [List.append_assoc] using this
  · simp [List.length_eraseIdx, hi]; omega
theorem schema_ok {qq : Int} {m n : Nat} {ds : List Dv} (hq : 1 ≤ qq ∧ qq ≤ 24) (hm : 1 ≤ m ∧ m ≤ 6) (hn : n ≤ 12) (hd : Dr ns ds) :
    ∃ K L ds', F__law_schema [.ow none (.lst ds), .fz (.int m), .fz (.int n), .fz (.int qq)] = .ok (.fz (scD K L)) [.lst ds'] ∧ Dr ns ds' ∧ Gd qq m n K L := by
  obtain ⟨e1, q1, ds1, P1, K, x1, rfl, hx1, hd1, n1, l1, hK, hc⟩ := loop_inv (g := gN 6) (b := (sApp 5 (mTup [(mCallD F__law_pop [.own 0, .own 4]), (mO2 oAdd (mC (.int 1)) (mCallD F__law_draw [.own 0, .val (mVar 3)]))])))
    (ds := (List.range m).map fun (k : Nat) => Dv.int (k : Int)) (e := S1 qq m n ds poolL [] .un)
    (fun k e => ∃ ds P K x, e = S1 qq m n ds P K x ∧ free (some x) = true ∧ Dr ns ds ∧ NM (K.map (·.1)) P ∧ P.length + K.length = 51 ∧ K.length = k ∧ ∀ k ∈ K, 1 ≤ k.2 ∧ k.2 ≤ qq)
    ⟨ds, poolL, [], .un, rfl, rfl, hd, pool_nm, by rw [pool_len]; rfl, rfl, by simp⟩
    (fun k d e hk he => by
      obtain ⟨ds, P, K, x, rfl, hx, hd, hn, hl, hK, hc⟩ := he
      have hkm : k < m := by
        have := (List.getElem?_eq_some_iff.mp hk).1
        simpa using this
      obtain ⟨e', q, ds', P', k', rfl, hd', hn', hl', k1, k2⟩ := rows_step (ns := ns) (m := m) (n := n) (x := .fz d) (N := 0) hd hn hl hq (by omega)
      refine ⟨S1 qq m n ds P K (.fz d), _, by simp [S1, hx], .inl q, ds', P', _, _, rfl, rfl, hd', hn', hl', by simp [hK], ?_⟩
      intro y hy
      rcases List.mem_append.mp hy with hy | hy
      · exact hc y hy
      · simp only [List.mem_singleton] at hy; subst hy; exact ⟨k1, k2⟩)
  simp only [List.length_map, List.length_range] at hK
  obtain ⟨e2, q2, ds2, P2, L, x2, y8, y9, y10, y11, y12, rfl, hx2, ⟨f8, f9, f10, f11, f12⟩, hd2, n2, l2, hL, hg⟩ := loop_inv (g := gN 6) (b := (sSeq (sSet (mCallD F__law_draw [.own 0, .val (mVar 1)]) (gN 8))
  (sSeq (sSet (mCallD F__law_draw [.own 0, .val (mVar 1)]) (gN 9))
  (sSeq (sSet (mCallD F__law_draw [.own 0, .val (mC (.int 10))]) (gN 10))
  (sSeq (sSet (mC (.str t18)) (gN 11))
  (sSeq (sIf (mTest (mO2 oIn (mVar 10) (mTup [(mC (.int 3)), (mC (.int 4))])))
  (sSet (mC (.str t0)) (gN 11))
  sNil)
  (sSeq (sIf (mTest (mO2 oEq (mVar 10) (mC (.int 7))))
  (sSeq (sSet (mC (.str t1)) (gN 11))
  (sSet (mVar 8) (gN 9)))
  sNil)
  (sSeq (sSet (mO2 oAdd (mC (.int 1)) (mCallD F__law_draw [.own 0, .val (mC (.int 4))])) (gN 12))
  (sSeq (sIf (mTest (mO2 oEq (mCallD F__law_draw [.own 0, .val (mC (.int 9))]) (mC (.int 5))))
  (sSet (mC (.int 0)) (gN 12))
  sNil)
  (sSeq (sIf (mTruth (mCallD F__law_rare [.own 0, .val (mC (.int 9))]))
  (sSet (mC (.int 9)) (gN 12))
  sNil)
  (sApp 7 (mTup [(mCallD F__law_pop [.own 0, .own 4]), (mVar 8), (mVar 9), (mVar 12), (mVar 11)]))))))))))))
    (ds := (List.range n).map fun (k : Nat) => Dv.int (k : Int)) (e := S2 qq m n ds1 P1 K [] x1 .un .un .un .un .un)
    (fun k e => ∃ ds P L x y8 y9 y10 y11 y12, e = S2 qq m n ds P K L x y8 y9 y10 y11 y12 ∧ free (some x) = true ∧ (free (some y8) = true ∧ free (some y9) = true ∧ free (some y10) = true ∧ free (some y11) = true ∧ free (some y12) = true) ∧ Dr ns ds ∧ NM (K.map (·.1) ++ L.map (·.n)) P ∧ P.length + (K.length + L.length) = 51 ∧ L.length = k ∧ ∀ l ∈ L, gdL m l)
    ⟨ds1, P1, [], x1, .un, .un, .un, .un, .un, rfl, hx1, ⟨rfl, rfl, rfl, rfl, rfl⟩, hd1, by simpa using n1, by simpa using l1, rfl, by simp⟩
    (fun k d e hk he => by
      obtain ⟨ds, P, L, x, y8, y9, y10, y11, y12, rfl, hx, ⟨f8, f9, f10, f11, f12⟩, hd, hn', hl, hL, hg⟩ := he
      have hkm : k < n := by
        have := (List.getElem?_eq_some_iff.mp hk).1
        simpa using this
      obtain ⟨e', q, ds', P', l', z8, z9, z10, z11, z12, rfl, fz, hd', hn', hl', g⟩ := told_step (ns := ns) (m := m) (n := n) (x := .fz d) f8 f9 f10 f11 f12 hm hd hn' hl (by omega)
      refine ⟨S2 qq m n ds P K L (.fz d) y8 y9 y10 y11 y12, _, by simp [S2, hx], .inl q, ds', P', _, _, _, _, _, _, _, rfl, rfl, fz, hd', hn', hl', by simp [hL], ?_⟩
      intro y hy
      rcases List.mem_append.mp hy with hy | hy
      · exact hg y hy
      · simp only [List.mem_singleton] at hy; subst hy; exact g)
  simp only [List.length_map, List.length_range] at hL
  refine ⟨K, L, ds2, ?_, hd2, hK, hL, n2.1, n2.2.2.2.1, hc, hg⟩
  refine fn_ok rfl rfl (e := [.ow (some 0) (.lst ds2), .fz (.int m), .fz (.int n), .fz (.int qq), .ow none (.lst (P2.map .str)), .fz (.lst (K.map kD)), x2, .fz (.lst (L.map lD)), y8, y9, y10, y11, y12]) ?_ rfl
  have rm : itR 0 (m : Int) = some ((List.range m).map fun (j : Nat) => Dv.int (j : Int)) := itR_nat (by omega)
  have rn : itR 0 (n : Int) = some ((List.range n).map fun (j : Nat) => Dv.int (j : Int)) := itR_nat (by omega)
  show m__law_schema [.ow (some 0) (.lst ds), .fz (.int m), .fz (.int n), .fz (.int qq), .un, .un, .un, .un, .un, .un, .un, .un, .un] = _
  unfold m__law_schema
  simp only [ev_seq, ev_setO, ev_callO, call_f0, pool_ok, Rs.bind_ok, Rs.go_ok, List.getElem?_cons_succ, List.getElem?_cons_zero, ev_free1, if_true, List.set_cons_succ, List.set_cons_zero, Sr.then_nx, ev_lst, ev_args0, List.length_nil, Nat.zero_le, ev_for, ev_rg1, ev_var, rm, Rs.of_some]
  rw [show ([.ow (some 0) (.lst ds), .fz (.int m), .fz (.int n), .fz (.int qq), .ow none (.lst (poolL.map .str)), .ow none (.lst []), .un, .un, .un, .un, .un, .un, .un] : Loc) = S1 qq m n ds poolL [] .un from rfl, q1]
  simp only [Sr.then_nx, ev_frz, S1, ev_seq, ev_setO, Rs.go_ok, List.getElem?_cons_succ, List.getElem?_cons_zero, ev_free1, if_true, List.set_cons_succ, List.set_cons_zero, ev_lst, ev_args0, Rs.bind_ok, List.length_nil, Nat.zero_le, ev_for, ev_rg1, ev_var, rn, Rs.of_some]
  rw [show ([.ow (some 0) (.lst ds1), .fz (.int m), .fz (.int n), .fz (.int qq), .ow none (.lst (P1.map .str)), .fz (.lst (K.map kD)), x1, .ow none (.lst []), .un, .un, .un, .un, .un] : Loc) = S2 qq m n ds1 P1 K [] x1 .un .un .un .un .un from rfl, q2]
  simp [S2, oTup, scD]
end
end Lw

set_option linter.all false
set_option maxRecDepth 10000
set_option maxHeartbeats 1000000
namespace Lw
open Ml
abbrev E3 := Int × Int × Int
def eD (e : E3) : Dv := .tup [.int e.1, .int e.2.1, .int e.2.2]
def gD (G : List E3) : Dv := .tup (G.map eD)
def rvD (o : Option E3) : Dv := match o with
  | none => .non
  | some e => eD e
def isSg (L : List Lb) (j : Int) : Bool := (L[j.toNat]?.map fun l => decide (l.r = t0)).getD false
def near (e o : E3) : Bool := (decide (o.1 = e.1) && decide (o.2.1 = e.2.1)) && !decide (o = e)
def rival (L : List Lb) (G : List E3) (e : E3) : Option E3 := if isSg L e.2.1 = true then G.find? (near e) else none
theorem eD_low {n : Nat} (e : E3) : lowD (n + 1) (eD e) = true := by simp [eD, lowD, lowDs]
theorem eqD_eD (a b : E3) : eqD (eD a) (eD b) = decide (a = b) := by
  obtain ⟨a1, a2, a3⟩ := a; obtain ⟨b1, b2, b3⟩ := b
  simp [eD, eqD, eqDs, eqF, beqI]
theorem oNe_eD (a b : E3) : oNeD (eD a) (eD b) = some (.bl (!decide (a = b))) := by
  unfold oNeD
  rw [if_pos ⟨eD_low a, eD_low b⟩, eqD_eD]
theorem oEq_eD (a b : E3) : oEqD (eD a) (eD b) = some (.bl (decide (a = b))) := by
  unfold oEqD
  rw [if_pos ⟨eD_low a, eD_low b⟩, eqD_eD]
theorem place_eD (e : E3) : slT (eD e) none (some 2) = some (.tup [.int e.1, .int e.2.1]) := rfl
theorem oEq_place (a b : E3) : oEqD (.tup [.int a.1, .int a.2.1]) (.tup [.int b.1, .int b.2.1]) = some (.bl (decide (a.1 = b.1) && decide (a.2.1 = b.2.1))) := by
  unfold oEqD
  rw [if_pos ⟨by simp [lowD, lowDs], by simp [lowD, lowDs]⟩]
  simp [eqD, eqDs, eqF, beqI]
theorem ix0 (e : E3) : oIx (eD e) (.int 0) = some (.int e.1) := rfl
theorem ix1 (e : E3) : oIx (eD e) (.int 1) = some (.int e.2.1) := rfl
theorem ix2 (e : E3) : oIx (eD e) (.int 2) = some (.int e.2.2) := rfl
theorem isSg_in {L : List Lb} {j : Nat} (h : j < L.length) : isSg L j = decide (L[j].r = t0) := by simp [isSg, h]
theorem single_ok {K : List Kd} {L : List Lb} {j : Nat} (h : j < L.length) : F_is_single [.fz (scD K L), .fz (.int j)] = .ok (.fz (.bl (isSg L j))) [] := by
  rw [isSg_in h]
  refine fn_rt rfl rfl ?_
  show RT (m_is_single [.fz (scD K L), .fz (.int j)]) _ _
  have : ∀ a b c d e : Dv, oIx (.tup [a, b, c, d, e]) (.int 4) = some e := fun _ _ _ _ _ => rfl
  simp [m_is_single, sc_2, ix_l h, this, oEq, eqS]
theorem price_ok {K : List Kd} {L : List Lb} {j : Nat} (h : j < L.length) : F_label_price [.fz (scD K L), .fz (.int j)] = .ok (.fz (.int L[j].p)) [] := by
  refine fn_rt rfl rfl ?_
  show RT (m_label_price [.fz (scD K L), .fz (.int j)]) _ _
  have : ∀ a b c d e : Dv, oIx (.tup [a, b, c, d, e]) (.int 3) = some d := fun _ _ _ _ _ => rfl
  simp [m_label_price, sc_2, ix_l h, this]
theorem firm_ok {K : List Kd} {L : List Lb} {j : Nat} (h : j < L.length) : F_is_firm [.fz (scD K L), .fz (.int j)] = .ok (.fz (.bl (decide (L[j].p = 0)))) [] := by
  refine fn_rt rfl rfl ?_
  show RT (m_is_firm [.fz (scD K L), .fz (.int j)]) _ _
  have := price_ok (K := K) h
  simp [m_is_firm, this, oEq, eqS]
theorem lname_ok {K : List Kd} {L : List Lb} {j : Nat} (h : j < L.length) : F_label_name [.fz (scD K L), .fz (.int j)] = .ok (.fz (.str L[j].n)) [] := by
  refine fn_rt rfl rfl ?_
  show RT (m_label_name [.fz (scD K L), .fz (.int j)]) _ _
  have : ∀ a b c d e : Dv, oIx (.tup [a, b, c, d, e]) (.int 0) = some a := fun _ _ _ _ _ => rfl
  simp [m_label_name, sc_2, ix_l h, this]
/-- a loop for the first edge that fits -/
theorem find_lp {P : E3 → Bool} {b : MS} {a c d : Slt} (hb : ∀ o : E3, b [a, c, d, .fz (eD o)] = if P o = true then .rt (.fz (eD o)) [a, c, d, .fz (eD o)] else .nx [a, c, d, .fz (eD o)]) :
    ∀ {G : List E3} {x : Slt}, free (some x) = true → ∃ x', loop (gN 3) b (G.map eD) [a, c, d, x] = match G.find? P with | none => .nx [a, c, d, x'] | some o => .rt (.fz (eD o)) [a, c, d, x']
  | [], x, _ => ⟨x, rfl⟩
  | o :: G, x, hx => by
    have hg : gN 3 (eD o) [a, c, d, x] = some [a, c, d, .fz (eD o)] := by simp [hx]
    simp only [List.map_cons, loop, hg, hb, List.find?_cons]
    cases hp : P o with
    | true => exact ⟨.fz (eD o), by simp⟩
    | false =>
      obtain ⟨x', q⟩ := find_lp hb (G := G) (x := .fz (eD o)) rfl
      exact ⟨x', by simpa using q⟩
theorem rival_ok {K : List Kd} {L : List Lb} {G : List E3} {e : E3} (h0 : 0 ≤ e.2.1) (h1 : e.2.1.toNat < L.length) : F_rival_of [.fz (scD K L), .fz (gD G), .fz (eD e)] = .ok (.fz (rvD (rival L G e))) [] := by
  refine fn_rt rfl rfl ?_
  show RT (m_rival_of [.fz (scD K L), .fz (gD G), .fz (eD e), .un]) _ _
  have hs := single_ok (K := K) h1
  rw [Int.toNat_of_nonneg h0] at hs
  obtain ⟨x', q⟩ := find_lp (P := near e) (b := (sIf (mAnd (mTest (mO2 oEqD (mSl slT (mVar 3) none (some (mC (.int 2)))) (mSl slT (mVar 2) none (some (mC (.int 2)))))) (mTest (mO2 oNeD (mVar 3) (mVar 2)))) (sRet (mVar 3)) sNil))
    (a := .fz (scD K L)) (c := .fz (gD G)) (d := .fz (eD e)) (fun o => by
      have e1 := oEq_place o e
      have e2 := oNe_eD o e
      unfold near
      cases h : (decide (o.1 = e.1) && decide (o.2.1 = e.2.1)) with
      | false => rw [h] at e1; simp [place_eD, e1]
      | true =>
        rw [h] at e1
        cases h2 : decide (o = e) with
        | false => rw [h2] at e2; simp [place_eD, e1, e2]
        | true => rw [h2] at e2; simp [place_eD, e1, e2]) (G := G) (x := .un) rfl
  unfold rival
  unfold m_rival_of
  simp only [ev_seq, ev_if, ev_truth, ev_callD, call_f2, ev_var, ev_O2, ev_C, List.getElem?_cons_zero, List.getElem?_cons_succ, Rs.bind_ok, ix1, Rs.of_some, hs, truthD, Rs.go_ok]
  cases isSg L e.2.1 with
  | false => simp [rvD]
  | true =>
    simp only [if_true, ev_for, ev_it, ev_var, List.getElem?_cons_zero, List.getElem?_cons_succ, Rs.bind_ok, gD, itT, Rs.of_some, Rs.go_ok]
    rw [show ([.fz (scD K L), .fz (.tup (G.map eD)), .fz (eD e), .un] : Loc) = [.fz (scD K L), .fz (gD G), .fz (eD e), .un] from rfl, q]
    cases G.find? (near e) with
    | none => simp [rvD]
    | some o => simp [rvD]
end Lw

set_option linter.all false
set_option maxRecDepth 10000
set_option maxHeartbeats 1000000
namespace Lw
open Ml
theorem oEq_i (a b : Int) : oEqD (.int a) (.int b) = some (.bl (decide (a = b))) := oEqD_int a b
theorem near_b {e : E3} {c1 c2 : Slt} (o : E3) : (sIf (mAnd (mTest (mO2 oEqD (mO2 oIx (mVar 3) (mC (.int 0))) (mO2 oIx (mVar 2) (mC (.int 0))))) (mAnd (mTest (mO2 oEqD (mO2 oIx (mVar 3) (mC (.int 1))) (mO2 oIx (mVar 2) (mC (.int 1))))) (mTest (mO2 oNeD (mVar 3) (mVar 2))))) (sRet (mVar 3)) sNil) [c1, c2, .fz (eD e), .fz (eD o)] =
    if near e o = true then .rt (.fz (eD o)) [c1, c2, .fz (eD e), .fz (eD o)] else .nx [c1, c2, .fz (eD e), .fz (eD o)] := by
  have e2 := oNe_eD o e
  unfold near
  by_cases h1 : o.1 = e.1
  · by_cases h2 : o.2.1 = e.2.1
    · cases h3 : decide (o = e) with
      | false => rw [h3] at e2; simp [ix0, ix1, oEq_i, h1, h2, e2]
      | true => rw [h3] at e2; simp [ix0, ix1, oEq_i, h1, h2, e2]
    · simp [ix0, ix1, oEq_i, h1, h2]
  · simp [ix0, ix1, oEq_i, h1]
theorem held_ok {K : List Kd} {L : List Lb} {G : List E3} {e : E3} (h0 : 0 ≤ e.2.1) (h1 : e.2.1.toNat < L.length) : F__law_held_by [.fz (scD K L), .fz (gD G), .fz (eD e)] = .ok (.fz (rvD (rival L G e))) [] := by
  refine fn_rt rfl rfl ?_
  show RT (m__law_held_by [.fz (scD K L), .fz (gD G), .fz (eD e), .un]) _ _
  have hx := ix_l h1
  rw [Int.toNat_of_nonneg h0] at hx
  have i4 : ∀ a b c d e : Dv, oIx (.tup [a, b, c, d, e]) (.int 4) = some e := fun _ _ _ _ _ => rfl
  have hs := isSg_in h1
  rw [Int.toNat_of_nonneg h0] at hs
  obtain ⟨x', q⟩ := find_lp (P := near e) (a := .fz (scD K L)) (c := .fz (gD G)) (d := .fz (eD e)) (fun o => near_b o) (G := G) (x := .un) rfl
  unfold rival
  rw [hs]
  unfold m__law_held_by
  simp only [ev_seq, ev_if, ev_test, ev_var, ev_O2, ev_C, List.getElem?_cons_zero, List.getElem?_cons_succ, Rs.bind_ok, ix1, sc_2, hx, i4, oEq, eqS, Option.map_some, Rs.of_some, Rs.go_ok]
  cases decide (L[e.2.1.toNat].r = t0) with
  | false => simp [rvD]
  | true =>
    simp only [if_true, ev_for, ev_it, ev_var, List.getElem?_cons_zero, List.getElem?_cons_succ, Rs.bind_ok, gD, itT, Rs.of_some, Rs.go_ok]
    rw [show ([.fz (scD K L), .fz (.tup (G.map eD)), .fz (eD e), .un] : Loc) = [.fz (scD K L), .fz (gD G), .fz (eD e), .un] from rfl, q]
    cases G.find? (near e) with
    | none => simp [rvD]
    | some o => simp [rvD]
theorem find_lpO {P : E3 → Bool} {b : MS} {a d : Slt} {j : Option Nat} {G : List E3} (hb : ∀ o : E3, b [a, .ow j (.lst (G.map eD)), d, .fz (eD o)] = if P o = true then .rt (.fz (eD o)) [a, .ow j (.lst (G.map eD)), d, .fz (eD o)] else .nx [a, .ow j (.lst (G.map eD)), d, .fz (eD o)]) :
    ∀ {n k : Nat} {x : Slt}, free (some x) = true → k ≤ G.length → G.length < n + k → ∃ x', loopO 1 (gN 3) b n k [a, .ow j (.lst (G.map eD)), d, x] = match (G.drop k).find? P with | none => .nx [a, .ow j (.lst (G.map eD)), d, x'] | some o => .rt (.fz (eD o)) [a, .ow j (.lst (G.map eD)), d, x']
  | 0, k, x, _, hk, hn => by omega
  | n + 1, k, x, hx, hk, hn => by
    unfold loopO
    simp only [List.getElem?_cons_zero, List.getElem?_cons_succ, List.getElem?_map]
    by_cases c : k < G.length
    · have hg : gN 3 (eD G[k]) [a, .ow j (.lst (G.map eD)), d, x] = some [a, .ow j (.lst (G.map eD)), d, .fz (eD G[k])] := by simp [hx]
      simp only [List.getElem?_eq_getElem c, Option.map_some, hg, hb, List.drop_eq_getElem_cons c, List.find?_cons]
      cases hp : P G[k] with
      | true => exact ⟨.fz (eD G[k]), by simp⟩
      | false =>
        obtain ⟨x', q⟩ := find_lpO hb (n := n) (k := k + 1) (x := .fz (eD G[k])) rfl (by omega) (by omega)
        exact ⟨x', by simpa using q⟩
    · rw [List.getElem?_eq_none (by omega), List.drop_eq_nil_of_le (by omega)]
      exact ⟨x, rfl⟩
theorem heldO_ok {K : List Kd} {L : List Lb} {G : List E3} {e : E3} (h0 : 0 ≤ e.2.1) (h1 : e.2.1.toNat < L.length) (hG : G.length ≤ 1000) : F__law_held_by__1 [.fz (scD K L), .ow none (.lst (G.map eD)), .fz (eD e)] = .ok (.fz (rvD (rival L G e))) [.lst (G.map eD)] := by
  have hx := ix_l h1
  rw [Int.toNat_of_nonneg h0] at hx
  have i4 : ∀ a b c d e : Dv, oIx (.tup [a, b, c, d, e]) (.int 4) = some e := fun _ _ _ _ _ => rfl
  have hs := isSg_in h1
  rw [Int.toNat_of_nonneg h0] at hs
  obtain ⟨x', q⟩ := find_lpO (P := near e) (a := .fz (scD K L)) (d := .fz (eD e)) (j := some 0) (G := G) (fun o => near_b o) (n := lim) (k := 0) (x := .un) rfl (Nat.zero_le _) (by have := limv; omega)
  have key : ∃ x, m__law_held_by__1 [.fz (scD K L), .ow (some 0) (.lst (G.map eD)), .fz (eD e), .un] = .rt (.fz (rvD (rival L G e))) [.fz (scD K L), .ow (some 0) (.lst (G.map eD)), .fz (eD e), x] := by
    unfold rival
    rw [hs]
    unfold m__law_held_by__1
    simp only [ev_seq, ev_if, ev_test, ev_var, ev_O2, ev_C, List.getElem?_cons_zero, List.getElem?_cons_succ, Rs.bind_ok, ix1, sc_2, hx, i4, oEq, eqS, Option.map_some, Rs.of_some, Rs.go_ok]
    cases decide (L[e.2.1.toNat].r = t0) with
    | false => exact ⟨.un, by simp [rvD]⟩
    | true =>
      simp only [if_true, sForO, q, List.drop_zero]
      cases G.find? (near e) with
      | none => exact ⟨x', by simp [rvD]⟩
      | some o => exact ⟨x', by simp [rvD]⟩
  obtain ⟨x, key⟩ := key
  exact fn_ok rfl rfl key rfl
/-! changes -/
def cD (w : List Nat) (e : E3) : Dv := .tup [.str w, .int e.1, .int e.2.1, .int e.2.2]
theorem cD_edge (w : List Nat) (e : E3) : slT (cD w e) (some 1) none = some (eD e) := rfl
theorem cD_word (w : List Nat) (e : E3) : oIx (cD w e) (.int 0) = some (.str w) := rfl
abbrev Er := List Nat × List Nat × Dv
def erD (x : Er) : Err := (x.1, [.str x.2.1, x.2.2])
def isE (K : List Kd) (L : List Lb) (e : E3) : Bool := edgeB K L e.1 e.2.1 e.2.2
theorem isE_in {K : List Kd} {L : List Lb} {e : E3} (h : isE K L e = true) : 0 ≤ e.2.1 ∧ e.2.1.toNat < L.length := by
  unfold isE at h
  by_cases c : 0 ≤ e.2.1
  · by_cases d : e.2.1.toNat < L.length
    · exact ⟨c, d⟩
    · rw [edgeB_hi d] at h; cases h
  · rw [edgeB_lo c] at h; cases h
def prc (L : List Lb) (j : Int) : Int := (L[j.toNat]?.map (·.p)).getD 1
def nmo (L : List Lb) (j : Int) : List Nat := (L[j.toNat]?.map (·.n)).getD []
def chg (K : List Kd) (L : List Lb) (e : E3) : Option Er := if isE K L e = true then (if prc L e.2.1 = 0 then some (t4, t5, .str (nmo L e.2.1)) else none) else some (t2, t3, eD e)
def low_nm (L : List Lb) : Prop := ∀ l ∈ L, lowD 60 (.str l.n) = true
theorem change_ok {K : List Kd} {L : List Lb} {w : List Nat} {e : E3} (hv : vK K) (hL : ∀ l ∈ L, vL K.length l) (hn : low_nm L) :
    F_check_change [.fz (scD K L), .fz (cD w e)] = match chg K L e with | none => .ok (.fz .non) [] | some x => .er (erD x) [] := by
  have he := is_edge_ok (a := e.1) (j := e.2.1) (b := e.2.2) hv hL
  rw [show (Dv.tup [.int e.1, .int e.2.1, .int e.2.2]) = eD e from rfl, show edgeB K L e.1 e.2.1 e.2.2 = isE K L e from rfl] at he
  unfold chg
  by_cases c : isE K L e = true
  · obtain ⟨h0, h1⟩ := isE_in c
    have hf := firm_ok (K := K) h1
    have hnm := lname_ok (K := K) h1
    rw [Int.toNat_of_nonneg h0] at hf hnm
    have p1 : prc L e.2.1 = L[e.2.1.toNat].p := by simp [prc, h1]
    have p2 : nmo L e.2.1 = L[e.2.1.toNat].n := by simp [nmo, h1]
    have hlow := hn _ (List.getElem_mem h1)
    rw [c] at he
    by_cases c2 : L[e.2.1.toNat].p = 0
    · rw [p1, p2, if_pos c, if_pos c2]
      refine fn_er rfl rfl (e := [.fz (scD K L), .fz (cD w e), .fz (eD e)]) ?_ rfl
      simp [initE, m_check_change, cD_edge, he, truthD, ix1, hf, c2, hnm, hlow, erD]
    · rw [p1, if_pos c, if_neg c2]
      refine fn_nx rfl rfl (e := [.fz (scD K L), .fz (cD w e), .fz (eD e)]) ?_ rfl
      simp [initE, m_check_change, cD_edge, he, truthD, ix1, hf, c2]
  · have c' : isE K L e = false := by simpa using c
    rw [c'] at he
    rw [if_neg c]
    refine fn_er rfl rfl (e := [.fz (scD K L), .fz (cD w e), .fz (eD e)]) ?_ rfl
    have := eD_low (n := 59) e
    simp [initE, m_check_change, cD_edge, he, truthD, this, erD]
end Lw

set_option linter.all false
set_option maxRecDepth 10000
set_option maxHeartbeats 1000000
namespace Lw
open Ml
theorem any_eD (e : E3) : ∀ G : List E3, ((G.map eD).any fun y => eqD y (eD e)) = decide (e ∈ G)
  | [] => by simp
  | o :: G => by
    rw [List.map_cons, List.any_cons, any_eD e G, eqD_eD]
    simp [eq_comm]
theorem lows_eD {n : Nat} : ∀ G : List E3, lowDs (n + 1) (G.map eD) = true
  | [] => by simp [lowDs]
  | o :: G => by simp [lowDs, eD_low, lows_eD G]
theorem in_gD {e : E3} {G : List E3} : oInT (eD e) (gD G) = some (.bl (decide (e ∈ G))) := by
  have h2 : lowD 60 (.tup (G.map eD)) = true := by unfold lowD; exact lows_eD G
  simp only [oInT, gD, eD_low e, h2, any_eD, and_self, if_true]
theorem ni_gD {e : E3} {G : List E3} : oNiT (eD e) (gD G) = some (.bl (!decide (e ∈ G))) := by
  have h2 : lowD 60 (.tup (G.map eD)) = true := by unfold lowD; exact lows_eD G
  simp only [oNiT, gD, eD_low e, h2, any_eD, and_self, if_true]
theorem isNon_eD (o : E3) : isNon (eD o) = false := rfl
/-- what becomes of a change -/
def outW (L : List Lb) (G : List E3) (w : List Nat) (e : E3) : List Nat :=
  if w = t6 then (if e ∈ G then t7 else t8) else if e ∈ G then t9 else match rival L G e with
    | none => t7
    | some _ => t10
theorem oEqD_w {w : List Nat} (h : lowD 60 (.str w) = true) (b : List Nat) (hb : lowD 60 (.str b) = true) : oEqD (.str w) (.str b) = some (.bl (decide (w = b))) := by
  unfold oEqD
  rw [if_pos ⟨h, hb⟩]
  simp [eqD, eqF]
theorem law_outcome_ok {K : List Kd} {L : List Lb} {G : List E3} {w : List Nat} {e : E3} (hw : lowD 60 (.str w) = true) (h0 : 0 ≤ e.2.1) (h1 : e.2.1.toNat < L.length) :
    F__law_outcome [.fz (scD K L), .fz (gD G), .fz (cD w e)] = .ok (.fz (.str (outW L G w e))) [] := by
  refine fn_rt rfl rfl ?_
  show RT (m__law_outcome [.fz (scD K L), .fz (gD G), .fz (cD w e), .un]) _ _
  have hh := held_ok (K := K) (G := G) h0 h1
  have ht := oEqD_w hw t6 (by decide)
  have hi := in_gD (e := e) (G := G)
  have noN : ∀ d, oNoN d .non = some (.bl (!isNon d)) := fun d => rfl
  unfold outW m__law_outcome
  by_cases c1 : w = t6
  · rw [decide_eq_true c1] at ht
    subst c1
    by_cases c2 : e ∈ G
    · simp [cD_edge, cD_word, ht, hi, c2]
    · simp [cD_edge, cD_word, ht, hi, c2]
  · rw [decide_eq_false c1] at ht
    by_cases c2 : e ∈ G
    · simp [cD_edge, cD_word, ht, hi, c1, c2]
    · cases hr : rival L G e with
      | none => rw [hr] at hh; simp [cD_edge, cD_word, ht, hi, c1, c2, hh, noN, rvD, isNon]
      | some o => rw [hr] at hh; simp [cD_edge, cD_word, ht, hi, c1, c2, hh, noN, rvD, isNon_eD]
def outF (x : Option Er) (v : Dv) : Fres := match x with
  | some er => .er (erD er) []
  | none => .ok (.fz v) []
theorem outcome_ok {K : List Kd} {L : List Lb} {G : List E3} {w : List Nat} {e : E3} (hw : lowD 60 (.str w) = true) (hv : vK K) (hL : ∀ l ∈ L, vL K.length l) (hn : low_nm L) :
    F_outcome [.fz (scD K L), .fz (gD G), .fz (cD w e)] = outF (chg K L e) (.str (outW L G w e)) := by
  have hc := change_ok (w := w) (e := e) hv hL hn
  cases hx : chg K L e with
  | some er =>
    rw [hx] at hc
    refine fn_er rfl rfl (e := [.fz (scD K L), .fz (gD G), .fz (cD w e), .un]) ?_ rfl
    simp [initE, m_outcome, sDrop, hc]
  | none =>
    rw [hx] at hc
    have hE : isE K L e = true := by
      unfold chg at hx
      by_cases c : isE K L e = true
      · exact c
      · rw [if_neg c] at hx; cases hx
    obtain ⟨h0, h1⟩ := isE_in hE
    have hh := rival_ok (K := K) (G := G) h0 h1
    have ht := oEqD_w hw t6 (by decide)
    have hi := in_gD (e := e) (G := G)
    have isN : ∀ d, oIsN d .non = some (.bl (isNon d)) := fun d => rfl
    have key : m_outcome [.fz (scD K L), .fz (gD G), .fz (cD w e), .un] = .rt (.fz (.str (outW L G w e))) [.fz (scD K L), .fz (gD G), .fz (cD w e), .fz (eD e)] := by
      unfold outW m_outcome
      by_cases c1 : w = t6
      · rw [decide_eq_true c1] at ht
        subst c1
        by_cases c2 : e ∈ G
        · simp [sDrop, mIte, hc, cD_edge, cD_word, ht, hi, c2]
        · simp [sDrop, mIte, hc, cD_edge, cD_word, ht, hi, c2]
      · rw [decide_eq_false c1] at ht
        by_cases c2 : e ∈ G
        · simp [sDrop, mIte, hc, cD_edge, cD_word, ht, hi, c1, c2]
        · cases hr : rival L G e with
          | none => rw [hr] at hh; simp [sDrop, mIte, hc, cD_edge, cD_word, ht, hi, c1, c2, hh, isN, rvD, isNon]
          | some o => rw [hr] at hh; simp [sDrop, mIte, hc, cD_edge, cD_word, ht, hi, c1, c2, hh, isN, rvD, isNon_eD]
    exact fn_ok rfl rfl key rfl
end Lw

set_option linter.all false
set_option maxRecDepth 10000
set_option maxHeartbeats 1000000
namespace Ml
/-- a comprehension with a test, the walked list told as a map -/
theorem lc_filtA {α : Type} {g : MG} {t : ME Bool} {m : ME Dv} {vs : List Nat} {h f : α → Dv} {P : α → Bool} {e : Loc} : ∀ {L : List α} {acc : List Dv}, acc.length + L.length ≤ lim →
    (∀ x ∈ L, ∃ e2 e3, g (h x) e = some e2 ∧ t e2 = .ok (P x) e2 ∧ m e2 = .ok (f x) e3 ∧ wipeE e3 vs = e ∧ wipeE e2 vs = e) → lcGo g t m vs (L.map h) acc e = some (acc ++ (L.filter P).map f, e)
  | [], acc, _, _ => by simp [lcGo]
  | d :: ds, acc, hl, hh => by
    obtain ⟨e2, e3, h1, h2, h3, h4, h5⟩ := hh d List.mem_cons_self
    simp only [List.length_cons] at hl
    have hlt : acc.length < lim := by omega
    cases hp : P d with
    | true =>
      rw [hp] at h2
      simp only [List.map_cons, lcGo, h1, h2, h3, hlt, if_true, h4]
      rw [lc_filtA (by simp; omega) fun d hd => hh d (List.mem_cons_of_mem _ hd), List.filter_cons_of_pos hp]
      simp
    | false =>
      rw [hp] at h2
      simp only [List.map_cons, lcGo, h1, h2, h5]
      rw [lc_filtA (by omega) fun d hd => hh d (List.mem_cons_of_mem _ hd), List.filter_cons_of_neg (by simp [hp])]
theorem mlc_filtA {α : Type} {mi : ME (List Dv)} {g : MG} {t : ME Bool} {m : ME Dv} {vs : List Nat} {h f : α → Dv} {P : α → Bool} {e e1 : Loc} {L : List α} (hi : mi e = .ok (L.map h) e1) (hn : noOw e1 vs = true) (hl : L.length ≤ lim)
    (hh : ∀ x ∈ L, ∃ e2 e3, g (h x) (wipeE e1 vs) = some e2 ∧ t e2 = .ok (P x) e2 ∧ m e2 = .ok (f x) e3 ∧ wipeE e3 vs = wipeE e1 vs ∧ wipeE e2 vs = wipeE e1 vs)
    (hb : backE e1 (wipeE e1 vs) vs = e1) : mLc mi g t m vs e = .ok (.lst ((L.filter P).map f)) e1 := by
  unfold mLc
  rw [hi]
  simp only [Rs.bind_ok, hn, if_true]
  rw [lc_filtA (by simpa using hl) hh]
  simp [hb]
end Ml
namespace Lw
open Ml
def kE (e : E3) : List Int := [e.1, e.2.1, e.2.2]
def insE (x : E3) : List E3 → List E3
  | [] => [x]
  | y :: r => if ltI (kE y) (kE x) = true then y :: insE x r else x :: y :: r
def sortE : List E3 → List E3
  | [] => []
  | x :: r => insE x (sortE r)
def pE (e : E3) : List Int × Dv := (kE e, eD e)
theorem insE_map (x : E3) : ∀ l : List E3, insD (pE x) (l.map pE) = (insE x l).map pE
  | [] => rfl
  | y :: r => by
    simp only [List.map_cons, insD, insE, pE]
    split
    · rw [List.map_cons, ← insE_map x r]; rfl
    · rfl
theorem sortE_map : ∀ l : List E3, srtD (l.map pE) = (sortE l).map pE
  | [] => rfl
  | x :: r => by simp only [List.map_cons, srtD, sortE, sortE_map r, insE_map]
theorem tups_eD : ∀ l : List E3, tupsI (l.map eD) = some (l.map pE)
  | [] => rfl
  | e :: l => by
    have : tupI (eD e) = some (kE e) := rfl
    simp only [List.map_cons, tupsI, this, tups_eD l, pE]
theorem sort_eD (G : List E3) : ((tupsI (G.map eD)).map fun ps => (srtD ps).map (·.2)) = some ((sortE G).map eD) := by
  rw [tups_eD, Option.map_some, sortE_map, List.map_map]; rfl
theorem sortT_eD (G : List E3) : oSortT (.lst (G.map eD)) = some ((sortE G).map eD) := sort_eD G
theorem sortTT_eD (G : List E3) : oSortTT (gD G) = some ((sortE G).map eD) := sort_eD G
theorem oTup_eD (G : List E3) : oTup (.lst (G.map eD)) = some (gD G) := rfl
/-- the graph behind a change -/
def wcG (G : List E3) (w : List Nat) (e : E3) : List E3 := if w = t6 then G.filter (fun o => !decide (o = e)) else sortE (G ++ [e])
theorem with_change_ok {G : List E3} {w : List Nat} {e : E3} (hw : lowD 60 (.str w) = true) (hG : G.length ≤ 1000) : F_with_change [.fz (gD G), .fz (cD w e)] = .ok (.fz (gD (wcG G w e))) [] := by
  refine fn_rt rfl rfl ?_
  show RT (m_with_change [.fz (gD G), .fz (cD w e), .un, .un]) _ _
  have ht := oEqD_w hw t6 (by decide)
  have hm : mLc (mIt itT (mVar 0)) (gN 3) (mTest (mO2 oNeD (mVar 3) (mVar 2))) (mVar 3) [3] [.fz (gD G), .fz (cD w e), .fz (eD e), .un] = .ok (.lst ((G.filter fun o => !decide (o = e)).map eD)) [.fz (gD G), .fz (cD w e), .fz (eD e), .un] :=
    mlc_filtA (h := eD) rfl rfl (by have := limv; omega) (fun o _ => ⟨_, _, rfl, by simp [wipeE, oNe_eD], rfl, rfl, rfl⟩) rfl
  have hs : seqD (gD G) = some (G.map eD) := rfl
  have hl : G.length + 1 ≤ lim := by have := limv; omega
  have hsort := sortT_eD (G ++ [e])
  rw [List.map_append] at hsort
  unfold wcG m_with_change
  by_cases c1 : w = t6
  · rw [decide_eq_true c1] at ht
    subst c1
    simp [cD_edge, cD_word, ht, hm, oTup_eD]
  · rw [decide_eq_false c1] at ht
    have hA : mLstA (mAStar (mVar 0) (mACons (mVar 2) (mArgs []))) [.fz (gD G), .fz (cD w e), .fz (eD e), .un] = .ok (.lst (G.map eD ++ [eD e])) [.fz (gD G), .fz (cD w e), .fz (eD e), .un] := by
      simp [mLstA, mAStar, mACons, hs, hl]
    simp only [ev_seq, ev_set, ev_sl, ev_var, ev_part0, ev_part1, ev_C, List.getElem?_cons_zero, List.getElem?_cons_succ, Rs.bind_ok, cD_edge, Rs.of_some, Rs.go_ok, ev_gN, ev_free1, if_true, List.set_cons_succ, List.set_cons_zero, ev_nxO1, Sr.then_nx, ev_if, ev_test, ev_O2, cD_word, ht, Bool.false_eq_true, if_false, ev_nil, ev_ret, ev_O1, ev_fz, ev_N1, hA, ev_toD]
    rw [show [eD e] = List.map eD [e] from rfl, hsort]
    simp [c1, oTup, gD]
theorem law_done_ok {G : List E3} {w : List Nat} {e : E3} (hw : lowD 60 (.str w) = true) (hG : G.length ≤ 1000) : F__law_done [.fz (gD G), .fz (cD w e)] = .ok (.fz (gD (wcG G w e))) [] := by
  refine fn_rt rfl rfl ?_
  show RT (m__law_done [.fz (gD G), .fz (cD w e), .un]) _ _
  have ht := oEqD_w hw t6 (by decide)
  have hm : mLc (mIt itT (mVar 0)) (gN 2) (mTest (mO2 oNeD (mVar 2) (mSl slT (mVar 1) (some (mC (.int 1))) none))) (mVar 2) [2] [.fz (gD G), .fz (cD w e), .un] = .ok (.lst ((G.filter fun o => !decide (o = e)).map eD)) [.fz (gD G), .fz (cD w e), .un] :=
    mlc_filtA (h := eD) rfl rfl (by have := limv; omega) (fun o _ => ⟨_, _, rfl, by simp [wipeE, cD_edge, oNe_eD], rfl, rfl, rfl⟩) rfl
  have hcat : oCat (.lst (G.map eD)) (.lst [eD e]) = some ((G ++ [e]).map eD) := by
    have : (G.map eD).length + [eD e].length ≤ lim := by have := limv; simp; omega
    simp only [oCat, this, if_true, List.map_append]; rfl
  have hsort := sortT_eD (G ++ [e])
  unfold wcG m__law_done
  by_cases c1 : w = t6
  · rw [decide_eq_true c1] at ht
    subst c1
    simp [cD_word, ht, hm, oTup_eD]
  · rw [decide_eq_false c1] at ht
    simp only [ev_seq, ev_if, ev_test, ev_O2, ev_O1, ev_var, ev_C, List.getElem?_cons_zero, List.getElem?_cons_succ, Rs.bind_ok, cD_word, Rs.of_some, ht, Rs.go_ok, Bool.false_eq_true, if_false, ev_nil, Sr.then_nx, ev_ret, ev_fz, ev_N1, ev_N2, gD, listD, Option.map_some, ev_toD, ev_lst, ev_args1, ev_args0, ev_sl, ev_part0, ev_part1, cD_edge, List.length_cons, List.length_nil, Nat.reduceAdd, Nat.reduceLeDiff, if_true, hcat, hsort, oTup, c1]
    exact ⟨_, rfl, rfl⟩
end Lw

set_option linter.all false
set_option maxRecDepth 10000
set_option maxHeartbeats 1000000
namespace Lw
open Ml
/-- the first error of a change that is to be done -/
def doneEr (K : List Kd) (L : List Lb) (G : List E3) (w : List Nat) (e : E3) : Option Er := match chg K L e with
  | some er => some er
  | none => if outW L G w e = t9 then some (t11, t3, eD e) else if outW L G w e = t10 then some (t12, t3, rvD (rival L G e)) else if outW L G w e = t8 then some (t13, t3, eD e) else none
theorem rvD_low {n : Nat} (o : Option E3) : lowD (n + 1) (rvD o) = true := by
  cases o with
  | none => simp [rvD, lowD]
  | some e => exact eD_low e
theorem check_done_ok {K : List Kd} {L : List Lb} {G : List E3} {w : List Nat} {e : E3} (hw : lowD 60 (.str w) = true) (hv : vK K) (hL : ∀ l ∈ L, vL K.length l) (hn : low_nm L) :
    F_check_done [.fz (scD K L), .fz (gD G), .fz (cD w e)] = outF (doneEr K L G w e) .non := by
  have ho := outcome_ok (G := G) (w := w) (e := e) hw hv hL hn
  unfold doneEr
  cases hx : chg K L e with
  | some er =>
    rw [hx] at ho
    refine fn_er rfl rfl (e := [.fz (scD K L), .fz (gD G), .fz (cD w e), .un, .un]) ?_ rfl
    simp [initE, m_check_done, ho, outF]
  | none =>
    rw [hx] at ho
    have hE : isE K L e = true := by
      unfold chg at hx
      by_cases c : isE K L e = true
      · exact c
      · rw [if_neg c] at hx; cases hx
    obtain ⟨h0, h1⟩ := isE_in hE
    have hr := rival_ok (K := K) (G := G) h0 h1
    have l1 := eD_low (n := 59) e
    have l2 := rvD_low (n := 59) (rival L G e)
    generalize outW L G w e = o at *
    have n1 : (t10 = t9) = False := by decide
    have n2 : (t8 = t9) = False := by decide
    have n3 : (t8 = t10) = False := by decide
    by_cases c1 : o = t9
    · subst c1
      simp only [if_true]
      refine fn_er rfl rfl (e := [.fz (scD K L), .fz (gD G), .fz (cD w e), .fz (.str t9), .fz (eD e)]) ?_ rfl
      simp [initE, m_check_done, ho, outF, cD_edge, oEq, eqS, l1, erD]
    · by_cases c2 : o = t10
      · subst c2
        simp only [c1, if_false, if_true]
        refine fn_er rfl rfl (e := [.fz (scD K L), .fz (gD G), .fz (cD w e), .fz (.str t10), .fz (eD e)]) ?_ rfl
        simp [initE, m_check_done, ho, outF, cD_edge, oEq, eqS, c1, hr, l2, erD]
      · by_cases c3 : o = t8
        · subst c3
          simp only [c1, c2, if_false, if_true]
          refine fn_er rfl rfl (e := [.fz (scD K L), .fz (gD G), .fz (cD w e), .fz (.str t8), .fz (eD e)]) ?_ rfl
          simp [initE, m_check_done, ho, outF, cD_edge, oEq, eqS, c1, c2, l1, erD]
        · simp only [c1, c2, c3, if_false]
          refine fn_nx rfl rfl (e := [.fz (scD K L), .fz (gD G), .fz (cD w e), .fz (.str o), .fz (eD e)]) ?_ rfl
          simp [initE, m_check_done, ho, outF, cD_edge, oEq, eqS, c1, c2, c3]
/-- changes done one behind the other -/
def runC (K : List Kd) (L : List Lb) : List E3 → List (List Nat × E3) → Er ⊕ List E3
  | G, [] => .inr G
  | G, c :: r => match doneEr K L G c.1 c.2 with
    | some er => .inl er
    | none => runC K L (wcG G c.1 c.2) r
theorem insE_len (x : E3) : ∀ l : List E3, (insE x l).length = l.length + 1
  | [] => rfl
  | y :: r => by
    unfold insE
    split
    · simp [insE_len x r]
    · rfl
theorem sortE_len : ∀ l : List E3, (sortE l).length = l.length
  | [] => rfl
  | x :: r => by simp [sortE, insE_len, sortE_len r]
theorem wcG_len (G : List E3) (w : List Nat) (e : E3) : (wcG G w e).length ≤ G.length + 1 := by
  unfold wcG
  split
  · exact Nat.le_succ_of_le (List.length_filter_le _ _)
  · simp [sortE_len]
def hD (c : List Nat × E3) : Dv := cD c.1 c.2
theorem run_lp {K : List Kd} {L : List Lb} {ch : Dv} (hv : vK K) (hL : ∀ l ∈ L, vL K.length l) (hn : low_nm L) : ∀ {C : List (List Nat × E3)} {G : List E3} {x : Slt}, free (some x) = true → (∀ c ∈ C, lowD 60 (.str c.1) = true) → G.length + C.length ≤ 1000 →
    ∃ x' G', loop (gN 3) (sSeq (sDrop (mCallD F_check_done [.val (mVar 0), .val (mVar 1), .val (mVar 3)])) (sSet (mCallD F_with_change [.val (mVar 1), .val (mVar 3)]) (gN 1))) (C.map hD) [.fz (scD K L), .fz (gD G), .fz ch, x] =
      match runC K L G C with
      | .inr G2 => .nx [.fz (scD K L), .fz (gD G2), .fz ch, x']
      | .inl er => .er (erD er) [.fz (scD K L), .fz (gD G'), .fz ch, x']
  | [], G, x, _, _, _ => ⟨x, G, rfl⟩
  | c :: C, G, x, hx, hw, hl => by
    simp only [List.length_cons] at hl
    have hc := check_done_ok (G := G) (e := c.2) (hw c List.mem_cons_self) hv hL hn
    have hg : gN 3 (hD c) [.fz (scD K L), .fz (gD G), .fz ch, x] = some [.fz (scD K L), .fz (gD G), .fz ch, .fz (hD c)] := by simp [hx]
    have hwc := with_change_ok (G := G) (e := c.2) (hw c List.mem_cons_self) (by omega)
    rw [show cD c.1 c.2 = hD c from rfl] at hc hwc
    simp only [List.map_cons, loop, hg, runC]
    cases hd : doneEr K L G c.1 c.2 with
    | some er =>
      rw [hd] at hc
      exact ⟨.fz (hD c), G, by simp [sDrop, hc, outF]⟩
    | none =>
      rw [hd] at hc
      have := wcG_len G c.1 c.2
      obtain ⟨x', G', q⟩ := run_lp (ch := ch) hv hL hn (C := C) (G := wcG G c.1 c.2) (x := .fz (hD c)) rfl (fun y hy => hw y (List.mem_cons_of_mem _ hy)) (by omega)
      refine ⟨x', G', ?_⟩
      rw [← q]
      simp [sDrop, hc, outF, hwc]
theorem changed_ok {K : List Kd} {L : List Lb} {G : List E3} {C : List (List Nat × E3)} (hv : vK K) (hL : ∀ l ∈ L, vL K.length l) (hn : low_nm L) (hw : ∀ c ∈ C, lowD 60 (.str c.1) = true) (hl : G.length + C.length ≤ 1000) :
    F_changed [.fz (scD K L), .fz (gD G), .fz (.tup (C.map hD))] = match runC K L G C with | .inr G2 => .ok (.fz (gD G2)) [] | .inl er => .er (erD er) [] := by
  obtain ⟨x', G', q⟩ := run_lp (ch := .tup (C.map hD)) hv hL hn (C := C) (G := G) (x := .un) rfl hw hl
  have key : m_changed [.fz (scD K L), .fz (gD G), .fz (.tup (C.map hD)), .un] = match runC K L G C with
      | .inr G2 => .rt (.fz (gD G2)) [.fz (scD K L), .fz (gD G2), .fz (.tup (C.map hD)), x']
      | .inl er => .er (erD er) [.fz (scD K L), .fz (gD G'), .fz (.tup (C.map hD)), x'] := by
    unfold m_changed
    simp only [ev_seq, ev_for, ev_it, ev_var, List.getElem?_cons_zero, List.getElem?_cons_succ, Rs.bind_ok, itT, Rs.of_some, Rs.go_ok, q]
    cases runC K L G C with
    | inl er => rfl
    | inr G2 => simp
  cases hr : runC K L G C with
  | inl er => rw [hr] at key; exact fn_er rfl rfl key rfl
  | inr G2 => rw [hr] at key; exact fn_ok rfl rfl key rfl
end Lw

set_option linter.all false
set_option maxRecDepth 10000
set_option maxHeartbeats 1000000
namespace Lw
open Ml
theorem class_1 (d : Dv) : F__law_class [.fz (.exc t2 t3 d)] = .ok (.ow none (.lst [.tup [.str t2, d]])) [] := by rfl
theorem class_2 (d : Dv) : F__law_class [.fz (.exc t4 t5 d)] = .ok (.ow none (.lst [.tup [.str t4, d]])) [] := by rfl
theorem class_3 (d : Dv) : F__law_class [.fz (.exc t11 t3 d)] = .ok (.ow none (.lst [.tup [.str t11, d]])) [] := by rfl
theorem class_4 (d : Dv) : F__law_class [.fz (.exc t12 t3 d)] = .ok (.ow none (.lst [.tup [.str t12, d]])) [] := by rfl
theorem class_5 (d : Dv) : F__law_class [.fz (.exc t13 t3 d)] = .ok (.ow none (.lst [.tup [.str t13, d]])) [] := by rfl
def okEr (x : Er) : Prop := (x.1 = t2 ∧ x.2.1 = t3 ∨ x.1 = t4 ∧ x.2.1 = t5 ∨ x.1 = t11 ∧ x.2.1 = t3 ∨ x.1 = t12 ∧ x.2.1 = t3 ∨ x.1 = t13 ∧ x.2.1 = t3) ∧ ∀ n, lowD (n + 1) x.2.2 = true
theorem class_ok {x : Er} (h : okEr x) : F__law_class [.fz (.exc x.1 x.2.1 x.2.2)] = .ok (.ow none (.lst [.tup [.str x.1, x.2.2]])) [] ∧ lowD 59 (.str x.1) = true ∧ tab_AwayError.lookup x.1 = some true := by
  obtain ⟨c, f, d⟩ := x
  obtain ⟨h, _⟩ := h
  simp only at h ⊢
  rcases h with ⟨rfl, rfl⟩ | ⟨rfl, rfl⟩ | ⟨rfl, rfl⟩ | ⟨rfl, rfl⟩ | ⟨rfl, rfl⟩
  · exact ⟨class_1 d, by decide, by decide⟩
  · exact ⟨class_2 d, by decide, by decide⟩
  · exact ⟨class_3 d, by decide, by decide⟩
  · exact ⟨class_4 d, by decide, by decide⟩
  · exact ⟨class_5 d, by decide, by decide⟩
def low_nm' (L : List Lb) : Prop := ∀ l ∈ L, (l.n.all fun c => decide (c < 1114112)) = true
theorem low_nm_of {L : List Lb} (h : low_nm' L) : low_nm L := fun l hl => by unfold lowD; exact h l hl
theorem nmo_low {L : List Lb} (h : low_nm' L) (j : Int) {n : Nat} : lowD n (.str (nmo L j)) = true := by
  unfold lowD nmo
  cases hj : L[j.toNat]? with
  | none => rfl
  | some l => exact h l (List.mem_of_getElem? hj)
theorem ok_chg {K : List Kd} {L : List Lb} {e : E3} (h : low_nm' L) : ∀ x, chg K L e = some x → okEr x := by
  intro x hx
  unfold chg at hx
  split at hx
  · split at hx
    · cases hx; exact ⟨by simp, fun n => nmo_low h _⟩
    · cases hx
  · cases hx; exact ⟨by simp, fun n => eD_low e⟩
theorem ok_done {K : List Kd} {L : List Lb} {G : List E3} {w : List Nat} {e : E3} (h : low_nm' L) : ∀ x, doneEr K L G w e = some x → okEr x := by
  intro x hx
  unfold doneEr at hx
  split at hx
  · rename_i er hc
    cases hx; exact ok_chg h _ hc
  · split at hx
    · cases hx; exact ⟨by simp, fun n => eD_low e⟩
    · split at hx
      · cases hx; exact ⟨by simp, fun n => rvD_low _⟩
      · split at hx
        · cases hx; exact ⟨by simp, fun n => eD_low e⟩
        · cases hx
theorem ok_run {K : List Kd} {L : List Lb} (h : low_nm' L) : ∀ {C : List (List Nat × E3)} {G : List E3} x, runC K L G C = .inl x → okEr x
  | [], G, x, hx => by cases hx
  | c :: C, G, x, hx => by
    unfold runC at hx
    split at hx
    · rename_i er hc
      cases hx; exact ok_done h _ hc
    · exact ok_run h x hx
def tellD (x : Er) : Dv := .lst [.tup [.str x.1, x.2.2]]
theorem lows_tell {x : Er} (h : okEr x) : lowDs 60 [.tup [.str x.1, x.2.2]] = true := by
  have a := (class_ok h).2.1
  have b := h.2 58
  simp only [lowDs, lowD, Bool.and_true, Bool.and_eq_true, and_true, b] at a ⊢
  exact a
theorem told_outcome_ok {K : List Kd} {L : List Lb} {G : List E3} {w : List Nat} {e : E3} (hw : lowD 60 (.str w) = true) (hv : vK K) (hL : ∀ l ∈ L, vL K.length l) (hn : low_nm' L) :
    F__law_told_outcome [.fz (scD K L), .fz (gD G), .fz (cD w e)] = .ok (.fz (match chg K L e with | some er => tellD er | none => .str (outW L G w e))) [] := by
  have ho := outcome_ok (G := G) (w := w) (e := e) hw hv hL (low_nm_of hn)
  refine fn_rt rfl rfl ?_
  show RT (m__law_told_outcome [.fz (scD K L), .fz (gD G), .fz (cD w e), .un]) _ _
  unfold m__law_told_outcome sTryZ
  cases hx : chg K L e with
  | none => rw [hx] at ho; simp [ho, outF]
  | some er =>
    rw [hx] at ho
    have hk := ok_chg hn er hx
    obtain ⟨q1, q2, q3⟩ := class_ok hk
    have q4 := lows_tell hk
    simp [ho, outF, erD, q3, q1, q4, tellD]
theorem told_changed_ok {K : List Kd} {L : List Lb} {G : List E3} {C : List (List Nat × E3)} (hv : vK K) (hL : ∀ l ∈ L, vL K.length l) (hn : low_nm' L) (hw : ∀ c ∈ C, lowD 60 (.str c.1) = true) (hl : G.length + C.length ≤ 1000) :
    F__law_told_changed [.fz (scD K L), .fz (gD G), .fz (.tup (C.map hD))] = .ok (.fz (match runC K L G C with | .inl er => tellD er | .inr G2 => gD G2)) [] := by
  have ho := changed_ok (G := G) hv hL (low_nm_of hn) hw hl
  refine fn_rt rfl rfl ?_
  show RT (m__law_told_changed [.fz (scD K L), .fz (gD G), .fz (.tup (C.map hD)), .un]) _ _
  unfold m__law_told_changed sTryZ
  cases hx : runC K L G C with
  | inr G2 => rw [hx] at ho; simp [ho]
  | inl er =>
    rw [hx] at ho
    have hk := ok_run hn er hx
    obtain ⟨q1, q2, q3⟩ := class_ok hk
    have q4 := lows_tell hk
    simp [ho, erD, q3, q1, q4, tellD]
/-- what the law says of a change -/
def dueOne (K : List Kd) (L : List Lb) (G : List E3) (w : List Nat) (e : E3) : Dv := match chg K L e with
  | some er => .tup [.str er.1, er.2.2]
  | none => .str (outW L G w e)
theorem ni_tr {j : Nat} {a b : Int} {T : List (Int × Int)} : oNiD (.tup [.int a, .int j, .int b]) (.lst (T.map (tr j))) = some (.bl (!decide ((a, b) ∈ T))) := by
  have h1 : lowD 60 (.tup [.int a, .int j, .int b]) = true := low_tr (n := 59) (j := j) (a, b)
  have h2 : lowD 60 (.lst (T.map (tr j))) = true := by
    unfold lowD; exact lows_tr T
  have h3 : ((T.map (tr j)).any fun y => eqD y (.tup [.int a, .int j, .int b])) = decide ((a, b) ∈ T) := by
    induction T with
    | nil => simp
    | cons p T ih =>
      have : lowD 60 (.lst (T.map (tr j))) = true := by unfold lowD; exact lows_tr T
      rw [List.map_cons, List.any_cons, ih this, show eqD (tr j p) (.tup [.int a, .int j, .int b]) = decide (p = (a, b)) from eqD_tr p (a, b)]
      simp [eq_comm]
  simp only [oNiD, h1, h2, h3, and_self, if_true]
theorem due_one_ok {K : List Kd} {L : List Lb} {G : List E3} {w : List Nat} {e : E3} (hw : lowD 60 (.str w) = true) (hv : vK K) (hL : ∀ l ∈ L, vL K.length l) :
    F__law_due_one [.fz (scD K L), .fz (gD G), .fz (cD w e)] = .ok (.fz (dueOne K L G w e)) [] := by
  refine fn_rt rfl rfl ?_
  show RT (m__law_due_one [.fz (scD K L), .fz (gD G), .fz (cD w e), .un]) _ _
  have olen : oLen (.tup (L.map lD)) = some (.int L.length) := by simp [oLen]
  have i0 : ∀ a b c d e : Dv, oIx (.tup [a, b, c, d, e]) (.int 0) = some a := fun _ _ _ _ _ => rfl
  have i3 : ∀ a b c d e : Dv, oIx (.tup [a, b, c, d, e]) (.int 3) = some d := fun _ _ _ _ _ => rfl
  unfold dueOne chg
  by_cases c0 : 0 ≤ e.2.1
  · by_cases c1 : e.2.1.toNat < L.length
    · have c2 : e.2.1 < (L.length : Int) := by omega
      have hl := let_ok c1 hv (hL _ (List.getElem_mem c1))
      have hx := ix_l c1
      have hout := law_outcome_ok (K := K) (G := G) hw c0 c1
      have p1 : prc L e.2.1 = L[e.2.1.toNat].p := by simp [prc, c1]
      have p2 : nmo L e.2.1 = L[e.2.1.toNat].n := by simp [nmo, c1]
      have pE : isE K L e = decide ((e.1, e.2.2) ∈ letT K L[e.2.1.toNat]) := by
        have := edgeB_in (K := K) (a := e.1) (b := e.2.2) c1
        rw [Int.toNat_of_nonneg c0] at this
        exact this
      have hni := ni_tr (j := e.2.1.toNat) (a := e.1) (b := e.2.2) (T := letT K L[e.2.1.toNat])
      rw [Int.toNat_of_nonneg c0] at hl hx hni
      rw [show (Dv.tup [.int e.1, .int e.2.1, .int e.2.2]) = eD e from rfl, ← pE] at hni
      by_cases c3 : isE K L e = true
      · rw [c3] at hni
        by_cases c4 : L[e.2.1.toNat].p = 0
        · simp [m__law_due_one, cD_edge, ix1, oLe, oLt, c0, c2, sc_2, olen, hl, hni, hx, i3, i0, oEq, eqS, c4, c3, p1, p2]
        · simp [m__law_due_one, cD_edge, ix1, oLe, oLt, c0, c2, sc_2, olen, hl, hni, hx, i3, oEq, eqS, c4, c3, p1, hout]
      · have c3' : isE K L e = false := by simpa using c3
        rw [c3'] at hni
        simp [m__law_due_one, cD_edge, ix1, oLe, oLt, c0, c2, sc_2, olen, hl, hni, c3']
    · have c2 : ¬ e.2.1 < (L.length : Int) := by omega
      have pE : isE K L e = false := edgeB_hi c1
      simp [m__law_due_one, cD_edge, ix1, oLe, oLt, c0, c2, sc_2, olen, pE]
  · have pE : isE K L e = false := edgeB_lo c0
    simp [m__law_due_one, cD_edge, ix1, oLe, oLt, c0, pE]
end Lw

set_option linter.all false
set_option maxRecDepth 10000
set_option maxHeartbeats 1000000
namespace Lw
open Ml
/-- ascending, no edge twice -/
def Asc (G : List E3) : Prop := G.Pairwise fun a b => ltI (kE a) (kE b) = true
theorem ltI_asym : ∀ a b : List Int, ltI a b = true → ltI b a = false
  | [], [], h => by simp [ltI] at h
  | [], _ :: _, _ => rfl
  | _ :: _, [], h => by simp [ltI] at h
  | x :: a, y :: b, h => by
    simp only [ltI] at h ⊢
    by_cases c : x = y
    · subst c; simp only [if_true] at h ⊢; exact ltI_asym a b h
    · have c' : ¬ y = x := fun z => c z.symm
      simp only [c, c', if_false, decide_eq_true_eq, decide_eq_false_iff_not] at h ⊢; omega
theorem sortE_id : ∀ {G : List E3}, Asc G → sortE G = G
  | [], _ => rfl
  | x :: G, h => by
    obtain ⟨h1, h2⟩ := List.pairwise_cons.mp h
    rw [sortE, sortE_id h2]
    cases G with
    | nil => rfl
    | cons y r =>
      have := ltI_asym _ _ (h1 y List.mem_cons_self)
      simp [insE, this]
def diffC (G O : List E3) : List (List Nat × E3) := ((G.filter fun e => !decide (e ∈ O)).map fun e => (t6, e)) ++ ((O.filter fun e => !decide (e ∈ G)).map fun e => (t14, e))
theorem diffC_len (G O : List E3) : (diffC G O).length ≤ G.length + O.length := by
  have a := List.length_filter_le (fun e => !decide (e ∈ O)) G
  have b := List.length_filter_le (fun e => !decide (e ∈ G)) O
  simp only [diffC, List.length_append, List.length_map]; omega
theorem difference_ok {G O : List E3} (h1 : G.length ≤ 1000) (h2 : O.length ≤ 1000) : F_difference [.fz (gD G), .fz (gD O)] = .ok (.fz (.tup ((diffC G O).map hD))) [] := by
  have hlim := limv
  refine fn_rt rfl rfl ?_
  show RT (m_difference [.fz (gD G), .fz (gD O), .un, .un, .un]) _ _
  have sq : ∀ e : E3, seqD (eD e) = some [.int e.1, .int e.2.1, .int e.2.2] := fun _ => rfl
  have m1 : mLc (mIt itT (mVar 0)) (gN 4) (mTest (mO2 oNiT (mVar 4) (mVar 1))) (mTupA (mACons (mC (.str t6)) (mAStar (mVar 4) (mArgs [])))) [4] [.fz (gD G), .fz (gD O), .un, .un, .un] =
      .ok (.lst ((G.filter fun e => !decide (e ∈ O)).map fun e => cD t6 e)) [.fz (gD G), .fz (gD O), .un, .un, .un] :=
    mlc_filtA (h := eD) rfl rfl (by omega) (fun o _ => ⟨_, [.fz (gD G), .fz (gD O), .un, .un, .fz (eD o)], rfl, by simp [wipeE, ni_gD], by simp [wipeE, mTupA, mACons, mAStar, sq, cD, limv], rfl, rfl⟩) rfl
  have m2 : ∀ x, mLc (mIt itT (mVar 1)) (gN 4) (mTest (mO2 oNiT (mVar 4) (mVar 0))) (mTupA (mACons (mC (.str t14)) (mAStar (mVar 4) (mArgs [])))) [4] [.fz (gD G), .fz (gD O), .fz x, .un, .un] =
      .ok (.lst ((O.filter fun e => !decide (e ∈ G)).map fun e => cD t14 e)) [.fz (gD G), .fz (gD O), .fz x, .un, .un] := fun x =>
    mlc_filtA (h := eD) rfl rfl (by omega) (fun o _ => ⟨_, [.fz (gD G), .fz (gD O), .fz x, .un, .fz (eD o)], rfl, by simp [wipeE, ni_gD], by simp [wipeE, mTupA, mACons, mAStar, sq, cD, limv], rfl, rfl⟩) rfl
  have hl := diffC_len G O
  have e1 : (diffC G O).map hD = ((G.filter fun e => !decide (e ∈ O)).map fun e => cD t6 e) ++ ((O.filter fun e => !decide (e ∈ G)).map fun e => cD t14 e) := by
    unfold diffC; rw [List.map_append, List.map_map, List.map_map]; rfl
  have e2 := congrArg List.length e1
  rw [List.length_map] at e2
  rw [e1]
  have e3 : (((G.filter fun e => !decide (e ∈ O)).map fun e => cD t6 e) ++ ((O.filter fun e => !decide (e ∈ G)).map fun e => cD t14 e)).length ≤ lim := by rw [← e2]; omega
  generalize ((G.filter fun e => !decide (e ∈ O)).map fun e => cD t6 e) = A at *
  generalize ((O.filter fun e => !decide (e ∈ G)).map fun e => cD t14 e) = B at *
  have sl : ∀ x : List Dv, seqD (.lst x) = some x := fun _ => rfl
  unfold m_difference
  simp only [ev_seq, ev_set, ev_fz, m1, Rs.bind_ok, ev_toD, Rs.of_some, Rs.go_ok, ev_gN, List.getElem?_cons_zero, List.getElem?_cons_succ, ev_free1, if_true, List.set_cons_succ, List.set_cons_zero, ev_nxO1, Sr.then_nx, m2, ev_ret, mTupA, mAStar, ev_var, sl, ev_args0, List.append_nil, e3]
  exact ⟨_, rfl, rfl⟩
theorem law_difference_ok {G O : List E3} (h1 : G.length ≤ 1000) (h2 : O.length ≤ 1000) (a1 : Asc G) (a2 : Asc O) : F__law_difference [.fz (gD G), .fz (gD O)] = .ok (.fz (.tup ((diffC G O).map hD))) [] := by
  have hlim := limv
  refine fn_rt rfl rfl ?_
  show RT (m__law_difference [.fz (gD G), .fz (gD O), .un, .un, .un]) _ _
  have s1 := sortTT_eD G
  have s2 := sortTT_eD O
  rw [sortE_id a1] at s1
  rw [sortE_id a2] at s2
  have cat : ∀ (w : List Nat) (e : E3), oCatT (.tup [.str w]) (eD e) = some (cD w e) := fun w e => by simp [oCatT, eD, cD, limv]
  have m1 : mLc (mIt itL (mFz (mN1 oSortTT (mVar 0)))) (gN 4) (mTest (mO2 oNiT (mVar 4) (mVar 1))) (mO2 oCatT (mTup [(mC (.str t6))]) (mVar 4)) [4] [.fz (gD G), .fz (gD O), .un, .un, .un] =
      .ok (.lst ((G.filter fun e => !decide (e ∈ O)).map fun e => cD t6 e)) [.fz (gD G), .fz (gD O), .un, .un, .un] :=
    mlc_filtA (h := eD) (by simp [s1, itL]) rfl (by omega) (fun o _ => ⟨_, [.fz (gD G), .fz (gD O), .un, .un, .fz (eD o)], rfl, by simp [wipeE, ni_gD], by simp [wipeE, cat], rfl, rfl⟩) rfl
  have m2 : ∀ x, mLc (mIt itL (mFz (mN1 oSortTT (mVar 1)))) (gN 4) (mTest (mO2 oNiT (mVar 4) (mVar 0))) (mO2 oCatT (mTup [(mC (.str t14))]) (mVar 4)) [4] [.fz (gD G), .fz (gD O), .fz x, .un, .un] =
      .ok (.lst ((O.filter fun e => !decide (e ∈ G)).map fun e => cD t14 e)) [.fz (gD G), .fz (gD O), .fz x, .un, .un] := fun x =>
    mlc_filtA (h := eD) (by simp [s2, itL]) rfl (by omega) (fun o _ => ⟨_, [.fz (gD G), .fz (gD O), .fz x, .un, .fz (eD o)], rfl, by simp [wipeE, ni_gD], by simp [wipeE, cat], rfl, rfl⟩) rfl
  have hl := diffC_len G O
  have e1 : (diffC G O).map hD = ((G.filter fun e => !decide (e ∈ O)).map fun e => cD t6 e) ++ ((O.filter fun e => !decide (e ∈ G)).map fun e => cD t14 e) := by
    unfold diffC; rw [List.map_append, List.map_map, List.map_map]; rfl
  have e2 := congrArg List.length e1
  rw [List.length_map, List.length_append] at e2
  rw [e1]
  generalize ((G.filter fun e => !decide (e ∈ O)).map fun e => cD t6 e) = A at *
  generalize ((O.filter fun e => !decide (e ∈ G)).map fun e => cD t14 e) = B at *
  have e3 : A.length + B.length ≤ lim := by omega
  unfold m__law_difference
  simp only [ev_seq, ev_set, ev_fz, m1, Rs.bind_ok, ev_toD, Rs.of_some, Rs.go_ok, ev_gN, List.getElem?_cons_zero, List.getElem?_cons_succ, ev_free1, if_true, List.set_cons_succ, List.set_cons_zero, ev_nxO1, Sr.then_nx, m2, ev_ret, ev_O1, ev_N2, ev_var, oCat, e3, Option.map_some, oTup]
  exact ⟨_, rfl, rfl⟩
end Lw

set_option linter.all false
set_option maxRecDepth 10000
set_option maxHeartbeats 1000000
namespace Lw
open Ml
theorem ints_map {α : Type} (f : α → Int) (l : List α) : intsOf (l.map fun x => Dv.int (f x)) = some (l.map f) := intsOf_map f l
/-- the label of each change is there -/
def LabOk (L : List Lb) (C : List (List Nat × E3)) : Prop := ∀ c ∈ C, 0 ≤ c.2.2.1 ∧ c.2.2.1.toNat < L.length
theorem c2_ix (c : List Nat × E3) : oIx (hD c) (.int 2) = some (.int c.2.2.1) := rfl
def prices (L : List Lb) (C : List (List Nat × E3)) : Int := (C.map fun c => prc L c.2.2.1).sum
theorem prc_in {L : List Lb} {j : Int} (h1 : j.toNat < L.length) : prc L j = L[j.toNat].p := by simp [prc, h1]
theorem price_of_ok {K : List Kd} {L : List Lb} {C : List (List Nat × E3)} (h : LabOk L C) (hl : C.length ≤ 1000) : F_price_of [.fz (scD K L), .fz (.tup (C.map hD))] = .ok (.fz (.int (prices L C))) [] := by
  have hlim := limv
  refine fn_rt rfl rfl ?_
  show RT (m_price_of [.fz (scD K L), .fz (.tup (C.map hD)), .un]) _ _
  have hm : mLc (mIt itT (mVar 1)) (gN 2) mYes (mCallD F_label_price [.val (mVar 0), .val (mO2 oIx (mVar 2) (mC (.int 2)))]) [2] [.fz (scD K L), .fz (.tup (C.map hD)), .un] = .ok (.lst (C.map fun c => .int (prc L c.2.2.1))) [.fz (scD K L), .fz (.tup (C.map hD)), .un] := by
    refine mlc_mapA (h := hD) rfl rfl (by omega) (fun c hc => ⟨_, [.fz (scD K L), .fz (.tup (C.map hD)), .fz (hD c)], rfl, rfl, ?_, rfl⟩) rfl
    obtain ⟨h0, h1⟩ := h c hc
    have hp := price_ok (K := K) h1
    rw [Int.toNat_of_nonneg h0] at hp
    simp [wipeE, c2_ix, hp, prc_in h1]
  simp only [m_price_of, ev_ret, ev_O1, ev_fz, hm, Rs.bind_ok, ev_toD, Rs.of_some, oSum, ints_map (fun c : List Nat × E3 => prc L c.2.2.1), Option.map_some, Rs.go_ok]
  exact ⟨_, rfl, rfl⟩
theorem law_price_ok {K : List Kd} {L : List Lb} {C : List (List Nat × E3)} (h : LabOk L C) (hl : C.length ≤ 1000) : F__law_price [.fz (scD K L), .fz (.tup (C.map hD))] = .ok (.fz (.int (prices L C))) [] := by
  have hlim := limv
  refine fn_rt rfl rfl ?_
  show RT (m__law_price [.fz (scD K L), .fz (.tup (C.map hD)), .un]) _ _
  have i3 : ∀ a b c d e : Dv, oIx (.tup [a, b, c, d, e]) (.int 3) = some d := fun _ _ _ _ _ => rfl
  have hm : mLc (mIt itT (mVar 1)) (gN 2) mYes (mO2 oIx (mO2 oIx (mO2 oIx (mVar 0) (mC (.int 2))) (mO2 oIx (mVar 2) (mC (.int 2)))) (mC (.int 3))) [2] [.fz (scD K L), .fz (.tup (C.map hD)), .un] = .ok (.lst (C.map fun c => .int (prc L c.2.2.1))) [.fz (scD K L), .fz (.tup (C.map hD)), .un] := by
    refine mlc_mapA (h := hD) rfl rfl (by omega) (fun c hc => ⟨_, [.fz (scD K L), .fz (.tup (C.map hD)), .fz (hD c)], rfl, rfl, ?_, rfl⟩) rfl
    obtain ⟨h0, h1⟩ := h c hc
    have hx := ix_l h1
    rw [Int.toNat_of_nonneg h0] at hx
    simp [wipeE, c2_ix, sc_2, hx, i3, prc_in h1]
  simp only [m__law_price, ev_ret, ev_O1, ev_fz, hm, Rs.bind_ok, ev_toD, Rs.of_some, oSum, ints_map (fun c : List Nat × E3 => prc L c.2.2.1), Option.map_some, Rs.go_ok]
  exact ⟨_, rfl, rfl⟩
/-- prices apart; none if something firm is in the way -/
def apt (L : List Lb) (G O : List E3) : Option Int := if (diffC G O).any (fun c => decide (prc L c.2.2.1 = 0)) = true then none else some (prices L (diffC G O))
def aptD (o : Option Int) : Dv := match o with
  | none => .non
  | some i => .int i
theorem bools_map {α : Type} (f : α → Bool) : ∀ l : List α, boolsOf (l.map fun x => Dv.bl (f x)) = some (l.map f)
  | [] => rfl
  | a :: l => by simp only [List.map_cons, boolsOf, bools_map f l]; rfl
def InL (L : List Lb) (G : List E3) : Prop := ∀ e ∈ G, 0 ≤ e.2.1 ∧ e.2.1.toNat < L.length
theorem lab_diff {L : List Lb} {G O : List E3} (h1 : InL L G) (h2 : InL L O) : LabOk L (diffC G O) := by
  intro c hc
  unfold diffC at hc
  rcases List.mem_append.mp hc with hc | hc
  · obtain ⟨e, he, rfl⟩ := List.mem_map.mp hc
    exact h1 e (List.mem_filter.mp he).1
  · obtain ⟨e, he, rfl⟩ := List.mem_map.mp hc
    exact h2 e (List.mem_filter.mp he).1
theorem apart_ok {K : List Kd} {L : List Lb} {G O : List E3} (h1 : G.length ≤ 400) (h2 : O.length ≤ 400) (i1 : InL L G) (i2 : InL L O) : F_apart [.fz (scD K L), .fz (gD G), .fz (gD O)] = .ok (.fz (aptD (apt L G O))) [] := by
  have hlim := limv
  have hd := difference_ok (G := G) (O := O) (by omega) (by omega)
  have hl := diffC_len G O
  have hp := price_of_ok (K := K) (lab_diff i1 i2) (by omega)
  have hlab := lab_diff i1 i2
  refine fn_rt rfl rfl ?_
  show RT (m_apart [.fz (scD K L), .fz (gD G), .fz (gD O), .un, .un]) _ _
  unfold apt
  generalize diffC G O = C at *
  have hm : mLc (mIt itT (mVar 3)) (gN 4) mYes (mCallD F_is_firm [.val (mVar 0), .val (mO2 oIx (mVar 4) (mC (.int 2)))]) [4] [.fz (scD K L), .fz (gD G), .fz (gD O), .fz (.tup (C.map hD)), .un] = .ok (.lst (C.map fun c => .bl (decide (prc L c.2.2.1 = 0)))) [.fz (scD K L), .fz (gD G), .fz (gD O), .fz (.tup (C.map hD)), .un] := by
    refine mlc_mapA (h := hD) rfl rfl (by omega) (fun c hc => ⟨_, [.fz (scD K L), .fz (gD G), .fz (gD O), .fz (.tup (C.map hD)), .fz (hD c)], rfl, rfl, ?_, rfl⟩) rfl
    obtain ⟨h0, h1⟩ := hlab c hc
    have hf := firm_ok (K := K) h1
    rw [Int.toNat_of_nonneg h0] at hf
    simp [wipeE, c2_ix, hf, prc_in h1]
  have ha : (C.map fun c => decide (prc L c.2.2.1 = 0)).any id = C.any fun c => decide (prc L c.2.2.1 = 0) := by simp [List.any_map, Function.comp_def]
  unfold m_apart
  simp only [ev_seq, ev_set, ev_callD, call_f2, ev_var, List.getElem?_cons_zero, List.getElem?_cons_succ, Rs.bind_ok, hd, Rs.go_ok, ev_gN, ev_free1, if_true, List.set_cons_succ, List.set_cons_zero, ev_nxO1, Sr.then_nx, ev_if, ev_truth, ev_O1, ev_fz, hm, ev_toD, Rs.of_some, oAny, bools_map (fun c : List Nat × E3 => decide (prc L c.2.2.1 = 0)), Option.map_some, ha, truthD]
  cases C.any fun c => decide (prc L c.2.2.1 = 0) with
  | true => simp [aptD]
  | false => simp [aptD, hp]
end Lw

set_option linter.all false
set_option maxRecDepth 10000
set_option maxHeartbeats 1000000
namespace Lw
open Ml
theorem ltI_irr (a : List Int) : ltI a a = false := by
  cases h : ltI a a with
  | false => rfl
  | true => rw [ltI_asym a a h] at h; cases h
theorem asc_nd {G : List E3} (h : Asc G) : G.Nodup := h.imp fun {a b} hab e => by rw [e, ltI_irr] at hab; cases hab
theorem asc_ext {A B : List E3} (h1 : Asc A) (h2 : Asc B) (h : ∀ x, x ∈ A ↔ x ∈ B) : A = B :=
  List.Perm.eq_of_pairwise (fun a b _ _ hab hba => by rw [ltI_asym _ _ hab] at hba; cases hba) h1 h2 ((List.perm_ext_iff_of_nodup (asc_nd h1) (asc_nd h2)).mpr h)
def firmOf (L : List Lb) (G : List E3) : List E3 := G.filter fun e => decide (prc L e.2.1 = 0)
theorem firm_iff {L : List Lb} {G O : List E3} (a1 : Asc G) (a2 : Asc O) : ((diffC G O).any fun c => decide (prc L c.2.2.1 = 0)) = !decide (firmOf L G = firmOf L O) := by
  rw [Bool.eq_iff_iff]
  simp only [List.any_eq_true, decide_eq_true_eq, Bool.not_eq_true', decide_eq_false_iff_not]
  constructor
  · rintro ⟨c, hc, hp⟩ he
    unfold diffC at hc
    rcases List.mem_append.mp hc with hc | hc
    · obtain ⟨e, hm, rfl⟩ := List.mem_map.mp hc
      obtain ⟨m1, m2⟩ := List.mem_filter.mp hm
      have : e ∈ firmOf L G := List.mem_filter.mpr ⟨m1, by simpa using hp⟩
      rw [he] at this
      have := (List.mem_filter.mp this).1
      simp [this] at m2
    · obtain ⟨e, hm, rfl⟩ := List.mem_map.mp hc
      obtain ⟨m1, m2⟩ := List.mem_filter.mp hm
      have : e ∈ firmOf L O := List.mem_filter.mpr ⟨m1, by simpa using hp⟩
      rw [← he] at this
      have := (List.mem_filter.mp this).1
      simp [this] at m2
  · intro hne
    refine Classical.byContradiction fun hno => hne (asc_ext (a1.filter _) (a2.filter _) fun x => ?_)
    have no : ∀ c ∈ diffC G O, ¬ prc L c.2.2.1 = 0 := fun c hc hp => hno ⟨c, hc, hp⟩
    constructor
    · intro hx
      obtain ⟨m1, m2⟩ := List.mem_filter.mp hx
      refine List.mem_filter.mpr ⟨Classical.byContradiction fun hO => ?_, m2⟩
      exact no (t6, x) (List.mem_append_left _ (List.mem_map.mpr ⟨x, List.mem_filter.mpr ⟨m1, by simp [hO]⟩, rfl⟩)) (by simpa using m2)
    · intro hx
      obtain ⟨m1, m2⟩ := List.mem_filter.mp hx
      refine List.mem_filter.mpr ⟨Classical.byContradiction fun hO => ?_, m2⟩
      exact no (t14, x) (List.mem_append_right _ (List.mem_map.mpr ⟨x, List.mem_filter.mpr ⟨m1, by simp [hO]⟩, rfl⟩)) (by simpa using m2)
theorem eqDs_eD : ∀ A B : List E3, eqDs (A.map eD) (B.map eD) = decide (A = B)
  | [], [] => by simp [eqDs]
  | [], _ :: _ => by simp [eqDs]
  | _ :: _, [] => by simp [eqDs]
  | a :: A, b :: B => by
    simp only [List.map_cons, eqDs, eqD_eD, eqDs_eD A B]
    by_cases h : a = b <;> simp [h]
theorem ne_lst (A B : List E3) : oNeD (.lst (A.map eD)) (.lst (B.map eD)) = some (.bl (!decide (A = B))) := by
  unfold oNeD
  rw [if_pos ⟨by unfold lowD; exact lows_eD A, by unfold lowD; exact lows_eD B⟩]
  simp only [eqD, eqDs_eD]
theorem law_apart_ok {K : List Kd} {L : List Lb} {G O : List E3} (h1 : G.length ≤ 400) (h2 : O.length ≤ 400) (i1 : InL L G) (i2 : InL L O) (a1 : Asc G) (a2 : Asc O) : F__law_apart [.fz (scD K L), .fz (gD G), .fz (gD O)] = .ok (.fz (aptD (apt L G O))) [] := by
  have hlim := limv
  have hd := law_difference_ok (G := G) (O := O) (by omega) (by omega) a1 a2
  have hl := diffC_len G O
  have hp := law_price_ok (K := K) (lab_diff i1 i2) (by omega)
  refine fn_rt rfl rfl ?_
  show RT (m__law_apart [.fz (scD K L), .fz (gD G), .fz (gD O), .un, .un]) _ _
  have i3 : ∀ a b c d e : Dv, oIx (.tup [a, b, c, d, e]) (.int 3) = some d := fun _ _ _ _ _ => rfl
  have tst : ∀ (e : E3) x, (0 ≤ e.2.1 ∧ e.2.1.toNat < L.length) → mTest (mO2 oEq (mO2 oIx (mO2 oIx (mO2 oIx (mVar 0) (mC (.int 2))) (mO2 oIx (mVar 4) (mC (.int 1)))) (mC (.int 3))) (mC (.int 0))) [.fz (scD K L), .fz (gD G), .fz (gD O), x, .fz (eD e)] = .ok (decide (prc L e.2.1 = 0)) [.fz (scD K L), .fz (gD G), .fz (gD O), x, .fz (eD e)] := fun e x h => by
    have hx := ix_l h.2
    rw [Int.toNat_of_nonneg h.1] at hx
    simp [ix1, sc_2, hx, i3, prc_in h.2, oEq, eqS]
  have m1 : mLc (mIt itT (mVar 1)) (gN 4) (mTest (mO2 oEq (mO2 oIx (mO2 oIx (mO2 oIx (mVar 0) (mC (.int 2))) (mO2 oIx (mVar 4) (mC (.int 1)))) (mC (.int 3))) (mC (.int 0)))) (mVar 4) [4] [.fz (scD K L), .fz (gD G), .fz (gD O), .un, .un] =
      .ok (.lst ((firmOf L G).map eD)) [.fz (scD K L), .fz (gD G), .fz (gD O), .un, .un] :=
    mlc_filtA (h := eD) rfl rfl (by omega) (fun o ho => ⟨_, _, rfl, tst o .un (i1 o ho), rfl, rfl, rfl⟩) rfl
  have m2 : mLc (mIt itT (mVar 2)) (gN 4) (mTest (mO2 oEq (mO2 oIx (mO2 oIx (mO2 oIx (mVar 0) (mC (.int 2))) (mO2 oIx (mVar 4) (mC (.int 1)))) (mC (.int 3))) (mC (.int 0)))) (mVar 4) [4] [.fz (scD K L), .fz (gD G), .fz (gD O), .fz (.lst ((firmOf L G).map eD)), .un] =
      .ok (.lst ((firmOf L O).map eD)) [.fz (scD K L), .fz (gD G), .fz (gD O), .fz (.lst ((firmOf L G).map eD)), .un] :=
    mlc_filtA (h := eD) rfl rfl (by omega) (fun o ho => ⟨_, _, rfl, tst o _ (i2 o ho), rfl, rfl, rfl⟩) rfl
  have hne := ne_lst (firmOf L G) (firmOf L O)
  unfold apt
  rw [firm_iff a1 a2]
  unfold m__law_apart
  simp only [ev_seq, ev_set, ev_fz, m1, Rs.bind_ok, ev_toD, Rs.of_some, Rs.go_ok, ev_gN, List.getElem?_cons_zero, List.getElem?_cons_succ, ev_free1, if_true, List.set_cons_succ, List.set_cons_zero, ev_nxO1, Sr.then_nx, ev_if, ev_test, ev_O2, ev_var, m2, hne]
  cases decide (firmOf L G = firmOf L O) with
  | true => simp [hd, hp, aptD]
  | false => simp [aptD]
end Lw

set_option linter.all false
set_option maxRecDepth 10000
set_option maxHeartbeats 1000000
namespace Lw
open Ml
def lt3 (a b : E3) : Prop := a.1 < b.1 ∨ a.1 = b.1 ∧ (a.2.1 < b.2.1 ∨ a.2.1 = b.2.1 ∧ a.2.2 < b.2.2)
theorem ltI_3 {a b : E3} : ltI (kE a) (kE b) = true ↔ lt3 a b := by
  obtain ⟨a1, a2, a3⟩ := a; obtain ⟨b1, b2, b3⟩ := b
  unfold lt3
  simp only [kE, ltI]
  by_cases h1 : a1 = b1
  · by_cases h2 : a2 = b2
    · by_cases h3 : a3 = b3
      · simp [h1, h2, h3]
      · simp [h1, h2, h3]
    · simp [h1, h2]
  · simp [h1]
theorem ltI_trans {a b c : E3} (h1 : ltI (kE a) (kE b) = true) (h2 : ltI (kE b) (kE c) = true) : ltI (kE a) (kE c) = true := by
  rw [ltI_3] at *
  unfold lt3 at *
  omega
theorem ltI_tot {a b : E3} (h1 : ¬ ltI (kE a) (kE b) = true) (h2 : a ≠ b) : ltI (kE b) (kE a) = true := by
  rw [ltI_3] at *
  obtain ⟨a1, a2, a3⟩ := a; obtain ⟨b1, b2, b3⟩ := b
  unfold lt3 at *
  simp only [ne_eq, Prod.mk.injEq] at *
  omega
theorem mem_insE {x y : E3} : ∀ {l : List E3}, y ∈ insE x l ↔ y = x ∨ y ∈ l
  | [] => by simp [insE]
  | z :: r => by
    unfold insE
    split
    · simp only [List.mem_cons, mem_insE (l := r)]
      constructor
      · rintro (h | h | h) <;> simp [h]
      · rintro (h | h | h) <;> simp [h]
    · simp
theorem mem_sortE {y : E3} : ∀ {l : List E3}, y ∈ sortE l ↔ y ∈ l
  | [] => by simp [sortE]
  | z :: r => by simp [sortE, mem_insE, mem_sortE (l := r)]
theorem asc_ins {x : E3} : ∀ {l : List E3}, Asc l → x ∉ l → Asc (insE x l)
  | [], _, _ => by simp [insE, Asc]
  | z :: r, h, hn => by
    obtain ⟨h1, h2⟩ := List.pairwise_cons.mp h
    simp only [List.mem_cons, not_or] at hn
    unfold insE
    split
    · rename_i hz
      refine List.pairwise_cons.mpr ⟨fun y hy => ?_, asc_ins h2 hn.2⟩
      rcases mem_insE.mp hy with rfl | hy
      · exact hz
      · exact h1 y hy
    · rename_i hz
      have hx := ltI_tot hz (fun e => hn.1 e.symm)
      refine List.pairwise_cons.mpr ⟨fun y hy => ?_, h⟩
      rcases List.mem_cons.mp hy with rfl | hy
      · exact hx
      · exact ltI_trans hx (h1 y hy)
theorem asc_sort : ∀ {l : List E3}, l.Nodup → Asc (sortE l)
  | [], _ => by simp [sortE, Asc]
  | x :: r, h => by
    obtain ⟨h1, h2⟩ := List.nodup_cons.mp h
    exact asc_ins (asc_sort h2) (fun hm => h1 (mem_sortE.mp hm))
/-- nothing holds another one -/
def SgOk (L : List Lb) (G : List E3) : Prop := ∀ a ∈ G, ∀ b ∈ G, isSg L a.2.1 = true → near a b = false
def Gr (K : List Kd) (L : List Lb) (G : List E3) : Prop := Asc G ∧ (∀ e ∈ G, isE K L e = true) ∧ SgOk L G
theorem rival_none {L : List Lb} {G : List E3} {e : E3} : rival L G e = none ↔ (isSg L e.2.1 = true → ∀ o ∈ G, near e o = false) := by
  unfold rival
  by_cases h : isSg L e.2.1 = true
  · simp only [h, if_true, List.find?_eq_none, true_imp_iff, Bool.not_eq_true]
  · simp [h]
theorem near_self (e : E3) : near e e = false := by simp [near]
theorem near_symm {a b : E3} : near a b = near b a := by
  unfold near
  simp only [eq_comm]
theorem near_lab {a b : E3} (h : near a b = true) : a.2.1 = b.2.1 := by
  simp only [near, Bool.and_eq_true, decide_eq_true_eq] at h
  exact h.1.2.symm
theorem sg_add {L : List Lb} {G : List E3} {e : E3} (h : SgOk L G) (hr : rival L G e = none) : SgOk L (G ++ [e]) := by
  rw [rival_none] at hr
  intro a ha b hb hs
  rw [List.mem_append, List.mem_singleton] at ha hb
  rcases ha with ha | rfl
  · rcases hb with hb | rfl
    · exact h a ha b hb hs
    · cases hn : near a b with
      | false => rfl
      | true =>
        have := near_lab hn
        rw [near_symm, hr (by rw [← this]; exact hs) a ha] at hn
        cases hn
  · rcases hb with hb | rfl
    · exact hr hs b hb
    · exact near_self b
theorem sg_sub {L : List Lb} {G O : List E3} (h : SgOk L O) (hs : ∀ g ∈ G, g ∈ O) : SgOk L G := fun a ha b hb => h a (hs a ha) b (hs b hb)
theorem rival_sub {L : List Lb} {G O : List E3} {e : E3} (h : SgOk L O) (he : e ∈ O) (hs : ∀ g ∈ G, g ∈ O) : rival L G e = none := rival_none.mpr fun hg o ho => h e he o (hs o ho) hg
/-! a change that is done -/
theorem chg_none {K : List Kd} {L : List Lb} {e : E3} : chg K L e = none ↔ isE K L e = true ∧ prc L e.2.1 ≠ 0 := by
  unfold chg
  by_cases h1 : isE K L e = true
  · by_cases h2 : prc L e.2.1 = 0 <;> simp [h1, h2]
  · simp [h1]
theorem outW_4 (L : List Lb) (G : List E3) (w : List Nat) (e : E3) : outW L G w e = t7 ∨ outW L G w e = t8 ∨ outW L G w e = t9 ∨ outW L G w e = t10 := by
  unfold outW
  split
  · split
    · exact .inl rfl
    · exact .inr (.inl rfl)
  · split
    · exact .inr (.inr (.inl rfl))
    · split
      · exact .inl rfl
      · exact .inr (.inr (.inr rfl))
theorem n87 : t8 ≠ t7 := by decide
theorem n97 : t9 ≠ t7 := by decide
theorem n107 : t10 ≠ t7 := by decide
theorem done_none {K : List Kd} {L : List Lb} {G : List E3} {w : List Nat} {e : E3} : doneEr K L G w e = none ↔ chg K L e = none ∧ outW L G w e = t7 := by
  unfold doneEr
  cases hc : chg K L e with
  | some er => simp
  | none =>
    simp only [true_and]
    rcases outW_4 L G w e with h | h | h | h <;> rw [h]
    · exact ⟨fun _ => rfl, fun _ => rfl⟩
    · exact ⟨fun h => (nomatch (show some _ = none from h)), fun h => absurd h n87⟩
    · exact ⟨fun h => (nomatch (show some _ = none from h)), fun h => absurd h n97⟩
    · exact ⟨fun h => (nomatch (show some _ = none from h)), fun h => absurd h n107⟩
theorem wcG_gr {K : List Kd} {L : List Lb} {G : List E3} {w : List Nat} {e : E3} (h : Gr K L G) (hd : doneEr K L G w e = none) : Gr K L (wcG G w e) := by
  obtain ⟨hc, ho⟩ := done_none.mp hd
  obtain ⟨h1, h2, h3⟩ := h
  unfold wcG
  by_cases c : w = t6
  · rw [if_pos c]
    exact ⟨h1.filter _, fun x hx => h2 x (List.mem_filter.mp hx).1, sg_sub h3 fun x hx => (List.mem_filter.mp hx).1⟩
  · rw [if_neg c]
    have hn : e ∉ G ∧ rival L G e = none := by
      unfold outW at ho
      rw [if_neg c] at ho
      by_cases c2 : e ∈ G
      · rw [if_pos c2] at ho; exact absurd ho n97
      · rw [if_neg c2] at ho
        cases hr : rival L G e with
        | none => exact ⟨c2, rfl⟩
        | some o => rw [hr] at ho; exact absurd ho n107
    have nd : (G ++ [e]).Nodup := by
      rw [List.nodup_append]
      exact ⟨asc_nd h1, by simp, fun a ha b hb hab => by
        simp only [List.mem_singleton] at hb
        subst hb; subst hab; exact hn.1 ha⟩
    refine ⟨asc_sort nd, fun x hx => ?_, sg_sub (sg_add h3 hn.2) fun x hx => mem_sortE.mp hx⟩
    rcases List.mem_append.mp (mem_sortE.mp hx) with hx | hx
    · exact h2 x hx
    · simp only [List.mem_singleton] at hx
      subst hx; exact (chg_none.mp hc).1
/-! the difference, done -/
theorem run_takes {K : List Kd} {L : List Lb} {R : List (List Nat × E3)} : ∀ {T G : List E3}, T.Nodup → (∀ e ∈ T, e ∈ G ∧ isE K L e = true ∧ prc L e.2.1 ≠ 0) → runC K L G (T.map (fun e => (t6, e)) ++ R) = runC K L (G.filter fun o => !decide (o ∈ T)) R
  | [], G, _, _ => by
    rw [List.filter_eq_self.mpr (fun x _ => by simp)]; rfl
  | e :: T, G, hn, h => by
    obtain ⟨n1, n2⟩ := List.nodup_cons.mp hn
    obtain ⟨h1, h2⟩ := h e List.mem_cons_self
    have hd : doneEr K L G t6 e = none := done_none.mpr ⟨chg_none.mpr h2, by simp [outW, h1]⟩
    rw [List.map_cons, List.cons_append]
    simp only [runC, hd]
    have hw : wcG G t6 e = G.filter fun o => !decide (o = e) := by simp [wcG]
    rw [hw, run_takes n2 (fun x hx => ?_)]
    · rw [List.filter_filter]
      congr 1
      apply List.filter_congr
      intro x _
      by_cases c1 : x = e <;> by_cases c2 : x ∈ T <;> simp [c1, c2]
    · obtain ⟨g1, g2⟩ := h x (List.mem_cons_of_mem _ hx)
      refine ⟨List.mem_filter.mpr ⟨g1, ?_⟩, g2⟩
      have : ¬ x = e := fun q => n1 (q ▸ hx)
      simp [this]
theorem run_puts {K : List Kd} {L : List Lb} {O : List E3} (hO : SgOk L O) : ∀ {P G : List E3}, P.Nodup → (∀ e ∈ P, e ∉ G ∧ e ∈ O ∧ isE K L e = true ∧ prc L e.2.1 ≠ 0) → (∀ g ∈ G, g ∈ O) → Asc G →
    ∃ G', runC K L G (P.map fun e => (t14, e)) = .inr G' ∧ Asc G' ∧ ∀ x, x ∈ G' ↔ x ∈ G ∨ x ∈ P
  | [], G, _, _, _, ha => ⟨G, rfl, ha, by simp⟩
  | e :: P, G, hn, h, hs, ha => by
    obtain ⟨n1, n2⟩ := List.nodup_cons.mp hn
    obtain ⟨h1, h2, h3⟩ := h e List.mem_cons_self
    have hr := rival_sub hO h2 hs
    have hd : doneEr K L G t14 e = none := done_none.mpr ⟨chg_none.mpr h3, by
      simp only [outW, h1, hr, if_false]; rw [if_neg (by decide)]⟩
    have hw : wcG G t14 e = sortE (G ++ [e]) := by unfold wcG; rw [if_neg (by decide)]
    have nd : (G ++ [e]).Nodup := by
      rw [List.nodup_append]
      exact ⟨asc_nd ha, by simp, fun a ha b hb hab => by
        simp only [List.mem_singleton] at hb
        subst hb; subst hab; exact h1 ha⟩
    obtain ⟨G', q, qa, qm⟩ := run_puts hO (P := P) (G := sortE (G ++ [e])) n2 (fun x hx => by
      obtain ⟨g1, g2⟩ := h x (List.mem_cons_of_mem _ hx)
      refine ⟨fun hm => ?_, g2⟩
      rcases List.mem_append.mp (mem_sortE.mp hm) with hm | hm
      · exact g1 hm
      · simp only [List.mem_singleton] at hm
        subst hm; exact n1 hx) (fun x hx => by
      rcases List.mem_append.mp (mem_sortE.mp hx) with hm | hm
      · exact hs x hm
      · simp only [List.mem_singleton] at hm
        subst hm; exact h2) (asc_sort nd)
    refine ⟨G', ?_, qa, fun x => ?_⟩
    · rw [List.map_cons]
      simp only [runC, hd]
      rw [hw, q]
    · rw [qm, mem_sortE]
      simp only [List.mem_append, List.mem_singleton, List.mem_cons, or_assoc, List.not_mem_nil, or_false]
theorem run_diff {K : List Kd} {L : List Lb} {G O : List E3} (hG : Gr K L G) (hO : Gr K L O) (hf : ∀ c ∈ diffC G O, prc L c.2.2.1 ≠ 0) : runC K L G (diffC G O) = .inr O := by
  obtain ⟨g1, g2, g3⟩ := hG
  obtain ⟨o1, o2, o3⟩ := hO
  have fT : ∀ e ∈ G.filter (fun e => !decide (e ∈ O)), prc L e.2.1 ≠ 0 := fun e he => hf (t6, e) (List.mem_append_left _ (List.mem_map.mpr ⟨e, he, rfl⟩))
  have fP : ∀ e ∈ O.filter (fun e => !decide (e ∈ G)), prc L e.2.1 ≠ 0 := fun e he => hf (t14, e) (List.mem_append_right _ (List.mem_map.mpr ⟨e, he, rfl⟩))
  unfold diffC
  rw [run_takes ((asc_nd g1).filter _) (fun e he => ⟨(List.mem_filter.mp he).1, g2 e (List.mem_filter.mp he).1, fT e he⟩)]
  have hin : ∀ x, x ∈ G.filter (fun o => !decide (o ∈ G.filter (fun e => !decide (e ∈ O)))) ↔ x ∈ G ∧ x ∈ O := by
    intro x
    simp only [List.mem_filter, Bool.not_eq_true', decide_eq_false_iff_not, not_and, Classical.not_not]
    constructor
    · rintro ⟨a, b⟩; exact ⟨a, b a⟩
    · rintro ⟨a, b⟩; exact ⟨a, fun _ => b⟩
  obtain ⟨G', q, qa, qm⟩ := run_puts (K := K) o3 (P := O.filter (fun e => !decide (e ∈ G))) (G := G.filter (fun o => !decide (o ∈ G.filter (fun e => !decide (e ∈ O))))) ((asc_nd o1).filter _) (fun e he => by
      have h := List.mem_filter.mp he
      have h2 : e ∉ G := by simpa using h.2
      exact ⟨fun hm => h2 ((hin e).mp hm).1, h.1, o2 e h.1, fP e he⟩) (fun x hx => ((hin x).mp hx).2) (g1.filter _)
  rw [q]
  congr 1
  refine asc_ext qa o1 fun x => ?_
  rw [qm, hin]
  simp only [List.mem_filter, Bool.not_eq_true', decide_eq_false_iff_not]
  constructor
  · rintro (⟨_, h⟩ | ⟨h, _⟩) <;> exact h
  · intro h
    by_cases c : x ∈ G
    · exact .inl ⟨c, h⟩
    · exact .inr ⟨h, c⟩
theorem run_app {K : List Kd} {L : List Lb} {B : List (List Nat × E3)} : ∀ {A : List (List Nat × E3)} {G : List E3}, runC K L G (A ++ B) = match runC K L G A with | .inl er => .inl er | .inr G2 => runC K L G2 B
  | [], G => rfl
  | c :: A, G => by
    rw [List.cons_append]
    simp only [runC]
    cases hd : doneEr K L G c.1 c.2 with
    | some er => rfl
    | none => exact run_app
end Lw

set_option linter.all false
set_option maxRecDepth 10000
set_option maxHeartbeats 1000000
namespace Lw
open Ml
theorem ne_self {d : Dv} (h1 : lowD 60 d = true) (h2 : eqD d d = true) : oNeD d d = some (.bl false) := by
  unfold oNeD; rw [if_pos ⟨h1, h1⟩, h2]; rfl
theorem eq_self {d : Dv} (h1 : lowD 60 d = true) (h2 : eqD d d = true) : oEqD d d = some (.bl true) := by
  unfold oEqD; rw [if_pos ⟨h1, h1⟩, h2]
theorem eqD_hD (c : List Nat × E3) : eqD (hD c) (hD c) = true := by simp [hD, cD, eqD, eqDs, eqF]
theorem eqDs_hD : ∀ C : List (List Nat × E3), eqDs (C.map hD) (C.map hD) = true
  | [] => by simp [eqDs]
  | c :: C => by simp [eqDs, eqD_hD, eqDs_hD C]
theorem low_hD {n : Nat} {c : List Nat × E3} (h : ∀ n, lowD n (.str c.1) = true) : lowD (n + 1) (hD c) = true := by
  simp [hD, cD, lowD, lowDs]
  have := h 0
  simpa [lowD] using this
theorem lows_hD {n : Nat} : ∀ {C : List (List Nat × E3)}, (∀ c ∈ C, ∀ n, lowD n (.str c.1) = true) → lowDs (n + 1) (C.map hD) = true
  | [], _ => by simp [lowDs]
  | c :: C, h => by
    simp only [List.map_cons, lowDs, low_hD (h c List.mem_cons_self), lows_hD fun c hc => h c (List.mem_cons_of_mem _ hc), Bool.and_self]
theorem ne_ch {C : List (List Nat × E3)} (h : ∀ c ∈ C, ∀ n, lowD n (.str c.1) = true) : oNeD (.tup (C.map hD)) (.tup (C.map hD)) = some (.bl false) :=
  ne_self (by unfold lowD; exact lows_hD h) (by simp only [eqD]; exact eqDs_hD C)
theorem low_gD (G : List E3) : lowD 60 (gD G) = true := by unfold gD lowD; exact lows_eD G
theorem eq_gD (A B : List E3) : oEqD (gD A) (gD B) = some (.bl (decide (A = B))) := by
  unfold oEqD; rw [if_pos ⟨low_gD A, low_gD B⟩]; simp only [gD, eqD, eqDs_eD]
theorem ne_gD (A B : List E3) : oNeD (gD A) (gD B) = some (.bl (!decide (A = B))) := by
  unfold oNeD; rw [if_pos ⟨low_gD A, low_gD B⟩]; simp only [gD, eqD, eqDs_eD]
theorem low_put (n : Nat) : lowD n (.str t14) = true := by unfold lowD; decide
theorem low_take (n : Nat) : lowD n (.str t6) = true := by unfold lowD; decide
theorem words_diff (G O : List E3) : ∀ c ∈ diffC G O, ∀ n, lowD n (.str c.1) = true := by
  intro c hc n
  unfold diffC at hc
  rcases List.mem_append.mp hc with hc | hc
  · obtain ⟨e, _, rfl⟩ := List.mem_map.mp hc; exact low_take n
  · obtain ⟨e, _, rfl⟩ := List.mem_map.mp hc; exact low_put n
theorem ne_apt (o : Option Int) : oNeD (aptD o) (aptD o) = some (.bl false) := by
  cases o with
  | none => exact ne_self (by simp [aptD, lowD]) (by simp [aptD, eqD, eqF])
  | some i => exact ne_self (by simp [aptD, lowD]) (by simp [aptD, eqD, eqF])
theorem isb_apt (o : Option Int) : oIsB (aptD o) = some (.bl false) := by cases o <;> rfl
theorem pair_ok {K : List Kd} {L : List Lb} {G O : List E3} (hv : vK K) (hL : ∀ l ∈ L, vL K.length l) (hn : low_nm L) (hG : Gr K L G) (hO : Gr K L O) (h1 : G.length ≤ 200) (h2 : O.length ≤ 200) :
    F__law_pair_right [.fz (scD K L), .fz (gD G), .fz (gD O)] = .ok (.fz (.bl true)) [] := by
  have i1 : InL L G := fun e he => isE_in (hG.2.1 e he)
  have i2 : InL L O := fun e he => isE_in (hO.2.1 e he)
  have d1 := difference_ok (G := G) (O := O) (by omega) (by omega)
  have d2 := law_difference_ok (G := G) (O := O) (by omega) (by omega) hG.1 hO.1
  have p1 := apart_ok (K := K) (G := G) (O := O) (by omega) (by omega) i1 i2
  have p2 := law_apart_ok (K := K) (G := G) (O := O) (by omega) (by omega) i1 i2 hG.1 hO.1
  have hl := diffC_len G O
  have q1 := price_of_ok (K := K) (lab_diff i1 i2) (by omega)
  have q2 := law_price_ok (K := K) (lab_diff i1 i2) (by omega)
  have w := words_diff G O
  have n1 := ne_ch w
  have n2 := ne_apt (apt L G O)
  have n3 := isb_apt (apt L G O)
  have c1 := changed_ok (G := G) (C := diffC G O) hv hL hn (fun c hc => w c hc 60) (by omega)
  have isN : ∀ d, oIsN d .non = some (.bl (isNon d)) := fun d => rfl
  refine fn_rt rfl rfl ?_
  show RT (m__law_pair_right [.fz (scD K L), .fz (gD G), .fz (gD O), .un]) _ _
  unfold m__law_pair_right
  cases ha : apt L G O with
  | none =>
    rw [ha] at p1 p2 n2 n3
    simp only [aptD] at p1 p2 n2 n3
    simp [d1, d2, p1, p2, q1, q2, n1, n2, n3, oNe, eqS, isN, isNon, truthD]
  | some i =>
    have hf : ∀ c ∈ diffC G O, prc L c.2.2.1 ≠ 0 := by
      intro c hc hp
      unfold apt at ha
      rw [if_pos (List.any_eq_true.mpr ⟨c, hc, by simpa using hp⟩)] at ha
      cases ha
    rw [run_diff hG hO hf] at c1
    rw [ha] at p1 p2 n2 n3
    have e1 := eq_gD O O
    simp only [aptD] at p1 p2 n2 n3
    simp [d1, d2, p1, p2, q1, q2, n1, n2, n3, oNe, eqS, isN, truthD, isNon, c1, e1]
end Lw

set_option linter.all false
set_option maxRecDepth 10000
set_option maxHeartbeats 1000000
namespace Lw
open Ml
def isgB : MS :=
  (sSeq (sIf (mNot (mTruth (mCallD F_is_edge [.val (mVar 0), .val (mVar 4)])))
  (sRet (mC (.bl false)))
  sNil)
  (sSeq (sIf (mAnd (mTest (mO2 oGt (mVar 3) (mC (.int 0)))) (mTest (mO2 oGeT (mO2 oIx (mVar 1) (mO2 oSub (mVar 3) (mC (.int 1)))) (mVar 4))))
  (sRet (mC (.bl false)))
  sNil)
  (sSeq (sSet (mSl slT (mVar 4) none (some (mC (.int 2)))) (gN 5))
  (sSeq (sIf (mAnd (mTest (mInS false (mVar 5) 2)) (mTruth (mCallD F_is_single [.val (mVar 0), .val (mO2 oIx (mVar 4) (mC (.int 1)))])))
  (sRet (mC (.bl false)))
  sNil)
  (sAddS 2 (mVar 5))))))
def plc (e : E3) : List Int := [e.1, e.2.1]
def prevB (o : Option E3) (e : E3) : Bool := match o with
  | none => true
  | some p => ltI (kE p) (kE e)
def igo (K : List Kd) (L : List Lb) : Option E3 → List (List Int) → List E3 → Bool
  | _, _, [] => true
  | o, ks, e :: r => isE K L e && (prevB o e && (!(decide (plc e ∈ ks) && isSg L e.2.1) && igo K L (some e) (if plc e ∈ ks then ks else plc e :: ks) r))
def preO (R : List E3) (k : Nat) : Option E3 := if k = 0 then none else R[k - 1]?
theorem t2_ok {sc : Dv} {R : List E3} {k : Nat} {S x5 : Slt} {e : E3} (hk : k < R.length) :
    mAnd (mTest (mO2 oGt (mVar 3) (mC (.int 0)))) (mTest (mO2 oGeT (mO2 oIx (mVar 1) (mO2 oSub (mVar 3) (mC (.int 1)))) (mVar 4))) [.fz sc, .fz (gD R), S, .fz (.int k), .fz (eD e), x5] = .ok (!prevB (preO R k) e) [.fz sc, .fz (gD R), S, .fz (.int k), .fz (eD e), x5] := by
  cases k with
  | zero => simp [oGt, preO, prevB]
  | succ j =>
    have hj : j < R.length := by omega
    have h1 : oIx (gD R) (.int (j : Int)) = some (eD R[j]) := by
      simp only [gD, oIx]; rw [getI_of (by simpa using hj)]; simp
    have h2 : oGeT (eD R[j]) (eD e) = some (.bl (!ltI (kE R[j]) (kE e))) := rfl
    have h3 : preO R (j + 1) = some R[j] := by simp [preO, hj]
    have h4 : (0 : Int) < ((j : Int) + 1) := by omega
    rw [h3]
    simp [oGt, h4, oSub, h1, h2, prevB]
theorem isg_lp {K : List Kd} {L : List Lb} {R : List E3} (hv : vK K) (hL : ∀ l ∈ L, vL K.length l) (hR : R.length ≤ 60) : ∀ {r : List E3} {k : Nat} {ks : List (List Int)} {x3 x4 x5 : Slt}, R.drop k = r → free (some x3) = true → free (some x4) = true → free (some x5) = true → ks.length ≤ k →
    ∃ e', e'.length = 6 ∧ loop (gT [(gN 3), (gN 4)]) isgB (enumD k (r.map eD)) [.fz (scD K L), .fz (gD R), .ow none (.set ks), x3, x4, x5] = if igo K L (preO R k) ks r = true then .nx e' else .rt (.fz (.bl false)) e'
  | [], k, ks, x3, x4, x5, _, _, _, _, _ => ⟨_, rfl, rfl⟩
  | e :: r, k, ks, x3, x4, x5, hd, f3, f4, f5, hks => by
    have hk : k < R.length := by
      have := congrArg List.length hd
      simp only [List.length_drop, List.length_cons] at this; omega
    rw [List.drop_eq_getElem_cons hk] at hd
    obtain ⟨he, hd'⟩ := List.cons.inj hd
    have hg : (gT [(gN 3), (gN 4)]) (.tup [.int (k : Int), eD e]) [.fz (scD K L), .fz (gD R), .ow none (.set ks), x3, x4, x5] = some [.fz (scD K L), .fz (gD R), .ow none (.set ks), .fz (.int k), .fz (eD e), x5] := by simp [f3, f4]
    have hie := is_edge_ok (a := e.1) (j := e.2.1) (b := e.2.2) hv hL
    rw [show (Dv.tup [.int e.1, .int e.2.1, .int e.2.2]) = eD e from rfl, show edgeB K L e.1 e.2.1 e.2.2 = isE K L e from rfl] at hie
    have t2 := t2_ok (sc := scD K L) (S := .ow none (.set ks)) (x5 := x5) (e := e) hk
    simp only [List.map_cons, enumD, loop, hg]
    unfold igo
    by_cases c1 : isE K L e = true
    · rw [c1] at hie
      obtain ⟨h0, h1⟩ := isE_in c1
      have hs := single_ok (K := K) h1
      rw [Int.toNat_of_nonneg h0] at hs
      by_cases c2 : prevB (preO R k) e = true
      · rw [c2] at t2
        have t4 : (mAnd (mTest (mInS false (mVar 5) 2)) (mTruth (mCallD F_is_single [.val (mVar 0), .val (mO2 oIx (mVar 4) (mC (.int 1)))]))) [.fz (scD K L), .fz (gD R), .ow none (.set ks), .fz (.int k), .fz (eD e), .fz (.tup [.int e.1, .int e.2.1])] = .ok (decide (plc e ∈ ks) && isSg L e.2.1) [.fz (scD K L), .fz (gD R), .ow none (.set ks), .fz (.int k), .fz (eD e), .fz (.tup [.int e.1, .int e.2.1])] := by
          have : tupI0 (.tup [.int e.1, .int e.2.1]) = some (plc e) := rfl
          by_cases c : plc e ∈ ks
          · simp [mInS, this, c, ix1, hs, truthD]
          · simp [mInS, this, c]
        have hb : isgB [.fz (scD K L), .fz (gD R), .ow none (.set ks), .fz (.int k), .fz (eD e), x5] = if (decide (plc e ∈ ks) && isSg L e.2.1) = true then .rt (.fz (.bl false)) [.fz (scD K L), .fz (gD R), .ow none (.set ks), .fz (.int k), .fz (eD e), .fz (.tup [.int e.1, .int e.2.1])] else .nx [.fz (scD K L), .fz (gD R), .ow none (.set (if plc e ∈ ks then ks else plc e :: ks)), .fz (.int k), .fz (eD e), .fz (.tup [.int e.1, .int e.2.1])] := by
          unfold isgB
          have f5' := f5
          simp only [ev_seq, ev_if, ev_not, ev_truth, ev_callD, call_f2, ev_var, List.getElem?_cons_zero, List.getElem?_cons_succ, Rs.bind_ok, hie, truthD, Rs.of_some, Bool.not_true, Rs.go_ok, Bool.false_eq_true, if_false, ev_nil, Sr.then_nx, t2, ev_set, ev_sl, ev_part0, ev_part1, ev_C, place_eD, ev_gN, f5, if_true, List.set_cons_succ, List.set_cons_zero, ev_nxO1, t4]
          by_cases c3 : (decide (plc e ∈ ks) && isSg L e.2.1) = true
          · simp [c3]
          · have : tupI0 (.tup [.int e.1, .int e.2.1]) = some (plc e) := rfl
            have hlt : ks.length + 1 < 64 := by omega
            simp only [c3, if_false]
            simp [sAddS, isSt, this, hlt]
        rw [hb]
        by_cases c3 : (decide (plc e ∈ ks) && isSg L e.2.1) = true
        · refine ⟨[.fz (scD K L), .fz (gD R), .ow none (.set ks), .fz (.int k), .fz (eD e), .fz (.tup [.int e.1, .int e.2.1])], rfl, ?_⟩
          simp only [c3, if_true, Bool.not_true, Bool.false_and, Bool.and_false, Bool.false_eq_true, if_false]
        · have hlen : (if plc e ∈ ks then ks else plc e :: ks).length ≤ k + 1 := by
            split
            · omega
            · simp; omega
          obtain ⟨e', hl, q⟩ := isg_lp hv hL hR (r := r) (k := k + 1) (ks := if plc e ∈ ks then ks else plc e :: ks) (x3 := .fz (.int k)) (x4 := .fz (eD e)) (x5 := .fz (.tup [.int e.1, .int e.2.1])) hd' rfl rfl rfl hlen
          refine ⟨e', hl, ?_⟩
          have hpre : preO R (k + 1) = some e := by simp [preO, hk, he]
          rw [hpre] at q
          have c3' : (decide (plc e ∈ ks) && isSg L e.2.1) = false := by simpa using c3
          simp only [c3', if_false, c1, c2, Bool.true_and, Bool.not_false, Bool.false_eq_true]
          exact q
      · have c2' : prevB (preO R k) e = false := by simpa using c2
        rw [c2'] at t2
        refine ⟨[.fz (scD K L), .fz (gD R), .ow none (.set ks), .fz (.int k), .fz (eD e), x5], rfl, ?_⟩
        have hb : isgB [.fz (scD K L), .fz (gD R), .ow none (.set ks), .fz (.int k), .fz (eD e), x5] = .rt (.fz (.bl false)) [.fz (scD K L), .fz (gD R), .ow none (.set ks), .fz (.int k), .fz (eD e), x5] := by
          unfold isgB
          simp only [ev_seq, ev_if, ev_not, ev_truth, ev_callD, call_f2, ev_var, List.getElem?_cons_zero, List.getElem?_cons_succ, Rs.bind_ok, hie, truthD, Rs.of_some, Bool.not_true, Rs.go_ok, Bool.false_eq_true, if_false, ev_nil, Sr.then_nx, t2, Bool.not_false, if_true, ev_ret, ev_C, Sr.then_rt]
        rw [hb]
        simp only [c2', Bool.false_and, Bool.and_false, Bool.false_eq_true, if_false]
    · have c1' : isE K L e = false := by simpa using c1
      rw [c1'] at hie
      refine ⟨[.fz (scD K L), .fz (gD R), .ow none (.set ks), .fz (.int k), .fz (eD e), x5], rfl, ?_⟩
      have hb : isgB [.fz (scD K L), .fz (gD R), .ow none (.set ks), .fz (.int k), .fz (eD e), x5] = .rt (.fz (.bl false)) [.fz (scD K L), .fz (gD R), .ow none (.set ks), .fz (.int k), .fz (eD e), x5] := by
        unfold isgB
        simp only [ev_seq, ev_if, ev_not, ev_truth, ev_callD, call_f2, ev_var, List.getElem?_cons_zero, List.getElem?_cons_succ, Rs.bind_ok, hie, truthD, Rs.of_some, Bool.not_false, Rs.go_ok, if_true, ev_ret, ev_C, Sr.then_rt]
      rw [hb]
      simp only [c1', Bool.false_and, Bool.false_eq_true, if_false]
def PwSg (L : List Lb) (R : List E3) : Prop := R.Pairwise fun a b => isSg L b.2.1 = true → plc a ≠ plc b
theorem plc_eq {a b : E3} : plc a = plc b ↔ a.1 = b.1 ∧ a.2.1 = b.2.1 := by simp [plc]
theorem igo_iff {K : List Kd} {L : List Lb} : ∀ {r : List E3} {o : Option E3} {ks : List (List Int)}, igo K L o ks r = true ↔ (∀ e ∈ r, isE K L e = true) ∧ Asc r ∧ (∀ e ∈ r, prevB o e = true) ∧ (∀ e ∈ r, isSg L e.2.1 = true → plc e ∉ ks) ∧ PwSg L r
  | [], o, ks => by simp [igo, Asc, PwSg]
  | e :: r, o, ks => by
    unfold igo
    simp only [Bool.and_eq_true, Bool.not_eq_true', Bool.and_eq_false_imp, decide_eq_true_eq, igo_iff (r := r)]
    have hm : ∀ x, x ∈ (if plc e ∈ ks then ks else plc e :: ks) ↔ x = plc e ∨ x ∈ ks := by
      intro x
      split
      · constructor
        · exact .inr
        · rintro (rfl | h)
          · assumption
          · exact h
      · simp
    simp only [hm]
    unfold Asc PwSg
    rw [List.pairwise_cons, List.pairwise_cons]
    simp only [List.forall_mem_cons]
    constructor
    · rintro ⟨a1, a2, a3, b1, b2, b3, b4, b5⟩
      refine ⟨⟨a1, b1⟩, ⟨b3, b2⟩, ⟨a2, fun x hx => ?_⟩, ⟨fun hs hp => ?_, fun x hx hs hp => b4 x hx hs (.inr hp)⟩, ⟨fun x hx hs hp => b4 x hx hs (.inl hp.symm), b5⟩⟩
      · cases o with
        | none => rfl
        | some p => exact ltI_trans a2 (b3 x hx)
      · have := a3 hp; rw [hs] at this; cases this
    · rintro ⟨⟨a1, b1⟩, ⟨b3, b2⟩, ⟨a2, a2'⟩, ⟨a3, a3'⟩, ⟨b5, b5'⟩⟩
      refine ⟨a1, a2, fun hp => ?_, b1, b2, b3, fun x hx hs hp => ?_, b5'⟩
      · cases hs : isSg L e.2.1 with
        | false => rfl
        | true => exact absurd hp (a3 hs)
      · rcases hp with hp | hp
        · exact b5 x hx hs hp.symm
        · exact a3' x hx hs hp
theorem pw_iff {L : List Lb} {R : List E3} (ha : Asc R) : PwSg L R ↔ SgOk L R := by
  induction R with
  | nil => simp [PwSg, SgOk]
  | cons e r ih =>
    obtain ⟨h1, h2⟩ := List.pairwise_cons.mp ha
    have ih := ih h2
    unfold PwSg at ih ⊢
    rw [List.pairwise_cons, ih]
    have ne : ∀ x ∈ r, x ≠ e := fun x hx q => by
      have := h1 x hx; rw [q, ltI_irr] at this; cases this
    constructor
    · rintro ⟨a, b⟩
      intro x hx y hy hs
      rcases List.mem_cons.mp hx with rfl | hx'
      · rcases List.mem_cons.mp hy with rfl | hy
        · exact near_self _
        · cases hn : near x y with
          | false => rfl
          | true =>
            have hlab := near_lab hn
            refine absurd ?_ (a y hy (by rw [← hlab]; exact hs))
            simp only [near, Bool.and_eq_true, decide_eq_true_eq] at hn
            exact plc_eq.mpr ⟨hn.1.1.symm, hn.1.2.symm⟩
      · rcases List.mem_cons.mp hy with hye | hy
        · subst hye
          cases hn : near x y with
          | false => rfl
          | true =>
            refine absurd ?_ (a x hx' hs)
            simp only [near, Bool.and_eq_true, decide_eq_true_eq] at hn
            exact plc_eq.mpr ⟨hn.1.1, hn.1.2⟩
        · exact b x hx' y hy hs
    · intro h
      refine ⟨fun x hx hs hp => ?_, sg_sub h fun g hg => List.mem_cons_of_mem _ hg⟩
      have := h x (List.mem_cons_of_mem _ hx) e List.mem_cons_self hs
      obtain ⟨p1, p2⟩ := plc_eq.mp hp
      have n2 : ¬ e = x := fun q => ne x hx q.symm
      simp [near, p1, p2, n2] at this
/-- the answer of both -/
def grB (K : List Kd) (L : List Lb) (R : List E3) : Bool := igo K L none [] R
theorem grB_iff {K : List Kd} {L : List Lb} {R : List E3} : grB K L R = true ↔ Gr K L R := by
  unfold grB Gr
  rw [igo_iff]
  constructor
  · rintro ⟨a, b, _, _, c⟩; exact ⟨b, a, (pw_iff b).mp c⟩
  · rintro ⟨b, a, c⟩; exact ⟨a, b, fun _ _ => rfl, fun _ _ _ => by simp, (pw_iff b).mpr c⟩
theorem is_graph_ok {K : List Kd} {L : List Lb} {R : List E3} (hv : vK K) (hL : ∀ l ∈ L, vL K.length l) (hR : R.length ≤ 60) : F_is_graph [.fz (scD K L), .fz (gD R)] = .ok (.fz (.bl (grB K L R))) [] := by
  refine fn_rt rfl rfl ?_
  show RT (m_is_graph [.fz (scD K L), .fz (gD R), .un, .un, .un, .un]) _ _
  obtain ⟨e', hl, q⟩ := isg_lp hv hL hR (r := R) (k := 0) (ks := []) (x3 := .un) (x4 := .un) (x5 := .un) rfl rfl rfl rfl (Nat.zero_le _)
  have hm : m_is_graph = sSeq (sSetO 2 mSet0) (sSeq (sFor (mItE itT (mVar 1)) (gT [(gN 3), (gN 4)]) isgB) (sRet (mC (.bl true)))) := rfl
  have itg : itT (gD R) = some (R.map eD) := rfl
  rw [hm]
  simp only [ev_seq, ev_setO, mSet0, Rs.go_ok, List.getElem?_cons_zero, List.getElem?_cons_succ, ev_free1, if_true, List.set_cons_succ, List.set_cons_zero, Sr.then_nx, ev_for, ev_itE, ev_var, Rs.bind_ok, itg, Option.map_some, Rs.of_some, q]
  unfold grB
  rw [show preO R 0 = none from rfl]
  cases igo K L none [] R with
  | true => simp only [if_true, Sr.then_nx, ev_ret, ev_C, Rs.go_ok, rt_rt, hl, and_self]
  | false => simp only [Bool.false_eq_true, if_false, Sr.then_rt, rt_rt, hl, and_self]
end Lw

set_option linter.all false
set_option maxRecDepth 10000
set_option maxHeartbeats 1000000
namespace Ml
/-- a loop whose items each pass, or end it with one and the same answer; the walked list told as a map -/
theorem loop_allA {α : Type} {g : MG} {b : MS} {I : Loc → Prop} {h : α → Dv} {P : α → Bool} {v : Slt} : ∀ {xs : List α} {e : Loc}, I e → (∀ x ∈ xs, ∀ e, I e → ∃ e1 e2, g (h x) e = some e1 ∧ I e2 ∧ (P x = true → b e1 = .nx e2) ∧ (P x = false → b e1 = .rt v e2)) →
    ∃ e', I e' ∧ loop g b (xs.map h) e = if xs.all P = true then .nx e' else .rt v e'
  | [], e, h, _ => ⟨e, h, rfl⟩
  | d :: ds, e, h, hs => by
    obtain ⟨e1, e2, hg, h2, ht, hf⟩ := hs d List.mem_cons_self e h
    cases hp : P d with
    | true =>
      obtain ⟨e', h', q⟩ := loop_allA (xs := ds) h2 fun d hd => hs d (List.mem_cons_of_mem _ hd)
      exact ⟨e', h', by simp only [List.map_cons, loop, hg, ht hp, List.all_cons, hp, Bool.true_and, q]⟩
    | false => exact ⟨e2, h2, by simp [loop, hg, hf hp, hp]⟩
end Ml
namespace Lw
open Ml
theorem row_ok (e : E3) : F__law_is_row_of_ints [.fz (eD e), .fz (.int 3)] = .ok (.fz (.bl true)) [] := by rfl
/-! sorted(set(..)) -/
def dedE : List E3 → List E3
  | [] => []
  | x :: r => if x ∈ r then dedE r else x :: dedE r
theorem kE_inj {a b : E3} (h : kE a = kE b) : a = b := by
  obtain ⟨a1, a2, a3⟩ := a; obtain ⟨b1, b2, b3⟩ := b
  simp only [kE, List.cons.injEq, and_true] at h
  obtain ⟨rfl, rfl, rfl⟩ := h; rfl
theorem mem_kE {e : E3} {l : List E3} : kE e ∈ l.map kE ↔ e ∈ l := by
  constructor
  · intro h
    obtain ⟨x, hx, hk⟩ := List.mem_map.mp h
    exact kE_inj hk ▸ hx
  · intro h; exact List.mem_map.mpr ⟨e, h, rfl⟩
theorem ded_map : ∀ l : List E3, dedupL (l.map kE) = (dedE l).map kE
  | [] => rfl
  | x :: r => by
    simp only [List.map_cons, dedupL, dedE, mem_kE, ded_map r]
    split <;> simp
theorem insL_map (x : E3) : ∀ l : List E3, insL (kE x) (l.map kE) = (insE x l).map kE
  | [] => rfl
  | y :: r => by
    simp only [List.map_cons, insL, insE, insL_map x r]
    split <;> simp
theorem srtL_map : ∀ l : List E3, srtL (l.map kE) = (sortE l).map kE
  | [] => rfl
  | x :: r => by simp only [List.map_cons, srtL, sortE, srtL_map r, insL_map]
theorem keys_eD : ∀ l : List E3, keysI (l.map eD) = some (l.map kE)
  | [] => rfl
  | e :: l => by
    have : tupI (eD e) = some (kE e) := rfl
    simp only [List.map_cons, keysI, this, keys_eD l]
theorem sortSet_eD {R : List E3} (h : R.length ≤ 60) : oSortSetT (gD R) = some ((sortE (dedE R)).map eD) := by
  have h1 : R.length < 64 := by omega
  simp only [oSortSetT, gD, sortSet, keys_eD, List.length_map, h1, if_true, ded_map, srtL_map, List.map_map]
  rfl
theorem mem_ded {x : E3} : ∀ {l : List E3}, x ∈ dedE l ↔ x ∈ l
  | [] => by simp [dedE]
  | y :: r => by
    unfold dedE
    split
    · rename_i h
      rw [mem_ded (l := r), List.mem_cons]
      constructor
      · exact .inr
      · rintro (rfl | h') <;> assumption
    · rw [List.mem_cons, List.mem_cons, mem_ded (l := r)]
theorem ded_nd : ∀ l : List E3, (dedE l).Nodup
  | [] => by simp [dedE]
  | y :: r => by
    unfold dedE
    split
    · exact ded_nd r
    · rename_i h
      exact List.nodup_cons.mpr ⟨fun hm => h (mem_ded.mp hm), ded_nd r⟩
theorem ded_id : ∀ {l : List E3}, l.Nodup → dedE l = l
  | [], _ => rfl
  | y :: r, h => by
    obtain ⟨h1, h2⟩ := List.nodup_cons.mp h
    rw [dedE, if_neg h1, ded_id h2]
theorem asc_iff {R : List E3} : R = sortE (dedE R) ↔ Asc R := by
  constructor
  · intro h; rw [h]; exact asc_sort (ded_nd R)
  · intro h; rw [ded_id (asc_nd h), sortE_id h]
theorem eq_lst (A B : List E3) : oEqD (.lst (A.map eD)) (.lst (B.map eD)) = some (.bl (decide (A = B))) := by
  unfold oEqD
  rw [if_pos ⟨by unfold lowD; exact lows_eD A, by unfold lowD; exact lows_eD B⟩]
  simp only [eqD, eqDs_eD]
theorem law_is_graph_ok {K : List Kd} {L : List Lb} {R : List E3} (hv : vK K) (hL : ∀ l ∈ L, vL K.length l) (hR : R.length ≤ 60) : F__law_is_graph [.fz (scD K L), .fz (gD R)] = .ok (.fz (.bl (grB K L R))) [] := by
  refine fn_rt rfl rfl ?_
  show RT (m__law_is_graph [.fz (scD K L), .fz (gD R), .un]) _ _
  have noN : ∀ d, oNoN d .non = some (.bl (!isNon d)) := fun d => rfl
  have olen : oLen (.tup (L.map lD)) = some (.int L.length) := by simp [oLen]
  obtain ⟨e', ⟨x', hx', rfl⟩, q⟩ := loop_allA (g := gN 2) (b := (sSeq (sIf (mOr (mNot (mTruth (mCallD F__law_is_row_of_ints [.val (mVar 2), .val (mC (.int 3))]))) (mNot (mTest (mChain oLe oLt (mC (.int 0)) (mO2 oIx (mVar 2) (mC (.int 1))) (mO1 oLen (mO2 oIx (mVar 0) (mC (.int 2))))))))
  (sRet (mC (.bl false)))
  sNil)
  (sIf (mOr (mTest (mO2 oNiD (mVar 2) (mFz (mCallO F__law_let [.val (mVar 0), .val (mO2 oIx (mVar 2) (mC (.int 1)))])))) (mTest (mO2 oNoN (mCallD F__law_held_by [.val (mVar 0), .val (mVar 1), .val (mVar 2)]) (mC .non))))
  (sRet (mC (.bl false)))
  sNil))) (I := fun e => ∃ x, free (some x) = true ∧ e = [.fz (scD K L), .fz (gD R), x]) (h := eD) (P := fun e => isE K L e && (rival L R e).isNone) (v := .fz (.bl false)) (xs := R) (e := [.fz (scD K L), .fz (gD R), .un]) ⟨_, rfl, rfl⟩ (by
    rintro o ho _ ⟨x, hx, rfl⟩
    refine ⟨[.fz (scD K L), .fz (gD R), .fz (eD o)], [.fz (scD K L), .fz (gD R), .fz (eD o)], by simp [hx], ⟨_, rfl, rfl⟩, ?_⟩
    have hrow := row_ok o
    by_cases c0 : 0 ≤ o.2.1
    · by_cases c1 : o.2.1.toNat < L.length
      · have c2 : o.2.1 < (L.length : Int) := by omega
        have hl := let_ok c1 hv (hL _ (List.getElem_mem c1))
        have hh := held_ok (K := K) (G := R) c0 c1
        have pE : isE K L o = decide ((o.1, o.2.2) ∈ letT K L[o.2.1.toNat]) := by
          have := edgeB_in (K := K) (a := o.1) (b := o.2.2) c1
          rw [Int.toNat_of_nonneg c0] at this
          exact this
        have hni := ni_tr (j := o.2.1.toNat) (a := o.1) (b := o.2.2) (T := letT K L[o.2.1.toNat])
        rw [Int.toNat_of_nonneg c0] at hl hni
        rw [show (Dv.tup [.int o.1, .int o.2.1, .int o.2.2]) = eD o from rfl, ← pE] at hni
        by_cases c3 : isE K L o = true
        · rw [c3] at hni
          cases hr : rival L R o with
          | none => rw [hr] at hh; simp [hrow, truthD, ix1, oLe, oLt, c0, c2, sc_2, olen, hl, hni, hh, noN, rvD, isNon, c3]
          | some p => rw [hr] at hh; simp [hrow, truthD, ix1, oLe, oLt, c0, c2, sc_2, olen, hl, hni, hh, noN, rvD, isNon_eD, c3]
        · have c3' : isE K L o = false := by simpa using c3
          rw [c3'] at hni
          simp [hrow, truthD, ix1, oLe, oLt, c0, c2, sc_2, olen, hl, hni, c3']
      · have c2 : ¬ o.2.1 < (L.length : Int) := by omega
        have pE : isE K L o = false := edgeB_hi c1
        simp [hrow, truthD, ix1, oLe, oLt, c0, c2, sc_2, olen, pE]
    · have pE : isE K L o = false := edgeB_lo c0
      simp [hrow, truthD, ix1, oLe, oLt, c0, pE])
  have hs := sortSet_eD hR
  have he := eq_lst R (sortE (dedE R))
  have itg : itT (gD R) = some (R.map eD) := rfl
  have ist : oIsT (gD R) = some (.bl true) := rfl
  have lsg : listD (gD R) = some (R.map eD) := rfl
  have key : grB K L R = ((R.all fun e => isE K L e && (rival L R e).isNone) && decide (R = sortE (dedE R))) := by
    rw [Bool.eq_iff_iff, grB_iff]
    simp only [Bool.and_eq_true, List.all_eq_true, decide_eq_true_eq, asc_iff, Option.isNone_iff_eq_none, rival_none]
    unfold Gr SgOk
    constructor
    · rintro ⟨a, b, c⟩; exact ⟨fun x hx => ⟨b x hx, fun hs o ho => c x hx o ho hs⟩, a⟩
    · rintro ⟨a, b⟩; exact ⟨b, fun x hx => (a x hx).1, fun x hx o ho hs => (a x hx).2 hs o ho⟩
  unfold m__law_is_graph
  simp only [ev_seq, ev_if, ev_not, ev_truth, ev_O1, ev_var, List.getElem?_cons_zero, List.getElem?_cons_succ, Rs.bind_ok, ist, Rs.of_some, truthD, Rs.go_ok, Bool.not_true, Bool.false_eq_true, if_false, ev_nil, Sr.then_nx, ev_for, ev_it, itg]
  rw [q, key]
  cases (R.all fun e => isE K L e && (rival L R e).isNone) with
  | true => simp [lsg, hs, he]
  | false => simp
end Lw

set_option linter.all false
set_option maxRecDepth 10000
set_option maxHeartbeats 1000000
namespace Ml
theorem call_vov {e : Loc} {i : Nat} {j : Option Nat} {ds ds' : List Dv} {ma mb : ME Dv} {a b v : Dv} {F : Fn} (he : e[i]? = some (.ow j (.lst ds))) (h1 : ma e = .ok a e) (h2 : mb e = .ok b e) (h : F [.fz a, .ow none (.lst ds), .fz b] = .ok (.fz v) [.lst ds']) :
    mCallD F [.val ma, .own i, .val mb] e = .ok v (e.set i (.ow j (.lst ds'))) := by
  simp [mCallD, mCall, mAs, h1, he, isOw, h2, owns, resolve, h, wback, putO]
theorem call_ovv {e e1 e2 : Loc} {i : Nat} {j : Option Nat} {ds0 ds ds' : List Dv} {ma mb : ME Dv} {a b v : Dv} {F : Fn} (he : e[i]? = some (.ow j (.lst ds0))) (h1 : ma e = .ok a e1) (h2 : mb e1 = .ok b e2) (he2 : e2[i]? = some (.ow j (.lst ds))) (h : F [.ow none (.lst ds), .fz a, .fz b] = .ok (.fz v) [.lst ds']) :
    mCallD F [.own i, .val ma, .val mb] e = .ok v (e2.set i (.ow j (.lst ds'))) := by
  simp [mCallD, mCall, mAs, h1, he, isOw, h2, owns, resolve, he2, h, wback, putO]
theorem set_self {e : Loc} {i : Nat} {s : Slt} (h : e[i]? = some s) : e.set i s = e := by
  obtain ⟨hi, h⟩ := List.getElem?_eq_some_iff.mp h
  rw [← h]; exact List.set_getElem_self hi
end Ml
namespace Lw
open Ml
/-- all edges of a label that are let -/
def lE (K : List Kd) (L : List Lb) (j : Nat) : List E3 := ((L[j]?.map fun l => letT K l).getD []).map fun p => (p.1, (j : Int), p.2)
theorem lE_in {K : List Kd} {L : List Lb} {j : Nat} (h : j < L.length) : (lE K L j).map eD = (letT K L[j]).map (tr j) := by
  simp only [lE, List.getElem?_eq_getElem h, Option.map_some, Option.getD_some, List.map_map]; rfl
theorem lE_isE {K : List Kd} {L : List Lb} {j : Nat} {x : E3} (h : x ∈ lE K L j) : isE K L x = true := by
  unfold lE at h
  by_cases c : j < L.length
  · simp only [List.getElem?_eq_getElem c, Option.map_some, Option.getD_some] at h
    obtain ⟨p, hp, rfl⟩ := List.mem_map.mp h
    have := edgeB_in (K := K) (a := p.1) (b := p.2) c
    unfold isE
    rw [this]; simpa using hp
  · rw [List.getElem?_eq_none (by omega)] at h; simp at h
theorem lE_len {K : List Kd} {L : List Lb} {j : Nat} (hv : vK K) : (lE K L j).length ≤ 576 := by
  unfold lE
  cases h : L[j]? with
  | none => simp
  | some l => simpa using len_letT hv l
section
variable {ns : List Int} {K : List Kd} {L : List Lb}
theorem dlet {e : Loc} {j : Option Nat} {ds : List Dv} (hv : vK K) (hL : ∀ l ∈ L, vL K.length l) (h1 : 1 ≤ L.length) (h2 : L.length ≤ 1000) (hd : Dr ns ds) (he : e[0]? = some (.ow j (.lst ds))) (hs : e[1]? = some (.fz (scD K L))) :
    ∃ (E : List E3) (ds' : List Dv), mFz (mCallO F__law_let [.val (mVar 1), .val (mCallD F__law_draw [.own 0, .val (mO1 oLen (mO2 oIx (mVar 1) (mC (.int 2))))])]) e = .ok (.lst (E.map eD)) (e.set 0 (.ow j (.lst ds'))) ∧ (∀ x ∈ E, isE K L x = true) ∧ E.length ≤ 576 ∧ Dr ns ds' := by
  have olen : oLen (.tup (L.map lD)) = some (.int L.length) := by simp [oLen]
  obtain ⟨k, ds', q, k1, k2, hd'⟩ := cdraw (ns := ns) (ds := ds) (e := e) (i := 0) (j := j) (ma := mO1 oLen (mO2 oIx (mVar 1) (mC (.int 2)))) (m := L.length) hd he (by simp [hs, sc_2, olen]) (by omega) (by omega)
  obtain ⟨k, rfl⟩ := Int.eq_ofNat_of_zero_le k1
  have hk : k < L.length := by omega
  have hl := let_ok (K := K) hk hv (hL _ (List.getElem_mem hk))
  rw [← lE_in hk] at hl
  refine ⟨lE K L k, ds', ?_, fun x hx => lE_isE hx, lE_len hv, hd'⟩
  have hv1 : mVar 1 e = .ok (scD K L) e := by simp [hs]
  simp only [ev_fz, ev_callO, call_f2, hv1, Rs.bind_ok, q, hl, ev_toD, Rs.of_some]
theorem cpickE {e : Loc} {i : Nat} {j : Option Nat} {ds : List Dv} {ma : ME Dv} {E : List E3} (hd : Dr ns ds) (he : e[i]? = some (.ow j (.lst ds))) (hm : ma e = .ok (.lst (E.map eD)) e) (h1 : E ≠ []) (h2 : E.length ≤ 1000) :
    ∃ x ds', mCallD F__law_pick [.own i, .val ma] e = .ok (eD x) (e.set i (.ow j (.lst ds'))) ∧ x ∈ E ∧ Dr ns ds' := by
  obtain ⟨x, ds', q, hx, hd'⟩ := cpick (ns := ns) (xs := E.map eD) hd he hm (by simpa using h1) (by simp; omega)
  obtain ⟨o, ho, rfl⟩ := List.mem_map.mp hx
  exact ⟨o, ds', q, ho, hd'⟩
def LG (most : Nat) (K : List Kd) (L : List Lb) (ds : List Dv) (F : List E3) (x4 x5 x6 : Slt) : Loc := [.ow (some 0) (.lst ds), .fz (scD K L), .fz (.int (most : Int)), .ow none (.lst (F.map eD)), x4, x5, x6]
def OkF (K : List Kd) (L : List Lb) (F : List E3) : Prop := F.Nodup ∧ (∀ e ∈ F, isE K L e = true) ∧ SgOk L F
theorem graph_step {most : Nat} {ds : List Dv} {F : List E3} {x4 x5 x6 : Slt} (hv : vK K) (hL : ∀ l ∈ L, vL K.length l) (h1 : 1 ≤ L.length) (h2 : L.length ≤ 1000) (hd : Dr ns ds) (f5 : free (some x5) = true) (f6 : free (some x6) = true) (hF : OkF K L F) (hl : F.length ≤ 200) :
    ∃ e', (sSeq (sSet (mFz (mCallO F__law_let [.val (mVar 1), .val (mCallD F__law_draw [.own 0, .val (mO1 oLen (mO2 oIx (mVar 1) (mC (.int 2))))])])) (gN 5))
  (sIf (mTest (mO2 oGt (mO1 oLen (mVar 5)) (mC (.int 0))))
  (sSeq (sSet (mCallD F__law_pick [.own 0, .val (mVar 5)]) (gN 6))
  (sIf (mAnd (mTest (mInOD true (mVar 6) 3)) (mTest (mO2 oIsN (mCallD F__law_held_by__1 [.val (mVar 1), .own 3, .val (mVar 6)]) (mC .non))))
  (sApp 3 (mVar 6))
  sNil))
  sNil)) (LG most K L ds F x4 x5 x6) = .nx e' ∧ ∃ ds' F' x5' x6', e' = LG most K L ds' F' x4 x5' x6' ∧ Dr ns ds' ∧ free (some x5') = true ∧ free (some x6') = true ∧ OkF K L F' ∧ F'.length ≤ F.length + 1 := by
  obtain ⟨E, ds1, q1, hE, hEl, hd1⟩ := dlet (ns := ns) (e := LG most K L ds F x4 x5 x6) hv hL h1 h2 hd rfl rfl
  refine nx_seq (e1 := LG most K L ds1 F x4 (.fz (.lst (E.map eD))) x6) (by rw [ev_set, q1]; simp [LG, f5]) ?_
  have ol : oLen (.lst (E.map eD)) = some (.int E.length) := by simp [oLen]
  refine nx_if (x := decide ((0 : Int) < E.length)) (e1 := LG most K L ds1 F x4 (.fz (.lst (E.map eD))) x6) (by simp only [LG, ev_test, ev_O2, ev_O1, ev_var, List.getElem?_cons_succ, List.getElem?_cons_zero, Rs.bind_ok, ol, Rs.of_some, ev_C, oGt]) ?_ (fun _ => nx_nil ⟨ds1, F, _, _, rfl, hd1, rfl, f6, hF, by omega⟩)
  intro hpos
  have hne : E ≠ [] := by
    intro c; subst c; simp at hpos
  obtain ⟨o, ds2, q2, ho, hd2⟩ := cpickE (ns := ns) (ds := ds1) (e := LG most K L ds1 F x4 (.fz (.lst (E.map eD))) x6) (i := 0) (ma := mVar 5) hd1 rfl rfl hne (by omega)
  refine nx_seq (e1 := LG most K L ds2 F x4 (.fz (.lst (E.map eD))) (.fz (eD o))) (by rw [ev_set, q2]; simp [LG, f6]) ?_
  obtain ⟨c0, c1⟩ := isE_in (hE o ho)
  have hh := heldO_ok (K := K) (G := F) c0 c1 (by omega)
  have hc := call_vov (e := LG most K L ds2 F x4 (.fz (.lst (E.map eD))) (.fz (eD o))) (i := 3) (j := none) (ma := mVar 1) (mb := mVar 6) (F := F__law_held_by__1) rfl rfl rfl hh
  rw [set_self rfl] at hc
  have hni : mInOD true (mVar 6) 3 (LG most K L ds2 F x4 (.fz (.lst (E.map eD))) (.fz (eD o))) = .ok (.bl (!decide (o ∈ F))) (LG most K L ds2 F x4 (.fz (.lst (E.map eD))) (.fz (eD o))) := by
    have h2 : lowD 60 (.lst (F.map eD)) = true := by unfold lowD; exact lows_eD F
    simp only [mInOD, LG, ev_var, List.getElem?_cons_succ, List.getElem?_cons_zero, Rs.bind_ok, if_true, wNiD, eD_low o, h2, any_eD, and_self, Rs.of_some]
  have isN : ∀ d, oIsN d .non = some (.bl (isNon d)) := fun d => rfl
  have ht : (mAnd (mTest (mInOD true (mVar 6) 3)) (mTest (mO2 oIsN (mCallD F__law_held_by__1 [.val (mVar 1), .own 3, .val (mVar 6)]) (mC .non)))) (LG most K L ds2 F x4 (.fz (.lst (E.map eD))) (.fz (eD o))) = .ok (!decide (o ∈ F) && (rival L F o).isNone) (LG most K L ds2 F x4 (.fz (.lst (E.map eD))) (.fz (eD o))) := by
    simp only [ev_and, ev_test, hni, Rs.bind_ok, ev_O2, hc, ev_C, isN, Rs.of_some]
    by_cases c : o ∈ F
    · simp [c]
    · cases hr : rival L F o with
      | none => simp [c, rvD, isNon]
      | some p => simp [c, rvD, isNon_eD]
  refine nx_if ht ?_ (fun _ => nx_nil ⟨ds2, F, _, _, rfl, hd2, rfl, rfl, hF, by omega⟩)
  intro hx
  simp only [Bool.and_eq_true, Bool.not_eq_true', decide_eq_false_iff_not, Option.isNone_iff_eq_none] at hx
  refine ⟨LG most K L ds2 (F ++ [o]) x4 (.fz (.lst (E.map eD))) (.fz (eD o)), ?_, ds2, F ++ [o], _, _, rfl, hd2, rfl, rfl, ⟨?_, ?_, sg_add hF.2.2 hx.2⟩, by simp⟩
  · have hlt : (F.map eD).length < lim := by have := limv; simp; omega
    rw [ev_app, if_pos (by rfl)]
    simp only [LG, ev_var, List.getElem?_cons_succ, List.getElem?_cons_zero, Rs.go_ok, hlt, if_true]
    simp
  · rw [List.nodup_append]
    exact ⟨hF.1, by simp, fun a ha b hb hab => by
      simp only [List.mem_singleton] at hb
      subst hb; subst hab; exact hx.1 ha⟩
  · intro x hxx
    rcases List.mem_append.mp hxx with hxx | hxx
    · exact hF.2.1 x hxx
    · simp only [List.mem_singleton] at hxx
      subst hxx; exact hE _ ho
theorem graph_ok {most : Nat} {ds : List Dv} (hmost : most ≤ 100) (hv : vK K) (hL : ∀ l ∈ L, vL K.length l) (h1 : 1 ≤ L.length) (h2 : L.length ≤ 1000) (hd : Dr ns ds) :
    ∃ G ds', F__law_graph [.ow none (.lst ds), .fz (scD K L), .fz (.int (most : Int))] = .ok (.fz (gD G)) [.lst ds'] ∧ Dr ns ds' ∧ Gr K L G ∧ G.length ≤ most := by
  obtain ⟨e1, q1, ds1, F, x4, x5, x6, rfl, f4, f5, f6, hd1, hF, hl⟩ := loop_inv (g := gN 4) (b := (sSeq (sSet (mFz (mCallO F__law_let [.val (mVar 1), .val (mCallD F__law_draw [.own 0, .val (mO1 oLen (mO2 oIx (mVar 1) (mC (.int 2))))])])) (gN 5))
  (sIf (mTest (mO2 oGt (mO1 oLen (mVar 5)) (mC (.int 0))))
  (sSeq (sSet (mCallD F__law_pick [.own 0, .val (mVar 5)]) (gN 6))
  (sIf (mAnd (mTest (mInOD true (mVar 6) 3)) (mTest (mO2 oIsN (mCallD F__law_held_by__1 [.val (mVar 1), .own 3, .val (mVar 6)]) (mC .non))))
  (sApp 3 (mVar 6))
  sNil))
  sNil)))
    (ds := (List.range most).map fun (k : Nat) => Dv.int (k : Int)) (e := LG most K L ds [] .un .un .un)
    (fun k e => ∃ ds F x4 x5 x6, e = LG most K L ds F x4 x5 x6 ∧ free (some x4) = true ∧ free (some x5) = true ∧ free (some x6) = true ∧ Dr ns ds ∧ OkF K L F ∧ F.length ≤ k)
    ⟨ds, [], .un, .un, .un, rfl, rfl, rfl, rfl, hd, ⟨List.nodup_nil, by simp, by simp [SgOk]⟩, by simp⟩
    (fun k d e hk he => by
      obtain ⟨ds, F, x4, x5, x6, rfl, f4, f5, f6, hd, hF, hl⟩ := he
      have hkm : k < most := by
        have := (List.getElem?_eq_some_iff.mp hk).1
        simpa using this
      obtain ⟨e', q, ds', F', x5', x6', rfl, hd', f5', f6', hF', hl'⟩ := graph_step (ns := ns) (x4 := .fz d) hv hL h1 h2 hd f5 f6 hF (by omega)
      exact ⟨LG most K L ds F (.fz d) x5 x6, _, by simp [LG, f4], .inl q, ds', F', _, _, _, rfl, rfl, f5', f6', hd', hF', by omega⟩)
  simp only [List.length_map, List.length_range] at hl
  have hs := sortT_eD F
  refine ⟨sortE F, ds1, ?_, hd1, ⟨asc_sort hF.1, fun e he => hF.2.1 e (mem_sortE.mp he), sg_sub hF.2.2 fun x hx => mem_sortE.mp hx⟩, by rw [sortE_len]; omega⟩
  refine fn_ok rfl rfl (e := [.ow (some 0) (.lst ds1), .fz (scD K L), .fz (.int (most : Int)), .fz (.lst (F.map eD)), x4, x5, x6]) ?_ rfl
  show m__law_graph [.ow (some 0) (.lst ds), .fz (scD K L), .fz (.int (most : Int)), .un, .un, .un, .un] = _
  have r8 : itR 0 (most : Int) = some ((List.range most).map fun (j : Nat) => Dv.int (j : Int)) := itR_nat (n := most) (by omega)
  unfold m__law_graph
  simp only [ev_seq, ev_setO, ev_lst, ev_args0, Rs.bind_ok, List.length_nil, Nat.zero_le, if_true, Rs.go_ok, List.getElem?_cons_succ, List.getElem?_cons_zero, ev_free1, List.set_cons_succ, List.set_cons_zero, Sr.then_nx, ev_for, ev_rg1, ev_var, r8, Rs.of_some]
  rw [show ([.ow (some 0) (.lst ds), .fz (scD K L), .fz (.int (most : Int)), .ow none (.lst []), .un, .un, .un] : Loc) = LG most K L ds [] .un .un .un from rfl, q1]
  simp only [Sr.then_nx, ev_frz, LG, ev_ret, ev_O1, ev_fz, ev_N1, ev_var, List.getElem?_cons_succ, List.getElem?_cons_zero, List.set_cons_succ, List.set_cons_zero, Rs.bind_ok, hs, Option.map_some, Rs.of_some, ev_toD, Rs.go_ok, oTup_eD]
end
end Lw

set_option linter.all false
set_option maxRecDepth 10000
set_option maxHeartbeats 1000000
namespace Ml
/-- it returns, the first slot an argument that is owned -/
def RO (r : Sr) (Q : Slt → Ob → Prop) (n : Nat) : Prop := ∃ s o e, r = .rt s e ∧ e.length = n ∧ e[0]? = some (.ow (some 0) o) ∧ Q s o
section
variable {a b : MS} {e e1 : Loc} {Q : Slt → Ob → Prop} {n : Nat} {t : ME Bool} {m : ME Dv} {d : Dv}
theorem ro_nx (h : a e = .nx e1) (hb : RO (b e1) Q n) : RO (sSeq a b e) Q n := by rw [ev_seq, h]; exact hb
theorem ro_rt (h : RO (a e) Q n) : RO (sSeq a b e) Q n := by
  obtain ⟨s, o, e', q, r⟩ := h
  exact ⟨s, o, e', by rw [ev_seq, q]; rfl, r⟩
theorem ro_t (h : t e = .ok true e1) (ha : RO (a e1) Q n) : RO (sIf t a b e) Q n := by rw [if_t h]; exact ha
theorem ro_f (h : t e = .ok false e1) (hb : RO (b e1) Q n) : RO (sIf t a b e) Q n := by rw [if_f h]; exact hb
theorem ro_ret {o : Ob} (h : m e = .ok d e1) (hl : e1.length = n) (h0 : e1[0]? = some (.ow (some 0) o)) (hq : Q (.fz d) o) : RO (sRet m e) Q n := ⟨.fz d, o, e1, by rw [ev_ret, h]; rfl, hl, h0, hq⟩
theorem fn_own {np nl : Nat} {o0 : Ob} {as : List Slt} (h1 : as.length + 1 = np) (h2 : allFz as = true) (h : RO (b (.ow (some 0) o0 :: (as ++ List.replicate nl .un))) Q (np + nl)) : ∃ s o, mkFn np nl b (.ow none o0 :: as) = .ok s [o] ∧ Q s o := by
  obtain ⟨s, o, e, q, hl, h0, hq⟩ := h
  obtain ⟨a1, a2, a3⟩ := allFz_arg h2
  refine ⟨s, o, ?_, hq⟩
  refine fn_ok (e := e) (by simpa using h1) (by simp [isArg, a1]) (by simp only [initE, a2, List.cons_append]; exact q) ?_
  cases e with
  | nil => simp at h0
  | cons s0 e =>
    simp only [List.getElem?_cons_zero, Option.some.injEq] at h0
    subst h0
    simp only [outsE, if_true]
    rw [a3 1 e (by simp only [List.length_cons] at hl; omega)]
    rfl
end
end Ml
namespace Lw
open Ml
section
variable {ns : List Int} {K : List Kd} {L : List Lb}
theorem cpick2 {e e1 : Loc} {i : Nat} {j : Option Nat} {ds0 ds xs : List Dv} {ma : ME Dv} (hd : Dr ns ds) (he : e[i]? = some (.ow j (.lst ds0))) (hm : ma e = .ok (.lst xs) e1) (he1 : e1[i]? = some (.ow j (.lst ds))) (h1 : xs ≠ []) (h2 : xs.length < 1000) :
    ∃ x ds', mCallD F__law_pick [.own i, .val ma] e = .ok x (e1.set i (.ow j (.lst ds'))) ∧ x ∈ xs ∧ Dr ns ds' := by
  obtain ⟨x, ds', h, hx, hd'⟩ := pick_ok hd h1 (by omega)
  exact ⟨x, ds', call_2 he hm he1 h, hx, hd'⟩
theorem cat_ok (w : List Nat) (e : E3) : oCatT (.tup [.str w]) (eD e) = some (hD (w, e)) := by simp [oCatT, eD, hD, cD, limv]
def chD (r : Option (List Nat × E3)) : Dv := match r with
  | none => .non
  | some c => hD c
def okW (w : List Nat) : Prop := w = t14 ∨ w = t6
def QC (ns : List Int) (K : List Kd) (L : List Lb) (s : Slt) (o : Ob) : Prop := ∃ r ds', s = .fz (chD r) ∧ o = .lst ds' ∧ Dr ns ds' ∧ ∀ c, r = some c → okW c.1 ∧ isE K L c.2 = true
def CE (ds : List Dv) (K : List Kd) (L : List Lb) (G : List E3) (x3 x4 : Slt) : Loc := [.ow (some 0) (.lst ds), .fz (scD K L), .fz (gD G), x3, x4, .un, .un]
def posL (L : List Lb) (j : Nat) : Bool := decide (0 < prc L j)
def letL (K : List Kd) (L : List Lb) (j : Nat) : Bool := decide ((0 : Int) < (lE K L j).length)
def intD (j : Nat) : Dv := .int (j : Int)
theorem change_draw {ds : List Dv} {G : List E3} (hv : vK K) (hL : ∀ l ∈ L, vL K.length l) (h2 : L.length ≤ 1000) (hd : Dr ns ds) (hG : G.length ≤ 500) (hE : ∀ e ∈ G, isE K L e = true) :
    RO (m__law_change (CE ds K L G .un .un)) (QC ns K L) 7 := by
  have hlim := limv
  have olen : oLen (.tup (L.map lD)) = some (.int L.length) := by simp [oLen]
  have i3 : ∀ a b c d e : Dv, oIx (.tup [a, b, c, d, e]) (.int 3) = some d := fun _ _ _ _ _ => rfl
  have hr : itR 0 (L.length : Int) = some ((List.range L.length).map intD) := itR_nat (by omega)
  have m1 : mLc (mRg1 (mO1 oLen (mO2 oIx (mVar 1) (mC (.int 2))))) (gN 5) (mTest (mO2 oGt (mO2 oIx (mO2 oIx (mO2 oIx (mVar 1) (mC (.int 2))) (mVar 5)) (mC (.int 3))) (mC (.int 0)))) (mVar 5) [5] (CE ds K L G .un .un) = .ok (.lst (((List.range L.length).filter (posL L)).map intD)) (CE ds K L G .un .un) := by
    refine mlc_filtA (h := intD) (by simp [CE, sc_2, olen, hr]) rfl (by simp; omega) (fun j hj => ?_) rfl
    have hj' : j < L.length := by simpa using hj
    have hx := ix_l hj'
    exact ⟨[.ow (some 0) (.lst ds), .fz (scD K L), .fz (gD G), .un, .un, .fz (intD j), .un], [.ow (some 0) (.lst ds), .fz (scD K L), .fz (gD G), .un, .un, .fz (intD j), .un], rfl, by simp [intD, sc_2, hx, i3, oGt, posL, prc_in, hj'], rfl, rfl, rfl⟩
  generalize hN1 : (List.range L.length).filter (posL L) = N1 at m1
  have hin : ∀ j ∈ N1, j < L.length := by
    intro j hj; rw [← hN1] at hj
    have := (List.mem_filter.mp hj).1
    simpa using this
  have hl1 : N1.length ≤ 1000 := by
    rw [← hN1]
    have := List.length_filter_le (posL L) (List.range L.length)
    simp at this; omega
  have m2 : mLc (mIt itL (mVar 3)) (gN 5) (mTest (mO2 oGt (mO1 oLen (mFz (mCallO F__law_let [.val (mVar 1), .val (mVar 5)]))) (mC (.int 0)))) (mVar 5) [5] (CE ds K L G (.fz (.lst (N1.map intD))) .un) = .ok (.lst ((N1.filter (letL K L)).map intD)) (CE ds K L G (.fz (.lst (N1.map intD))) .un) := by
    refine mlc_filtA (h := intD) (by simp [CE, itL]) rfl (by omega) (fun j hj => ?_) rfl
    have hj' := hin j hj
    have hl := let_ok (K := K) hj' hv (hL _ (List.getElem_mem hj'))
    rw [← lE_in hj'] at hl
    have ol : oLen (.lst ((lE K L j).map eD)) = some (.int (lE K L j).length) := by simp [oLen]
    refine ⟨[.ow (some 0) (.lst ds), .fz (scD K L), .fz (gD G), .fz (.lst (N1.map intD)), .un, .fz (intD j), .un], [.ow (some 0) (.lst ds), .fz (scD K L), .fz (gD G), .fz (.lst (N1.map intD)), .un, .fz (intD j), .un], rfl, ?_, rfl, rfl, rfl⟩
    simp only [ev_test, ev_O2, ev_O1, ev_fz, ev_callO, call_f2, ev_var, List.getElem?_cons_succ, List.getElem?_cons_zero, Rs.bind_ok, intD, hl, ev_toD, Rs.of_some, ol, ev_C, oGt, letL]
  generalize hN2 : N1.filter (letL K L) = N2 at m2
  have hin2 : ∀ j ∈ N2, j < L.length ∧ letL K L j = true := by
    intro j hj; rw [← hN2] at hj
    exact ⟨hin j (List.mem_filter.mp hj).1, (List.mem_filter.mp hj).2⟩
  have hl2 : N2.length ≤ 1000 := by
    rw [← hN2]
    have := List.length_filter_le (letL K L) N1
    omega
  let P3 : E3 → Bool := fun e => (N2.map intD).any fun y => eqF y (.int e.2.1)
  have m3 : mLc (mIt itT (mVar 2)) (gN 6) (mTest (mO2 oIn (mO2 oIx (mVar 6) (mC (.int 1))) (mVar 3))) (mVar 6) [6] (CE ds K L G (.fz (.lst (N2.map intD))) .un) = .ok (.lst ((G.filter P3).map eD)) (CE ds K L G (.fz (.lst (N2.map intD))) .un) := by
    refine mlc_filtA (h := eD) rfl rfl (by omega) (fun o ho => ?_) rfl
    have hfl : (N2.map intD).all flatD = true := by
      rw [List.all_eq_true]; intro d hd
      obtain ⟨j, _, rfl⟩ := List.mem_map.mp hd; rfl
    have h1 : oIn (.int o.2.1) (.lst (N2.map intD)) = some (.bl (P3 o)) := by
      simp only [oIn, seqD, Option.bind_some, flatD, hfl, and_self, if_true]; rfl
    refine ⟨[.ow (some 0) (.lst ds), .fz (scD K L), .fz (gD G), .fz (.lst (N2.map intD)), .un, .un, .fz (eD o)], [.ow (some 0) (.lst ds), .fz (scD K L), .fz (gD G), .fz (.lst (N2.map intD)), .un, .un, .fz (eD o)], rfl, ?_, rfl, rfl, rfl⟩
    simp only [ev_test, ev_O2, ev_var, List.getElem?_cons_succ, List.getElem?_cons_zero, Rs.bind_ok, ix1, ev_C, Rs.of_some, h1]
  generalize hT : G.filter P3 = T at m3
  have hlT : T.length ≤ 500 := by
    rw [← hT]
    have := List.length_filter_le P3 G
    omega
  unfold m__law_change
  refine ro_nx (e1 := CE ds K L G (.fz (.lst (N1.map intD))) .un) (by rw [ev_set, ev_fz, m1]; rfl) ?_
  refine ro_nx (e1 := CE ds K L G (.fz (.lst (N2.map intD))) .un) (by rw [ev_set, ev_fz, m2]; rfl) ?_
  refine ro_nx (e1 := CE ds K L G (.fz (.lst (N2.map intD))) (.fz (.lst (T.map eD)))) (by rw [ev_set, ev_fz, m3]; rfl) ?_
  have oT : oLen (.lst (T.map eD)) = some (.int T.length) := by simp [oLen]
  have o2 : oLen (.lst (N2.map intD)) = some (.int N2.length) := by simp [oLen]
  -- the rest, whatever was drawn
  have rest : ∀ ds1, Dr ns ds1 → RO ((sSeq (sIf (mTest (mO2 oEq (mO1 oLen (mVar 3)) (mC (.int 0))))
  (sRet (mC .non))
  sNil)
  (sRet (mO2 oCatT (mTup [(mCallD F__law_pick [.own 0, .val (mFz (mLst [(mC (.str t14)), (mC (.str t14)), (mC (.str t14)), (mC (.str t6))]))])]) (mCallD F__law_pick [.own 0, .val (mFz (mCallO F__law_let [.val (mVar 1), .val (mCallD F__law_pick [.own 0, .val (mVar 3)])]))])))) (CE ds1 K L G (.fz (.lst (N2.map intD))) (.fz (.lst (T.map eD))))) (QC ns K L) 7 := by
    intro ds1 hd1
    by_cases c : N2 = []
    · subst c
      refine ro_rt (ro_t (e1 := CE ds1 K L G (.fz (.lst ([].map intD))) (.fz (.lst (T.map eD)))) (by simp [CE, oLen, oEq, eqS]) ?_)
      exact ro_ret rfl rfl rfl ⟨none, ds1, rfl, rfl, hd1, by simp⟩
    · have hlen : ¬ ((N2.length : Int) = 0) := by
        intro h; exact c (List.length_eq_zero_iff.mp (by omega))
      refine ro_nx (e1 := CE ds1 K L G (.fz (.lst (N2.map intD))) (.fz (.lst (T.map eD)))) (by rw [if_f (e1 := CE ds1 K L G (.fz (.lst (N2.map intD))) (.fz (.lst (T.map eD)))) (by simp [CE, o2, oEq, eqS, c])]; rfl) ?_
      obtain ⟨x, ds2, q2, hx, hd2⟩ := cpick (ns := ns) (ds := ds1) (e := CE ds1 K L G (.fz (.lst (N2.map intD))) (.fz (.lst (T.map eD)))) (i := 0) (j := some 0) (ma := mFz (mLst [(mC (.str t14)), (mC (.str t14)), (mC (.str t14)), (mC (.str t6))])) (xs := [.str t14, .str t14, .str t14, .str t6]) hd1 rfl rfl (by simp) (by simp)
      rw [show (CE ds1 K L G (.fz (.lst (N2.map intD))) (.fz (.lst (T.map eD)))).set 0 (.ow (some 0) (.lst ds2)) = CE ds2 K L G (.fz (.lst (N2.map intD))) (.fz (.lst (T.map eD))) from rfl] at q2
      obtain ⟨w, hw, rfl⟩ : ∃ w, okW w ∧ x = .str w := by
        simp only [List.mem_cons, List.not_mem_nil, or_false] at hx
        rcases hx with rfl | rfl | rfl | rfl
        · exact ⟨t14, .inl rfl, rfl⟩
        · exact ⟨t14, .inl rfl, rfl⟩
        · exact ⟨t14, .inl rfl, rfl⟩
        · exact ⟨t6, .inr rfl, rfl⟩
      obtain ⟨y, ds3, q3, hy, hd3⟩ := cpick (ns := ns) (ds := ds2) (e := CE ds2 K L G (.fz (.lst (N2.map intD))) (.fz (.lst (T.map eD)))) (i := 0) (j := some 0) (ma := mVar 3) (xs := N2.map intD) hd2 rfl rfl (by simpa using c) (by simp; omega)
      rw [show (CE ds2 K L G (.fz (.lst (N2.map intD))) (.fz (.lst (T.map eD)))).set 0 (.ow (some 0) (.lst ds3)) = CE ds3 K L G (.fz (.lst (N2.map intD))) (.fz (.lst (T.map eD))) from rfl] at q3
      obtain ⟨j, hj, rfl⟩ := List.mem_map.mp hy
      obtain ⟨hj1, hj2⟩ := hin2 j hj
      have hl := let_ok (K := K) hj1 hv (hL _ (List.getElem_mem hj1))
      rw [← lE_in hj1] at hl
      have hne : lE K L j ≠ [] := by
        intro h; rw [letL, h] at hj2; simp at hj2
      have hll := lE_len (L := L) (j := j) hv
      obtain ⟨z, ds4, q4, hz, hd4⟩ := cpick2 (ns := ns) (ds := ds3) (ds0 := ds2) (e := CE ds2 K L G (.fz (.lst (N2.map intD))) (.fz (.lst (T.map eD)))) (e1 := CE ds3 K L G (.fz (.lst (N2.map intD))) (.fz (.lst (T.map eD)))) (i := 0) (j := some 0) (ma := mFz (mCallO F__law_let [.val (mVar 1), .val (mCallD F__law_pick [.own 0, .val (mVar 3)])])) (xs := (lE K L j).map eD) hd3 rfl (by
        have hv1 : mVar 1 (CE ds2 K L G (.fz (.lst (N2.map intD))) (.fz (.lst (T.map eD)))) = .ok (scD K L) (CE ds2 K L G (.fz (.lst (N2.map intD))) (.fz (.lst (T.map eD)))) := rfl
        simp only [ev_fz, ev_callO, call_f2, hv1, Rs.bind_ok, q3, intD, hl, ev_toD, Rs.of_some]) rfl (by simpa using hne) (by simp; omega)
      rw [show (CE ds3 K L G (.fz (.lst (N2.map intD))) (.fz (.lst (T.map eD)))).set 0 (.ow (some 0) (.lst ds4)) = CE ds4 K L G (.fz (.lst (N2.map intD))) (.fz (.lst (T.map eD))) from rfl] at q4
      obtain ⟨o, ho, rfl⟩ := List.mem_map.mp hz
      refine ro_ret (d := hD (w, o)) (e1 := CE ds4 K L G (.fz (.lst (N2.map intD))) (.fz (.lst (T.map eD)))) (o := .lst ds4) ?_ rfl rfl ⟨some (w, o), ds4, rfl, rfl, hd4, fun c hc => by cases hc; exact ⟨hw, lE_isE ho⟩⟩
      simp only [ev_O2, ev_tup, ev_args1, ev_args0, q2, Rs.bind_ok, List.length_cons, List.length_nil, Nat.reduceAdd, Nat.reduceLeDiff, if_true, q4, cat_ok, Rs.of_some]
  by_cases cT : T = []
  · subst cT
    refine ro_nx (e1 := CE ds K L G (.fz (.lst (N2.map intD))) (.fz (.lst ([].map eD)))) (by rw [if_f (e1 := CE ds K L G (.fz (.lst (N2.map intD))) (.fz (.lst ([].map eD)))) (by simp [CE, oLen, oGt])]; rfl) (rest ds hd)
  · have hpos : (0 : Int) < T.length := by
      have := List.length_pos_iff.mpr cT; omega
    obtain ⟨k, ds1, q1, k1, k2, hd1⟩ := cdraw (ns := ns) (ds := ds) (e := CE ds K L G (.fz (.lst (N2.map intD))) (.fz (.lst (T.map eD)))) (i := 0) (j := some 0) (ma := mC (.int 5)) (m := 5) hd rfl rfl (by omega) (by omega)
    rw [show (CE ds K L G (.fz (.lst (N2.map intD))) (.fz (.lst (T.map eD)))).set 0 (.ow (some 0) (.lst ds1)) = CE ds1 K L G (.fz (.lst (N2.map intD))) (.fz (.lst (T.map eD))) from rfl] at q1
    have ht : (mAnd (mTest (mO2 oGt (mO1 oLen (mVar 4)) (mC (.int 0)))) (mTest (mO2 oLt (mCallD F__law_draw [.own 0, .val (mC (.int 5))]) (mC (.int 2))))) (CE ds K L G (.fz (.lst (N2.map intD))) (.fz (.lst (T.map eD)))) = .ok (decide (k < 2)) (CE ds1 K L G (.fz (.lst (N2.map intD))) (.fz (.lst (T.map eD)))) := by
      have hv4 : mVar 4 (CE ds K L G (.fz (.lst (N2.map intD))) (.fz (.lst (T.map eD)))) = .ok (.lst (T.map eD)) (CE ds K L G (.fz (.lst (N2.map intD))) (.fz (.lst (T.map eD)))) := rfl
      simp only [ev_and, ev_test, ev_O2, ev_O1, hv4, Rs.bind_ok, oT, Rs.of_some, ev_C, oGt, hpos, decide_true, if_true, q1, oLt]
    by_cases ck : k < 2
    · rw [decide_eq_true ck] at ht
      refine ro_rt (ro_t ht ?_)
      obtain ⟨o, ds2, q2, ho, hd2⟩ := cpickE (ns := ns) (ds := ds1) (e := CE ds1 K L G (.fz (.lst (N2.map intD))) (.fz (.lst (T.map eD)))) (i := 0) (j := some 0) (ma := mVar 4) hd1 rfl rfl cT (by omega)
      rw [show (CE ds1 K L G (.fz (.lst (N2.map intD))) (.fz (.lst (T.map eD)))).set 0 (.ow (some 0) (.lst ds2)) = CE ds2 K L G (.fz (.lst (N2.map intD))) (.fz (.lst (T.map eD))) from rfl] at q2
      refine ro_ret (d := hD (t6, o)) (e1 := CE ds2 K L G (.fz (.lst (N2.map intD))) (.fz (.lst (T.map eD)))) (o := .lst ds2) ?_ rfl rfl ⟨some (t6, o), ds2, rfl, rfl, hd2, fun c hc => by cases hc; exact ⟨.inr rfl, hE _ (by rw [← hT] at ho; exact (List.mem_filter.mp ho).1)⟩⟩
      simp only [ev_O2, ev_tup, ev_args1, ev_args0, ev_C, Rs.bind_ok, List.length_cons, List.length_nil, Nat.reduceAdd, Nat.reduceLeDiff, if_true, q2, cat_ok, Rs.of_some]
    · rw [decide_eq_false ck] at ht
      exact ro_nx (e1 := CE ds1 K L G (.fz (.lst (N2.map intD))) (.fz (.lst (T.map eD)))) (by rw [if_f ht]; rfl) (rest ds1 hd1)
theorem law_change_ok {ds : List Dv} {G : List E3} (hv : vK K) (hL : ∀ l ∈ L, vL K.length l) (h2 : L.length ≤ 1000) (hd : Dr ns ds) (hG : G.length ≤ 500) (hE : ∀ e ∈ G, isE K L e = true) :
    ∃ r ds', F__law_change [.ow none (.lst ds), .fz (scD K L), .fz (gD G)] = .ok (.fz (chD r)) [.lst ds'] ∧ Dr ns ds' ∧ ∀ c, r = some c → okW c.1 ∧ isE K L c.2 = true := by
  obtain ⟨s, o, q, r, ds', rfl, rfl, hd', hr⟩ := fn_own (np := 3) (nl := 4) (b := m__law_change) (o0 := .lst ds) (as := [.fz (scD K L), .fz (gD G)]) (Q := QC ns K L) rfl rfl (change_draw hv hL h2 hd hG hE)
  exact ⟨r, ds', q, hd', hr⟩
end
end Lw

set_option linter.all false
set_option maxRecDepth 10000
set_option maxHeartbeats 1000000
/-! More that the laws share: calls, equality of data, changes that are drawn. -/
namespace Ml
theorem call_4 {e e1 e2 e3 : Loc} {i : Nat} {j : Option Nat} {ds0 ds ds' : List Dv} {ma mb mc : ME Dv} {a b c v : Dv} {F : Fn} (he : e[i]? = some (.ow j (.lst ds0))) (h1 : ma e = .ok a e1) (h2 : mb e1 = .ok b e2) (h3 : mc e2 = .ok c e3) (he3 : e3[i]? = some (.ow j (.lst ds)))
    (h : F [.ow none (.lst ds), .fz a, .fz b, .fz c] = .ok (.fz v) [.lst ds']) : mCallD F [.own i, .val ma, .val mb, .val mc] e = .ok v (e3.set i (.ow j (.lst ds'))) := by
  simp [mCallD, mCall, mAs, he, isOw, h1, h2, h3, owns, resolve, he3, h, wback, putO]
theorem app_ok {e e1 : Loc} {i : Nat} {j : Option Nat} {m : ME Dv} {d : Dv} {xs : List Dv} (hi : isLs e[i]? = true) (h : m e = .ok d e1) (h1 : e1[i]? = some (.ow j (.lst xs))) (hl : xs.length < lim) : sApp i m e = .nx (e1.set i (.ow j (.lst (xs ++ [d])))) := by
  rw [ev_app, if_pos hi, h]
  simp only [Rs.go_ok, h1, hl, if_true]
theorem callO_ovvv {e : Loc} {i : Nat} {j : Option Nat} {ds ds' ys : List Dv} {ma mb mc : ME Dv} {a b c : Dv} {F : Fn} (he : e[i]? = some (.ow j (.lst ds))) (h1 : ma e = .ok a e) (h2 : mb e = .ok b e) (h3 : mc e = .ok c e) (h : F [.ow none (.lst ds), .fz a, .fz b, .fz c] = .ok (.ow none (.lst ys)) [.lst ds']) :
    mCallO F [.own i, .val ma, .val mb, .val mc] e = .ok (.lst ys) (e.set i (.ow j (.lst ds'))) := by
  simp [mCallO, mCall, mAs, h1, he, isOw, h2, h3, owns, resolve, h, wback, putO]
theorem call_ov {e e1 : Loc} {i : Nat} {j : Option Nat} {ds0 ds ds' : List Dv} {ma : ME Dv} {a v : Dv} {F : Fn} (he : e[i]? = some (.ow j (.lst ds0))) (h1 : ma e = .ok a e1) (he1 : e1[i]? = some (.ow j (.lst ds))) (h : F [.ow none (.lst ds), .fz a] = .ok (.fz v) [.lst ds']) :
    mCallD F [.own i, .val ma] e = .ok v (e1.set i (.ow j (.lst ds'))) := by
  simp [mCallD, mCall, mAs, h1, he, isOw, owns, resolve, he1, h, wback, putO]
theorem call_f4 {e : Loc} {F : Fn} {ma mb mc md : ME Dv} {a b c d v : Dv} (h1 : ma e = .ok a e) (h2 : mb e = .ok b e) (h3 : mc e = .ok c e) (h4 : md e = .ok d e) (h : F [.fz a, .fz b, .fz c, .fz d] = .ok (.fz v) []) :
    mCallD F [.val ma, .val mb, .val mc, .val md] e = .ok v e := by
  simp [mCallD, mCall, mAs, h1, h2, h3, h4, owns, resolve, h, wback]
mutual
theorem eqD_rf : ∀ (n : Nat) (d : Dv), lowD n d = true → eqD d d = true
  | _, .non, _ => by simp [eqD, eqF]
  | _, .bl _, _ => by simp [eqD, eqF]
  | _, .int _, _ => by simp [eqD, eqF]
  | _, .str _, _ => by simp [eqD, eqF]
  | 0, .tup a, h => by simp [lowD] at h
  | 0, .lst a, h => by simp [lowD] at h
  | n + 1, .tup a, h => by
    simp only [lowD] at h
    simp only [eqD, eqDs_rf n a h]
  | n + 1, .lst a, h => by
    simp only [lowD] at h
    simp only [eqD, eqDs_rf n a h]
  | 0, .scr _, h => by simp [lowD] at h
  | 0, .dct _ _, h => by simp [lowD] at h
  | 0, .exc _ _ _, h => by simp [lowD] at h
  | n + 1, .scr _, h => by simp [lowD] at h
  | n + 1, .dct _ _, h => by simp [lowD] at h
  | n + 1, .exc _ _ _, h => by simp [lowD] at h
theorem eqDs_rf : ∀ (n : Nat) (ds : List Dv), lowDs n ds = true → eqDs ds ds = true
  | _, [], _ => by simp [eqDs]
  | n, d :: ds, h => by
    simp only [lowDs, Bool.and_eq_true] at h
    simp only [eqDs, eqD_rf n d h.1, eqDs_rf n ds h.2, Bool.and_self]
end
/-- a walk that counts -/
theorem enum_range {f : Nat → Dv} : ∀ {n k : Nat}, enumD k ((List.range' k n).map f) = (List.range' k n).map fun j => .tup [.int (j : Int), f j]
  | 0, k => rfl
  | n + 1, k => by
    simp only [List.range'_succ, List.map_cons, enumD, enum_range]
end Ml
namespace Lw
open Ml
theorem eq_low {d : Dv} (h1 : lowD 60 d = true) : oEqD d d = some (.bl true) := eq_self h1 (eqD_rf 60 d h1)
theorem ne_low {d : Dv} (h1 : lowD 60 d = true) : oNeD d d = some (.bl false) := ne_self h1 (eqD_rf 60 d h1)
theorem okW_low {w : List Nat} (h : okW w) (n : Nat) : lowD n (.str w) = true := by
  rcases h with rfl | rfl
  · exact low_put n
  · exact low_take n
theorem out_put {L : List Lb} {G : List E3} {w : List Nat} {e : E3} (c : ¬ w = t6) (ho : outW L G w e = t7) : e ∉ G ∧ rival L G e = none := by
  unfold outW at ho
  rw [if_neg c] at ho
  by_cases c2 : e ∈ G
  · rw [if_pos c2] at ho; exact absurd ho n97
  · rw [if_neg c2] at ho
    cases hr : rival L G e with
    | none => exact ⟨c2, rfl⟩
    | some o => rw [hr] at ho; exact absurd ho n107
theorem out_take {L : List Lb} {G : List E3} {e : E3} (ho : outW L G t6 e = t7) : e ∈ G := by
  unfold outW at ho
  rw [if_pos rfl] at ho
  by_cases c2 : e ∈ G
  · exact c2
  · rw [if_neg c2] at ho; exact absurd ho n87
theorem nd_app {G : List E3} {e : E3} (h1 : Asc G) (h : e ∉ G) : (G ++ [e]).Nodup := by
  rw [List.nodup_append]
  exact ⟨asc_nd h1, by simp, fun a ha b hb hab => by
    simp only [List.mem_singleton] at hb
    subst hb; subst hab; exact h ha⟩
theorem out_wc {K : List Kd} {L : List Lb} {G : List E3} {w : List Nat} {e : E3} (hG : Gr K L G) (he : isE K L e = true) (ho : outW L G w e = t7) : Gr K L (wcG G w e) := by
  obtain ⟨h1, h2, h3⟩ := hG
  unfold wcG
  by_cases c : w = t6
  · rw [if_pos c]
    exact ⟨h1.filter _, fun x hx => h2 x (List.mem_filter.mp hx).1, sg_sub h3 fun x hx => (List.mem_filter.mp hx).1⟩
  · rw [if_neg c]
    have hn := out_put c ho
    refine ⟨asc_sort (nd_app h1 hn.1), fun x hx => ?_, sg_sub (sg_add h3 hn.2) fun x hx => mem_sortE.mp hx⟩
    rcases List.mem_append.mp (mem_sortE.mp hx) with hx | hx
    · exact h2 x hx
    · simp only [List.mem_singleton] at hx
      subst hx; exact he
theorem nodup_one {l : List E3} {e : E3} (hn : l.Nodup) (h : ∀ x, x ∈ l ↔ x = e) : l = [e] :=
  List.perm_singleton.mp ((List.perm_ext_iff_of_nodup hn (by simp)).mpr fun x => by rw [h]; simp)
theorem nodup_len {α : Type} [DecidableEq α] : ∀ {a b : List α}, a.Nodup → (∀ x ∈ a, x ∈ b) → a.length ≤ b.length
  | [], b, _, _ => Nat.zero_le _
  | x :: a, b, hn, h => by
    obtain ⟨h1, h2⟩ := List.nodup_cons.mp hn
    have hx := h x List.mem_cons_self
    have := nodup_len (b := b.erase x) h2 fun y hy => (List.mem_erase_of_ne (fun q : y = x => h1 (by rw [← q]; exact hy))).mpr (h y (List.mem_cons_of_mem _ hy))
    rw [List.length_erase_of_mem hx] at this
    have := List.length_pos_of_mem hx
    simp only [List.length_cons]; omega
section
variable {ns : List Int}
theorem cpickI {e : Loc} {i : Nat} {j : Option Nat} {ds : List Dv} {ma : ME Dv} {xs : List Int} (hd : Dr ns ds) (he : e[i]? = some (.ow j (.lst ds))) (hm : ma e = .ok (.lst (xs.map .int)) e) (h1 : xs ≠ []) (h2 : xs.length < 1000) :
    ∃ x ds', mCallD F__law_pick [.own i, .val ma] e = .ok (.int x) (e.set i (.ow j (.lst ds'))) ∧ x ∈ xs ∧ Dr ns ds' := by
  obtain ⟨x, ds', q, hx, hd'⟩ := cpick (ns := ns) (xs := xs.map .int) hd he hm (by simpa using h1) (by simp; omega)
  obtain ⟨o, ho, rfl⟩ := List.mem_map.mp hx
  exact ⟨o, ds', q, ho, hd'⟩
end
/-- how many edges of a label are let -/
theorem nds_le {K : List Kd} {q : Nat} (h : ∀ k ∈ K, k.2 ≤ (q : Int)) (i : Nat) : (nds K i).length ≤ q := by
  unfold nds cnt
  rw [List.length_map, List.length_range]
  cases hk : K[i]? with
  | none => simp
  | some x => have := h x (List.mem_of_getElem? hk); simp; omega
theorem lE_le {K : List Kd} {L : List Lb} {j q : Nat} (h : ∀ k ∈ K, k.2 ≤ (q : Int)) : (lE K L j).length ≤ q * q := by
  unfold lE
  cases hl : L[j]? with
  | none => simp
  | some l =>
    simp only [Option.map_some, Option.getD_some, List.length_map]
    unfold letT
    rw [List.length_flatMap]
    have h1 := nds_le h l.s.toNat
    generalize nds K l.s.toNat = S at *
    have : ∀ S : List Int, ((S.map fun a => (((nds K l.t.toNat).filter (okE l a)).map fun b => (a, b)).length).sum) ≤ q * S.length := by
      intro S
      induction S with
      | nil => simp
      | cons a S ih =>
        have h2 := nds_le h l.t.toNat
        have h3 : (((nds K l.t.toNat).filter (okE l a)).map fun b => (a, b)).length ≤ q := by
          rw [List.length_map]
          exact Nat.le_trans (List.length_filter_le _ _) h2
        simp only [List.map_cons, List.sum_cons, List.length_cons, Nat.mul_succ]
        omega
    exact Nat.le_trans (this S) (Nat.mul_le_mul_left q h1)
theorem mem_lE {K : List Kd} {L : List Lb} {e : E3} (h : isE K L e = true) : e ∈ lE K L e.2.1.toNat := by
  obtain ⟨c0, c1⟩ := isE_in h
  unfold lE
  rw [List.getElem?_eq_getElem c1]
  refine List.mem_map.mpr ⟨(e.1, e.2.2), ?_, by rw [Int.toNat_of_nonneg c0]⟩
  have := edgeB_in (K := K) (a := e.1) (b := e.2.2) c1
  rw [Int.toNat_of_nonneg c0] at this
  unfold isE at h
  rw [this] at h
  simpa using h
end Lw

set_option linter.all false
set_option maxRecDepth 10000
set_option maxHeartbeats 1000000
/-! repr(a) == repr(b) of equal data. -/
namespace Ml
mutual
theorem eqR_rf : ∀ (n : Nat) (d : Dv), showD n d = true → eqR d d = true
  | _, .non, _ => by simp [eqR]
  | _, .bl _, _ => by simp [eqR]
  | _, .int _, _ => by simp [eqR]
  | _, .str _, _ => by simp [eqR]
  | 0, .tup a, h => by simp [showD] at h
  | 0, .lst a, h => by simp [showD] at h
  | n + 1, .tup a, h => by
    simp only [showD] at h
    simp only [eqR, eqRs_rf n a h]
  | n + 1, .lst a, h => by
    simp only [showD] at h
    simp only [eqR, eqRs_rf n a h]
  | 0, .scr _, h => by simp [showD] at h
  | 0, .dct _ _, h => by simp [showD] at h
  | 0, .exc _ _ _, h => by simp [showD] at h
  | n + 1, .scr _, h => by simp [showD] at h
  | n + 1, .dct _ _, h => by simp [showD] at h
  | n + 1, .exc _ _ _, h => by simp [showD] at h
theorem eqRs_rf : ∀ (n : Nat) (ds : List Dv), showDs n ds = true → eqRs ds ds = true
  | _, [], _ => by simp [eqRs]
  | n, d :: ds, h => by
    simp only [showDs, Bool.and_eq_true] at h
    simp only [eqRs, eqR_rf n d h.1, eqRs_rf n ds h.2, Bool.and_self]
end
theorem showDs_all {n : Nat} : ∀ {ds : List Dv}, (∀ d ∈ ds, showD n d = true) → showDs n ds = true
  | [], _ => by simp [showDs]
  | d :: ds, h => by
    simp only [showDs, h d List.mem_cons_self, showDs_all fun x hx => h x (List.mem_cons_of_mem _ hx), Bool.and_self]
theorem wtDs_all {b : Nat} : ∀ {ds : List Dv}, (∀ d ∈ ds, wtD d ≤ b) → wtDs ds ≤ (b + 1) * ds.length
  | [], _ => by simp [wtDs]
  | d :: ds, h => by
    have h1 := h d List.mem_cons_self
    have h2 := wtDs_all (b := b) (ds := ds) fun x hx => h x (List.mem_cons_of_mem _ hx)
    simp only [wtDs, List.length_cons, Nat.mul_succ]
    omega
theorem showD_map {α : Type} {f : α → Dv} {n : Nat} {l : List α} (h : ∀ x ∈ l, showD n (f x) = true) : showDs n (l.map f) = true := showDs_all fun d hd => by
  obtain ⟨x, hx, rfl⟩ := List.mem_map.mp hd
  exact h x hx
theorem wtD_map {α : Type} {f : α → Dv} {b : Nat} {l : List α} (h : ∀ x ∈ l, wtD (f x) ≤ b) : wtDs (l.map f) ≤ (b + 1) * l.length := by
  have := wtDs_all (b := b) (ds := l.map f) fun d hd => by
    obtain ⟨x, hx, rfl⟩ := List.mem_map.mp hd
    exact h x hx
  simpa using this
theorem okR_tup {ds : List Dv} (h : showDs 49 ds = true) (w : wtDs ds ≤ 1000000) : okR (.tup ds) = true := by
  simp only [okR, isSeq, showD, h, wtD, w, decide_true, Bool.and_self]
theorem repEq_ok {neg : Bool} {d : Dv} (h : okR d = true) : oRepEq neg d d = some (.bl (!neg)) := by
  have : eqR d d = true := by
    unfold okR at h
    simp only [Bool.and_eq_true] at h
    exact eqR_rf 50 d h.1.2
  simp [oRepEq, h, this]
theorem mRep_ok {neg : Bool} {ma mb : ME Dv} {e e1 e2 : Loc} {d : Dv} (ha : ma e = .ok d e1) (hb : mb e1 = .ok d e2) (h : okR d = true) : mRepEq neg ma mb e = .ok (.bl (!neg)) e2 := by
  simp only [mRepEq, ha, Rs.bind_ok, h, if_true, hb, repEq_ok h, Rs.of_some]
theorem showD_int {n : Nat} {i : Int} (h : i.natAbs < 1000000000000) : showD n (.int i) = true := by cases n <;> simp [showD, h]
theorem showD_str {n : Nat} {s : List Nat} (h : (s.all fun c => decide (c < 1114112)) = true) : showD n (.str s) = true := by cases n <;> simpa [showD] using h
theorem showD_non {n : Nat} : showD n .non = true := by cases n <;> rfl
theorem showD_tup {n : Nat} {ds : List Dv} : showD (n + 1) (.tup ds) = showDs n ds := by simp [showD]
end Ml

set_option linter.all false
set_option maxRecDepth 100000
set_option maxHeartbeats 4000000
namespace K60x
open Ml Lw
def u0 : List Nat := [97, 108, 108]
def u1 : List Nat := [99, 111, 117, 110, 116]
def u2 : List Nat := [102, 105, 114, 115, 116]
def u3 : List Nat := [98, 121]
def u4 : List Nat := [111, 110, 108, 121]
def m_finished : MS :=
  (sSeq (sSet (mO2 oIx (mVar 1) (mC (.int 0))) (gN 2))
  (sSeq (sIf (mTest (mO2 oEqD (mVar 2) (mC (.str u0))))
  (sRet (mVar 0))
  sNil)
  (sSeq (sIf (mTest (mO2 oEqD (mVar 2) (mC (.str u1))))
  (sRet (mO1 oLen (mVar 0)))
  sNil)
  (sSeq (sIf (mTest (mO2 oEqD (mVar 2) (mC (.str u2))))
  (sRet (mSl slT (mVar 0) none (some (mO2 oIx (mVar 1) (mC (.int 1))))))
  sNil)
  (sSeq (sSetO 3 mDct0)
  (sSeq (sFor (mIt itT (mVar 0)) (gN 4)
  (sSeq (sSet (mO2 oIx (mVar 4) (mO2 oIx (mVar 1) (mC (.int 1)))) (gN 5))
  (sDPut 3 (mVar 5) (mO2 oAdd (mDGetD 3 (mVar 5) (mC (.int 0))) (mC (.int 1))))))
  (sRet (mIte (mTest (mO2 oEqD (mVar 2) (mC (.str u3)))) (mO1 oTup (mFz (mSortIt 3))) (mO1 oTup (mFz (mSortKs 3)))))))))))
def F_finished : Fn := mkFn 2 4 m_finished
def m__law_shuffled : MS :=
  (sSeq (sSetO 2 (mN1 listD (mVar 1)))
  (sSeq (sSetO 3 (mLst []))
  (sSeq (sFor (mRg1 (mOwn 2 wLen)) (gN 4)
  (sApp 3 (mPopAt 2 (mCallD Lw.F__law_draw [.own 0, .val (mOwn 2 wLen)]))))
  (sRetV 3))))
def F__law_shuffled : Fn := mkFn 2 3 m__law_shuffled
def m__law_up : MS :=
  (sRet (mO1 oTup (mFz (mN1 oSortSetB (mVar 0)))))
def F__law_up : Fn := mkFn 1 0 m__law_up
def m__law_same (R : Fn) : MS :=
  (sSeq (sIf (mTruth (mO1 oIsT (mVar 1)))
  (sSeq (sIf (mOr (mNot (mTruth (mO1 oIsT (mVar 0)))) (mTest (mO2 oNe (mO1 oLen (mVar 0)) (mO1 oLen (mVar 1)))))
  (sRet (mC (.bl false)))
  sNil)
  (sRet (mO1 oAll (mFz (mLc (mRg1 (mO1 oLen (mVar 1))) (gN 2) mYes (mCallD R [.val (mO2 oIx (mVar 0) (mVar 2)), .val (mO2 oIx (mVar 1) (mVar 2))]) [2])))))
  sNil)
  (sSeq (sIf (mTruth (mO1 oIsS (mVar 1)))
  (sRet (mAndV (mO1 oIsS (mVar 0)) (mO2 oEqD (mVar 0) (mVar 1))))
  sNil)
  (sRet (mAndV (mCallD Lw.F__law_is_int [.val (mVar 0)]) (mO2 oEqD (mVar 0) (mVar 1))))))
def F__law_same : Nat → Fn
  | 0 => Fud
  | n + 1 => mkFn 2 1 (m__law_same (F__law_same n))
def m__law_table_of : MS :=
  (sSeq (sIf (mTest (mO2 oEq (mVar 1) (mC (.int 0))))
  (sRet (mIte (mTest (mO2 oEq (mCallD Lw.F__law_draw [.own 0, .val (mC (.int 2))]) (mC (.int 1)))) (mTup [(mTup [])]) (mTup [])))
  sNil)
  (sSeq (sSet (mO2 oAdd (mC (.int 1)) (mCallD Lw.F__law_draw [.own 0, .val (mC (.int 4))])) (gN 2))
  (sSeq (sSet (mCallD Lw.F__law_draw [.own 0, .val (mC (.int 15))]) (gN 3))
  (sSeq (sSet (mFz (mLc (mRg1 (mO2 oAdd (mC (.int 1)) (mCallD Lw.F__law_draw [.own 0, .val (mC (.int 9))]))) (gN 11) mYes (mO2 oAdd (mVar 3) (mVar 11)) [11])) (gN 4))
  (sSeq (sSet (mFz (mLc (mIt itL (mVar 4)) (gN 8) mYes (mTup [(mVar 8)]) [8])) (gN 5))
  (sSeq (sIf (mTest (mO2 oEq (mVar 1) (mC (.int 2))))
  (sSeq (sSet (mCallD Lw.F__law_draw [.own 0, .val (mC (.int 16))]) (gN 6))
  (sSeq (sSet (mFz (mLc (mRg1 (mO2 oAdd (mC (.int 1)) (mCallD Lw.F__law_draw [.own 0, .val (mC (.int 8))]))) (gN 11) mYes (mO2 oAdd (mVar 6) (mVar 11)) [11])) (gN 7))
  (sSeq (sSet (mFz (mLst [])) (gN 5))
  (sFor (mIt itL (mVar 4)) (gN 8)
  (sSet (mFz (mN2 oCat (mVar 5) (mFz (mLc (mIt itL (mVar 7)) (gN 12) mYes (mTup [(mVar 8), (mVar 12)]) [12])))) (gN 5))))))
  sNil)
  (sSeq (sSetO 9 (mLst []))
  (sSeq (sFor (mIt itL (mVar 5)) (gN 10)
  (sIf (mTest (mO2 oLt (mCallD Lw.F__law_draw [.own 0, .val (mC (.int 5))]) (mVar 2)))
  (sApp 9 (mVar 10))
  sNil))
  (sFrz 9 (sRet (mO1 oTup (mVar 9))))))))))))
def F__law_table_of : Fn := mkFn 2 11 m__law_table_of
def m__law_due : MS :=
  (sSeq (sIf (mTest (mO2 oEqD (mO2 oIx (mVar 1) (mC (.int 0))) (mC (.str u0))))
  (sRet (mVar 0))
  sNil)
  (sSeq (sIf (mTest (mO2 oEqD (mO2 oIx (mVar 1) (mC (.int 0))) (mC (.str u1))))
  (sRet (mO1 oLen (mVar 0)))
  sNil)
  (sSeq (sIf (mTest (mO2 oEqD (mO2 oIx (mVar 1) (mC (.int 0))) (mC (.str u2))))
  (sRet (mO1 oTup (mFz (mLc (mRg1 (mO1 oLen (mVar 0))) (gN 3) (mTest (mO2 oLt (mVar 3) (mO2 oIx (mVar 1) (mC (.int 1))))) (mO2 oIx (mVar 0) (mVar 3)) [3]))))
  sNil)
  (sSeq (sSet (mCallD F__law_up [.val (mFz (mLc (mIt itT (mVar 0)) (gN 4) mYes (mO2 oIx (mVar 4) (mO2 oIx (mVar 1) (mC (.int 1)))) [4]))]) (gN 2))
  (sSeq (sIf (mTest (mO2 oEqD (mO2 oIx (mVar 1) (mC (.int 0))) (mC (.str u4))))
  (sRet (mVar 2))
  sNil)
  (sRet (mO1 oTup (mFz (mLc (mIt itT (mVar 2)) (gN 5) mYes (mTup [(mVar 5), (mO1 oLen (mFz (mLc (mIt itT (mVar 0)) (gN 4) (mTest (mO2 oEq (mO2 oIx (mVar 4) (mO2 oIx (mVar 1) (mC (.int 1)))) (mVar 5))) (mVar 4) [4])))]) [5])))))))))
def F__law_due : Fn := mkFn 2 4 m__law_due
def m__law_finishes : MS :=
  (sSeq (sSet (mFz (mLst [(mTup [(mC (.str u0))]), (mTup [(mC (.str u1))]), (mTup [(mC (.str u2)), (mC (.int 0))]), (mTup [(mC (.str u2)), (mC (.int 1))]), (mTup [(mC (.str u2)), (mCallD Lw.F__law_draw [.own 0, .val (mO2 oAdd (mO1 oLen (mVar 1)) (mC (.int 3)))])])])) (gN 3))
  (sSeq (sFor (mRg1 (mVar 2)) (gN 4)
  (sSet (mFz (mN2 oCat (mVar 3) (mFz (mLst [(mTup [(mC (.str u3)), (mVar 4)]), (mTup [(mC (.str u4)), (mVar 4)])])))) (gN 3)))
  (sRetO (mCallO F__law_shuffled [.own 0, .val (mVar 3)]))))
def F__law_finishes : Fn := mkFn 3 2 m__law_finishes
def m_law : MS :=
  (sSeq (sSetO 2 (mLst []))
  (sSeq (sFor (mRg1 (mC (.int 2))) (gN 3)
  (sSeq (sSet (mCallD Lw.F__law_pick [.own 1, .val (mFz (mLst [(mC (.int 0)), (mC (.int 1)), (mC (.int 1)), (mC (.int 2)), (mC (.int 2)), (mC (.int 2)), (mC (.int 2))]))]) (gN 4))
  (sSeq (sSet (mCallD F__law_table_of [.own 1, .val (mVar 4)]) (gN 5))
  (sApp 2 (mTup [(mVar 5), (mFz (mCallO F__law_finishes [.own 1, .val (mVar 5), .val (mVar 4)]))])))))
  (sFrz 2 (sSeq (sFor (mIt itL (mFz (mLst [(mO2 oIx (mVar 2) (mC (.int 0))), (mO2 oIx (mVar 2) (mC (.int 1))), (mO2 oIx (mVar 2) (mC (.int 0)))]))) (gT [(gN 5), (gN 6)])
  (sFor (mIt itL (mVar 6)) (gN 7)
  (sIf (mNot (mTruth (mCallD (F__law_same 6) [.val (mCallD F_finished [.val (mVar 5), .val (mVar 7)]), .val (mCallD F__law_due [.val (mVar 5), .val (mVar 7)])])))
  (sRet (mC (.bl false)))
  sNil)))
  (sRet (mC (.bl true)))))))
theorem law_eq : K60.m_law = m_law := rfl
end K60x

set_option linter.all false
set_option maxRecDepth 10000
set_option maxHeartbeats 1000000
namespace K60x
open Ml Lw
/-! the same data -/
mutual
def smD : Nat → Dv → Bool
  | n + 1, .int _ => true
  | n + 1, .str s => s.all fun c => decide (c < 1114112)
  | n + 1, .tup ds => decide (ds.length ≤ 1000000) && smDs n ds
  | _, _ => false
def smDs : Nat → List Dv → Bool
  | _, [] => true
  | n, d :: ds => smD n d && smDs n ds
end
theorem smDs_get : ∀ {n : Nat} {ds : List Dv} {i : Nat} {d : Dv}, smDs n ds = true → ds[i]? = some d → smD n d = true
  | n, [], i, d, _, h => by simp at h
  | n, x :: ds, 0, d, hs, h => by
    simp only [smDs, Bool.and_eq_true] at hs
    simp only [List.getElem?_cons_zero, Option.some.injEq] at h
    rw [← h]; exact hs.1
  | n, x :: ds, i + 1, d, hs, h => by
    simp only [smDs, Bool.and_eq_true] at hs
    exact smDs_get hs.2 (by simpa using h)
theorem smDs_map {α : Type} {f : α → Dv} {n : Nat} : ∀ {l : List α}, (∀ x ∈ l, smD n (f x) = true) → smDs n (l.map f) = true
  | [], _ => by simp [smDs]
  | x :: l, h => by simp only [List.map_cons, smDs, h x List.mem_cons_self, smDs_map fun y hy => h y (List.mem_cons_of_mem _ hy), Bool.and_self]
theorem bools_true {α : Type} : ∀ l : List α, boolsOf (l.map fun _ => Dv.bl true) = some (l.map fun _ => true)
  | [] => rfl
  | a :: l => by simp only [List.map_cons, boolsOf, bools_true l]; rfl
theorem same_ok : ∀ {n : Nat} {d : Dv}, smD n d = true → F__law_same n [.fz d, .fz d] = .ok (.fz (.bl true)) []
  | 0, d, h => by cases d <;> simp [smD] at h
  | n + 1, .int i, _ => by
    refine fn_rt rfl rfl ?_
    show RT (m__law_same (F__law_same n) [.fz (.int i), .fz (.int i), .un]) _ _
    have h1 : Lw.F__law_is_int [.fz (.int i)] = .ok (.fz (.bl true)) [] := rfl
    have h2 := oEqD_int i i
    simp [m__law_same, oIsT, oIsS, truthD, h1, h2]
  | n + 1, .str s, h => by
    refine fn_rt rfl rfl ?_
    show RT (m__law_same (F__law_same n) [.fz (.str s), .fz (.str s), .un]) _ _
    have h2 : oEqD (.str s) (.str s) = some (.bl true) := eq_low (by simpa [lowD, smD] using h)
    simp [m__law_same, oIsT, oIsS, truthD, h2]
  | n + 1, .tup ds, h => by
    simp only [smD, Bool.and_eq_true, decide_eq_true_eq] at h
    have hlim := limv
    refine fn_rt rfl rfl ?_
    show RT (m__law_same (F__law_same n) [.fz (.tup ds), .fz (.tup ds), .un]) _ _
    have ol : oLen (.tup ds) = some (.int ds.length) := rfl
    have hr : itR 0 (ds.length : Int) = some ((List.range ds.length).map fun (j : Nat) => Dv.int (j : Int)) := itR_nat (by omega)
    have hm : mLc (mRg1 (mO1 oLen (mVar 1))) (gN 2) mYes (mCallD (F__law_same n) [.val (mO2 oIx (mVar 0) (mVar 2)), .val (mO2 oIx (mVar 1) (mVar 2))]) [2] [.fz (.tup ds), .fz (.tup ds), .un] = .ok (.lst ((List.range ds.length).map fun _ => .bl true)) [.fz (.tup ds), .fz (.tup ds), .un] := by
      refine mlc_mapA (L := List.range ds.length) (h := fun (j : Nat) => Dv.int (j : Int)) (by simp [ol, hr]) rfl (by simp; omega) (fun j hj => ?_) rfl
      have hj' : j < ds.length := by simpa using hj
      refine ⟨[.fz (.tup ds), .fz (.tup ds), .fz (.int (j : Int))], [.fz (.tup ds), .fz (.tup ds), .fz (.int (j : Int))], rfl, rfl, ?_, rfl⟩
      have hx : oIx (.tup ds) (.int (j : Int)) = some ds[j] := by
        simp only [oIx]; rw [getI_of hj']
      have ih := same_ok (n := n) (d := ds[j]) (smDs_get h.2 (List.getElem?_eq_getElem hj'))
      simp only [ev_callD, call_f2, ev_O2, ev_var, List.getElem?_cons_zero, List.getElem?_cons_succ, Rs.bind_ok, hx, Rs.of_some, ih]
    have ha : oAll (.lst ((List.range ds.length).map fun _ => Dv.bl true)) = some (.bl true) := by
      simp only [oAll, bools_true, Option.map_some]
      congr 2
      simp [List.all_eq_true]
    unfold m__law_same
    simp [oIsT, truthD, ol, oNe, eqS, hm, ha]
  | n + 1, .non, h => by simp [smD] at h
  | n + 1, .bl _, h => by simp [smD] at h
  | n + 1, .lst _, h => by simp [smD] at h
  | n + 1, .scr _, h => by simp [smD] at h
  | n + 1, .dct _ _, h => by simp [smD] at h
  | n + 1, .exc _ _ _, h => by simp [smD] at h
/-! counting -/
def dd : List Int → List Int → List Int
  | acc, [] => acc
  | acc, v :: r => dd (if v ∈ acc then acc else acc ++ [v]) r
def cnt (W : List Int) (v : Int) : Int := ((W.filter fun u => decide (u = v)).length : Int)
theorem eqKy_i (a b : Int) : eqKy (.int a) (.int b) = decide (a = b) := rfl
theorem getKy_map {f : Int → Int} {v : Int} : ∀ l : List Int, getKy (l.map .int) (l.map fun u => .int (f u)) (.int v) = if v ∈ l then some (.int (f v)) else none
  | [] => rfl
  | a :: l => by
    simp only [List.map_cons, getKy, eqKy_i, getKy_map l, List.mem_cons, decide_eq_true_eq]
    by_cases c : a = v
    · simp [c]
    · have c' : ¬ v = a := fun z => c z.symm
      simp [c, c']
theorem repKy_map {f : Int → Int} {v : Int} {y : Dv} : ∀ l : List Int, repKy (l.map .int) (l.map fun u => .int (f u)) (.int v) y = l.map fun u => if u = v then y else .int (f u)
  | [] => rfl
  | a :: l => by simp only [List.map_cons, repKy, eqKy_i, repKy_map l, decide_eq_true_eq]
theorem cnt_app (W : List Int) (v u : Int) : cnt (W ++ [v]) u = if v = u then cnt W u + 1 else cnt W u := by
  unfold cnt
  rw [List.filter_append]
  by_cases c : v = u
  · simp [c]
  · simp [c]
theorem cnt_0 {W : List Int} {v : Int} (h : v ∉ W) : cnt W v = 0 := by
  unfold cnt
  have : (W.filter fun u => decide (u = v)) = [] := by
    rw [List.filter_eq_nil_iff]
    intro u hu c
    simp only [decide_eq_true_eq] at c
    subst c; exact h hu
  rw [this]; rfl
/-- what one more does to the keys and counts -/
theorem put_cnt {W l : List Int} {v : Int} (hl : ∀ u, u ∈ l ↔ u ∈ W) :
    putKy (l.map .int) (l.map fun u => .int (cnt W u)) (.int v) (.int (cnt W v + 1)) = ((if v ∈ l then l else l ++ [v]).map .int, (if v ∈ l then l else l ++ [v]).map fun u => Dv.int (cnt (W ++ [v]) u)) := by
  unfold putKy
  rw [getKy_map]
  by_cases c : v ∈ l
  · simp only [c, if_true, Option.isSome_some]
    rw [repKy_map]
    congr 1
    apply List.map_congr_left
    intro u _
    rw [cnt_app]
    by_cases d : u = v
    · subst d; simp
    · have d' : ¬ v = u := fun z => d z.symm
      simp [d, d']
  · simp only [c, if_false, Option.isSome_none, Bool.false_eq_true, List.map_append, List.map_cons, List.map_nil]
    congr 2
    · apply List.map_congr_left
      intro u hu
      have : ¬ v = u := fun z => c (by rw [z]; exact hu)
      rw [cnt_app, if_neg this]
    · have : cnt (W ++ [v]) v = cnt W v + 1 := by rw [cnt_app, if_pos rfl]
      rw [this]
theorem dd_mem {W : List Int} : ∀ {R l : List Int}, (∀ u, u ∈ l ↔ u ∈ W) → ∀ u, u ∈ dd l R ↔ u ∈ W ++ R := by
  intro R
  induction R generalizing W with
  | nil => intro l h u; simpa [dd] using h u
  | cons v r ih =>
    intro l h u
    unfold dd
    rw [ih (W := W ++ [v]) (fun x => by
      by_cases c : v ∈ l
      · simp only [c, if_true, List.mem_append, List.mem_singleton, h]
        constructor
        · exact fun z => .inl z
        · rintro (z | rfl)
          · exact z
          · exact (h _).mp c
      · simp only [c, if_false, List.mem_append, List.mem_singleton, h])]
    simp
theorem dd_nd : ∀ {R l : List Int}, l.Nodup → (dd l R).Nodup
  | [], l, h => h
  | v :: r, l, h => by
    unfold dd
    refine dd_nd ?_
    by_cases c : v ∈ l
    · simpa [c] using h
    · simp only [c, if_false]
      rw [List.nodup_append]
      exact ⟨h, by simp, fun a ha b hb hab => by
        simp only [List.mem_singleton] at hb
        subst hb; subst hab; exact c ha⟩
theorem dd_app {R l : List Int} {v : Int} : dd l (R ++ [v]) = if v ∈ dd l R then dd l R else dd l R ++ [v] := by
  induction R generalizing l with
  | nil => rfl
  | cons a r ih => exact ih
theorem sort_dd (W : List Int) : srtZ (dd [] W) = srtZ (dedupZ W) := by
  refine srtZ_uniq ?_ (srtZ_le _)
  refine (srtZ_perm _).trans ?_
  refine (List.perm_ext_iff_of_nodup (dd_nd List.nodup_nil) dedupZ_nd).mpr fun u => ?_
  rw [dd_mem (W := []) (fun _ => Iff.rfl) u, dedupZ_mem]
  simp
theorem ltI_2 {x y a b : Int} (h : y ≠ x) : ltI [y, b] [x, a] = decide (y < x) := by
  simp [ltI, h]
theorem insD_map {f : Int → Int} {x : Int} : ∀ {l : List Int}, x ∉ l → insD ([x, f x], prD (x, f x)) (l.map fun u => ([u, f u], prD (u, f u))) = (insZ x l).map fun u => ([u, f u], prD (u, f u))
  | [], _ => rfl
  | y :: l, h => by
    simp only [List.mem_cons, not_or] at h
    have hy : y ≠ x := fun z => h.1 z.symm
    simp only [List.map_cons, insD, insZ, ltI_2 hy, decide_eq_true_eq]
    by_cases c : y < x
    · rw [if_pos c, if_pos c, insD_map h.2]; rfl
    · rw [if_neg c, if_neg c]; rfl
theorem srtD_map {f : Int → Int} : ∀ {l : List Int}, l.Nodup → srtD (l.map fun u => ([u, f u], prD (u, f u))) = (srtZ l).map fun u => ([u, f u], prD (u, f u))
  | [], _ => rfl
  | x :: l, h => by
    obtain ⟨h1, h2⟩ := List.nodup_cons.mp h
    simp only [List.map_cons, srtD, srtZ, srtD_map h2]
    exact insD_map fun z => h1 ((srtZ_perm l).mem_iff.mp z)
theorem intsOf_int (l : List Int) : intsOf (l.map Dv.int) = some l := by
  have := intsOf_map (fun x : Int => x) l
  simpa using this
theorem zip_map_self {α β : Type} (f : α → β) : ∀ l : List α, l.zip (l.map f) = l.map fun u => (u, f u)
  | [] => rfl
  | a :: l => by simp only [List.map_cons, List.zip_cons_cons, zip_map_self f l]
end K60x

set_option linter.all false
set_option maxRecDepth 10000
set_option maxHeartbeats 1000000
namespace K60x
open Ml Lw
def rD (r : List Int) : Dv := .tup (r.map .int)
def tbD (T : List (List Int)) : Dv := .tup (T.map rD)
def at_ (i : Nat) (r : List Int) : Int := r[i]?.getD 0
def col (i : Nat) (T : List (List Int)) : List Int := T.map (at_ i)
structure TOk (m : Nat) (T : List (List Int)) : Prop where
  r : ∀ r ∈ T, r.length = m
  mm : m ≤ 2
  n : T.length ≤ 100
  f : ∀ i, i < m → ∃ N : List Int, N.length ≤ 9 ∧ ∀ r ∈ T, at_ i r ∈ N
variable {m : Nat} {T : List (List Int)}
theorem ix_r {i : Nat} {r : List Int} (h : i < r.length) : oIx (rD r) (.int (i : Int)) = some (.int (at_ i r)) := by
  simp only [rD, oIx]; rw [getI_of (by simpa using h)]; simp [at_, h]
theorem ol_T (T : List (List Int)) : oLen (tbD T) = some (.int (T.length : Int)) := by simp [oLen, tbD]
theorem sm_r {r : List Int} (n : Nat) (h : r.length ≤ 1000) : smD (n + 2) (rD r) = true := by
  have h1 : smDs (n + 1) (r.map .int) = true := smDs_map fun x _ => by simp [smD]
  have h2 : decide (r.length ≤ 1000000) = true := by simp; omega
  simp only [rD, smD, h1, List.length_map, h2, Bool.and_self]
theorem sm_T (t : TOk m T) : smD 6 (tbD T) = true := by
  have h1 : smDs 5 (T.map rD) = true := smDs_map fun r hr => sm_r 3 (by have := t.r r hr; have := t.mm; omega)
  have h2 : decide (T.length ≤ 1000000) = true := by have := t.n; simp; omega
  simp only [tbD, smD, h1, List.length_map, h2, Bool.and_self]
theorem few (t : TOk m T) {i : Nat} (hi : i < m) : (dd [] (col i T)).length ≤ 9 ∧ (dedupZ (col i T)).length ≤ 9 := by
  obtain ⟨N, hN, hm⟩ := t.f i hi
  have hc : ∀ v ∈ col i T, v ∈ N := fun v hv => by
    obtain ⟨r, hr, rfl⟩ := List.mem_map.mp hv
    exact hm r hr
  refine ⟨Nat.le_trans (nodup_len (dd_nd List.nodup_nil) fun v hv => hc v ?_) hN, Nat.le_trans (nodup_len dedupZ_nd fun v hv => hc v (dedupZ_mem.mp hv)) hN⟩
  have := (dd_mem (W := []) (fun _ => Iff.rfl) v).mp hv
  simpa using this
/-! what the program tells -/
def FS (T : List (List Int)) (fin wd : Dv) (W : List Int) (x4 x5 : Slt) : Loc := [.fz (tbD T), .fz fin, .fz wd, .ow none (.dct false ((dd [] W).map .int) ((dd [] W).map fun u => .int (cnt W u))), x4, x5]
def cB : MS := (sSeq (sSet (mO2 oIx (mVar 4) (mO2 oIx (mVar 1) (mC (.int 1)))) (gN 5))
  (sDPut 3 (mVar 5) (mO2 oAdd (mDGetD 3 (mVar 5) (mC (.int 0))) (mC (.int 1)))))
theorem c_step {fin wd : Dv} {W r : List Int} {i : Nat} {x5 : Slt} (hf : oIx fin (.int 1) = some (.int (i : Int))) (hi : i < r.length) (f5 : free (some x5) = true) (hW : W.length ≤ 1000) :
    cB (FS T fin wd W (.fz (rD r)) x5) = .nx (FS T fin wd (W ++ [at_ i r]) (.fz (rD r)) (.fz (.int (at_ i r)))) := by
  have hlim := limv
  have s1 : sSet (mO2 oIx (mVar 4) (mO2 oIx (mVar 1) (mC (.int 1)))) (gN 5) (FS T fin wd W (.fz (rD r)) x5) = .nx (FS T fin wd W (.fz (rD r)) (.fz (.int (at_ i r)))) := by
    simp only [FS, ev_set, ev_O2, ev_var, ev_C, List.getElem?_cons_succ, List.getElem?_cons_zero, Rs.bind_ok, hf, Rs.of_some, ix_r hi, Rs.go_ok, ev_gN, f5, if_true, List.set_cons_succ, List.set_cons_zero, ev_nxO1]
  have hmem : ∀ u, u ∈ dd [] W ↔ u ∈ W := fun u => by
    have := dd_mem (W := []) (R := W) (l := []) (fun _ => Iff.rfl) u
    simpa using this
  have hg : (getKy ((dd [] W).map .int) ((dd [] W).map fun u => .int (cnt W u)) (.int (at_ i r))).getD (.int 0) = .int (cnt W (at_ i r)) := by
    rw [getKy_map]
    by_cases c : at_ i r ∈ dd [] W
    · rw [if_pos c]; rfl
    · rw [if_neg c, cnt_0 (fun z => c ((hmem _).mpr z))]; rfl
  have hd : mDGetD 3 (mVar 5) (mC (.int 0)) (FS T fin wd W (.fz (rD r)) (.fz (.int (at_ i r)))) = .ok (.int (cnt W (at_ i r))) (FS T fin wd W (.fz (rD r)) (.fz (.int (at_ i r)))) := by
    unfold mDGetD
    rw [if_pos (by rfl)]
    simp only [FS, ev_var, ev_C, List.getElem?_cons_succ, List.getElem?_cons_zero, Rs.bind_ok, isKy, if_true, hg]
  have hp := put_cnt (W := W) (l := dd [] W) (v := at_ i r) hmem
  have hdl : (dd [] W).length ≤ W.length := nodup_len (dd_nd List.nodup_nil) fun v hv => (hmem v).mp hv
  have hlen : ((dd [] W).map Dv.int).length < lim := by rw [List.length_map]; omega
  unfold cB
  rw [ev_seq, s1, Sr.then_nx]
  unfold sDPut
  rw [ev_O2, hd]
  simp only [Rs.bind_ok, ev_C, oAdd, Rs.of_some, Rs.go_ok]
  rw [if_pos (by rfl)]
  simp only [FS, ev_var, List.getElem?_cons_succ, List.getElem?_cons_zero, Rs.go_ok]
  rw [if_pos ⟨rfl, hlen⟩, hp]
  simp only [List.set_cons_succ, List.set_cons_zero, dd_app]
theorem c_loop {fin wd : Dv} {i : Nat} (t : TOk m T) (hi : i < m) (hf : oIx fin (.int 1) = some (.int (i : Int))) :
    ∃ x4 x5, loop (gN 4) cB (T.map rD) (FS T fin wd [] .un .un) = .nx (FS T fin wd (col i T) x4 x5) := by
  obtain ⟨e1, q, x4, x5, rfl, f4, f5⟩ := loop_inv (g := gN 4) (b := cB) (ds := T.map rD) (e := FS T fin wd [] .un .un)
    (fun k e => ∃ x4 x5, e = FS T fin wd ((col i T).take k) x4 x5 ∧ free (some x4) = true ∧ free (some x5) = true)
    ⟨_, _, rfl, rfl, rfl⟩
    (fun k d e hk he => by
      obtain ⟨x4, x5, rfl, f4, f5⟩ := he
      rw [List.getElem?_map] at hk
      obtain ⟨r, hr, rfl⟩ := Option.map_eq_some_iff.mp hk
      have hrm := t.r r (List.mem_of_getElem? hr)
      have st := c_step (T := T) (fin := fin) (wd := wd) (W := (col i T).take k) (r := r) hf (by omega) f5 (by rw [List.length_take]; have := t.n; simp [col]; omega)
      have ht : (col i T).take (k + 1) = (col i T).take k ++ [at_ i r] := by
        rw [List.take_add_one, col, List.getElem?_map, hr]; rfl
      rw [← ht] at st
      exact ⟨FS T fin wd ((col i T).take k) (.fz (rD r)) x5, _, by simp [FS, f4], .inl st, _, _, rfl, rfl, rfl⟩)
  refine ⟨x4, x5, ?_⟩
  rw [q]
  congr 2
  exact List.take_of_length_le (by simp [col])
def byD (T : List (List Int)) (i : Nat) : Dv := .tup ((srtZ (dedupZ (col i T))).map fun v => prD (v, cnt (col i T) v))
def onlyD (T : List (List Int)) (i : Nat) : Dv := .tup ((srtZ (dedupZ (col i T))).map .int)
theorem e30 : oEqD (.str u3) (.str u0) = some (.bl false) := rfl
theorem e31 : oEqD (.str u3) (.str u1) = some (.bl false) := rfl
theorem e32 : oEqD (.str u3) (.str u2) = some (.bl false) := rfl
theorem e33 : oEqD (.str u3) (.str u3) = some (.bl true) := rfl
theorem e34 : oEqD (.str u3) (.str u4) = some (.bl false) := rfl
theorem e40 : oEqD (.str u4) (.str u0) = some (.bl false) := rfl
theorem e41 : oEqD (.str u4) (.str u1) = some (.bl false) := rfl
theorem e42 : oEqD (.str u4) (.str u2) = some (.bl false) := rfl
theorem e43 : oEqD (.str u4) (.str u3) = some (.bl false) := rfl
theorem e44 : oEqD (.str u4) (.str u4) = some (.bl true) := rfl
theorem e00 : oEqD (.str u0) (.str u0) = some (.bl true) := rfl
theorem e10 : oEqD (.str u1) (.str u0) = some (.bl false) := rfl
theorem e11 : oEqD (.str u1) (.str u1) = some (.bl true) := rfl
theorem e20 : oEqD (.str u2) (.str u0) = some (.bl false) := rfl
theorem e21 : oEqD (.str u2) (.str u1) = some (.bl false) := rfl
theorem e22 : oEqD (.str u2) (.str u2) = some (.bl true) := rfl
theorem f0 (w x : Dv) : oIx (.tup [w, x]) (.int 0) = some w := rfl
theorem f1 (w x : Dv) : oIx (.tup [w, x]) (.int 1) = some x := rfl
theorem f00 (w : Dv) : oIx (.tup [w]) (.int 0) = some w := rfl
theorem sort_it {e : Loc} {W : List Int} {j : Option Nat} (he : e[3]? = some (.ow j (.dct false ((dd [] W).map .int) ((dd [] W).map fun u => .int (cnt W u))))) (h : (dd [] W).length < 64) : mSortIt 3 e = .ok (.lst ((srtZ (dedupZ W)).map fun v => prD (v, cnt W v))) e := by
  unfold mSortIt
  rw [he]
  simp only [intsOf_int, intsOf_map (fun u => cnt W u), h, if_true]
  rw [zip_map_self (fun u => cnt W u), List.map_map]
  have := srtD_map (f := fun u => cnt W u) (l := dd [] W) (dd_nd List.nodup_nil)
  rw [show ((fun p : Int × Int => (([p.1, p.2] : List Int), prD p)) ∘ fun u => (u, cnt W u)) = fun u => ([u, cnt W u], prD (u, cnt W u)) from rfl, this, List.map_map, sort_dd]
  rfl
theorem sort_ks {e : Loc} {W : List Int} {j : Option Nat} (he : e[3]? = some (.ow j (.dct false ((dd [] W).map .int) ((dd [] W).map fun u => .int (cnt W u))))) (h : (dd [] W).length < 64) : mSortKs 3 e = .ok (.lst ((srtZ (dedupZ W)).map .int)) e := by
  unfold mSortKs
  rw [he]
  simp only [intsOf_int, h, if_true, sort_dd]
def tailF : MS := (sRet (mIte (mTest (mO2 oEqD (mVar 2) (mC (.str u3)))) (mO1 oTup (mFz (mSortIt 3))) (mO1 oTup (mFz (mSortKs 3)))))
theorem fin_by {i : Nat} (t : TOk m T) (hi : i < m) : F_finished [.fz (tbD T), .fz (.tup [.str u3, .int (i : Int)])] = .ok (.fz (byD T i)) [] := by
  refine fn_rt rfl rfl ?_
  show RT (m_finished [.fz (tbD T), .fz (.tup [.str u3, .int (i : Int)]), .un, .un, .un, .un]) _ _
  obtain ⟨x4, x5, q⟩ := c_loop (T := T) (fin := .tup [.str u3, .int (i : Int)]) (wd := .str u3) t hi (f1 _ _)
  have hs := sort_it (e := FS T (.tup [.str u3, .int (i : Int)]) (.str u3) (col i T) x4 x5) (W := col i T) (j := none) rfl (by have := (few t hi).1; omega)
  unfold m_finished
  rw [show (sSeq (sSet (mO2 oIx (mVar 4) (mO2 oIx (mVar 1) (mC (.int 1)))) (gN 5))
  (sDPut 3 (mVar 5) (mO2 oAdd (mDGetD 3 (mVar 5) (mC (.int 0))) (mC (.int 1))))) = cB from rfl]
  simp only [ev_seq, ev_set, ev_O2, ev_var, ev_C, List.getElem?_cons_succ, List.getElem?_cons_zero, Rs.bind_ok, f0, Rs.of_some, Rs.go_ok, ev_gN, ev_free1, if_true, List.set_cons_succ, List.set_cons_zero, ev_nxO1, Sr.then_nx, ev_if, ev_test, e30, e31, e32, Bool.false_eq_true, if_false, ev_nil, ev_setO, mDct0, ev_for, ev_it]
  rw [show ([.fz (tbD T), .fz (.tup [.str u3, .int (i : Int)]), .fz (.str u3), .ow none (.dct false [] []), .un, .un] : Loc) = FS T (.tup [.str u3, .int (i : Int)]) (.str u3) [] .un .un from rfl]
  rw [show itT (tbD T) = some (T.map rD) from rfl]
  simp only [Rs.of_some, Rs.go_ok, q, Sr.then_nx, ev_ret, mIte, ev_test, ev_O2, ev_var, ev_C]
  rw [show (FS T (.tup [.str u3, .int (i : Int)]) (.str u3) (col i T) x4 x5)[2]? = some (.fz (.str u3)) from rfl]
  simp only [Rs.bind_ok, e33, Rs.of_some, if_true, ev_O1, ev_fz, hs, ev_toD, oTup, Rs.go_ok]
  exact ⟨_, rfl, rfl⟩
theorem fin_only {i : Nat} (t : TOk m T) (hi : i < m) : F_finished [.fz (tbD T), .fz (.tup [.str u4, .int (i : Int)])] = .ok (.fz (onlyD T i)) [] := by
  refine fn_rt rfl rfl ?_
  show RT (m_finished [.fz (tbD T), .fz (.tup [.str u4, .int (i : Int)]), .un, .un, .un, .un]) _ _
  obtain ⟨x4, x5, q⟩ := c_loop (T := T) (fin := .tup [.str u4, .int (i : Int)]) (wd := .str u4) t hi (f1 _ _)
  have hs := sort_ks (e := FS T (.tup [.str u4, .int (i : Int)]) (.str u4) (col i T) x4 x5) (W := col i T) (j := none) rfl (by have := (few t hi).1; omega)
  unfold m_finished
  rw [show (sSeq (sSet (mO2 oIx (mVar 4) (mO2 oIx (mVar 1) (mC (.int 1)))) (gN 5))
  (sDPut 3 (mVar 5) (mO2 oAdd (mDGetD 3 (mVar 5) (mC (.int 0))) (mC (.int 1))))) = cB from rfl]
  simp only [ev_seq, ev_set, ev_O2, ev_var, ev_C, List.getElem?_cons_succ, List.getElem?_cons_zero, Rs.bind_ok, f0, Rs.of_some, Rs.go_ok, ev_gN, ev_free1, if_true, List.set_cons_succ, List.set_cons_zero, ev_nxO1, Sr.then_nx, ev_if, ev_test, e40, e41, e42, Bool.false_eq_true, if_false, ev_nil, ev_setO, mDct0, ev_for, ev_it]
  rw [show ([.fz (tbD T), .fz (.tup [.str u4, .int (i : Int)]), .fz (.str u4), .ow none (.dct false [] []), .un, .un] : Loc) = FS T (.tup [.str u4, .int (i : Int)]) (.str u4) [] .un .un from rfl]
  rw [show itT (tbD T) = some (T.map rD) from rfl]
  simp only [Rs.of_some, Rs.go_ok, q, Sr.then_nx, ev_ret, mIte, ev_test, ev_O2, ev_var, ev_C]
  rw [show (FS T (.tup [.str u4, .int (i : Int)]) (.str u4) (col i T) x4 x5)[2]? = some (.fz (.str u4)) from rfl]
  simp only [Rs.bind_ok, e43, Rs.of_some, Bool.false_eq_true, if_false, ev_O1, ev_fz, hs, ev_toD, oTup, Rs.go_ok]
  exact ⟨_, rfl, rfl⟩
theorem fin_all : F_finished [.fz (tbD T), .fz (.tup [.str u0])] = .ok (.fz (tbD T)) [] := by
  refine fn_rt rfl rfl ?_
  show RT (m_finished [.fz (tbD T), .fz (.tup [.str u0]), .un, .un, .un, .un]) _ _
  simp [m_finished, f00, e00]
theorem fin_count : F_finished [.fz (tbD T), .fz (.tup [.str u1])] = .ok (.fz (.int (T.length : Int))) [] := by
  refine fn_rt rfl rfl ?_
  show RT (m_finished [.fz (tbD T), .fz (.tup [.str u1]), .un, .un, .un, .un]) _ _
  simp [m_finished, f00, e10, e11, ol_T]
theorem cut_lo {α : Type} (ds : List α) (k : Nat) : cutN ds none (some (k : Int)) = ds.take k := by
  have e2 : sIx ds.length ds.length (some (k : Int)) = min k ds.length := by
    have : ¬ ((k : Int) < 0) := by omega
    simp [sIx, this]
  have e1 : sIx ds.length 0 none = 0 := rfl
  unfold cutN
  rw [e1, e2, List.drop_zero, List.take_eq_take_iff]
  omega
theorem fin_first {k : Nat} : F_finished [.fz (tbD T), .fz (.tup [.str u2, .int (k : Int)])] = .ok (.fz (tbD (T.take k))) [] := by
  refine fn_rt rfl rfl ?_
  show RT (m_finished [.fz (tbD T), .fz (.tup [.str u2, .int (k : Int)]), .un, .un, .un, .un]) _ _
  have hs : slT (tbD T) none (some (k : Int)) = some (tbD (T.take k)) := by
    simp only [tbD, slT, cut_lo, List.map_take]
  simp [m_finished, f0, f1, e20, e21, e22, hs]
end K60x

set_option linter.all false
set_option maxRecDepth 10000
set_option maxHeartbeats 1000000
namespace K60x
open Ml Lw
variable {m : Nat} {T : List (List Int)}
theorem due_all : F__law_due [.fz (tbD T), .fz (.tup [.str u0])] = .ok (.fz (tbD T)) [] := by
  refine fn_rt rfl rfl ?_
  show RT (m__law_due [.fz (tbD T), .fz (.tup [.str u0]), .un, .un, .un, .un]) _ _
  simp [m__law_due, f00, e00]
theorem due_count : F__law_due [.fz (tbD T), .fz (.tup [.str u1])] = .ok (.fz (.int (T.length : Int))) [] := by
  refine fn_rt rfl rfl ?_
  show RT (m__law_due [.fz (tbD T), .fz (.tup [.str u1]), .un, .un, .un, .un]) _ _
  simp [m__law_due, f00, e10, e11, ol_T]
theorem range_lt (k : Nat) : ∀ n : Nat, (List.range n).filter (fun j : Nat => decide ((j : Int) < (k : Int))) = List.range (min k n)
  | 0 => by simp
  | n + 1 => by
    rw [List.range_succ, List.filter_append, range_lt k n]
    by_cases c : n < k
    · have c' : (n : Int) < (k : Int) := by omega
      have e1 : min k n = n := by omega
      have e2 : min k (n + 1) = n + 1 := by omega
      rw [e1, e2, List.range_succ]
      simp [c]
    · have c' : ¬ (n : Int) < (k : Int) := by omega
      have e1 : min k n = min k (n + 1) := by omega
      rw [e1]
      simp; omega
theorem due_first {k : Nat} (t : TOk m T) : F__law_due [.fz (tbD T), .fz (.tup [.str u2, .int (k : Int)])] = .ok (.fz (tbD (T.take k))) [] := by
  have hlim := limv
  have hn := t.n
  refine fn_rt rfl rfl ?_
  show RT (m__law_due [.fz (tbD T), .fz (.tup [.str u2, .int (k : Int)]), .un, .un, .un, .un]) _ _
  have hr : itR 0 (T.length : Int) = some ((List.range T.length).map fun (j : Nat) => Dv.int (j : Int)) := itR_nat (by omega)
  have hm : mLc (mRg1 (mO1 oLen (mVar 0))) (gN 3) (mTest (mO2 oLt (mVar 3) (mO2 oIx (mVar 1) (mC (.int 1))))) (mO2 oIx (mVar 0) (mVar 3)) [3] [.fz (tbD T), .fz (.tup [.str u2, .int (k : Int)]), .un, .un, .un, .un] = .ok (.lst (((List.range T.length).filter fun j : Nat => decide ((j : Int) < (k : Int))).map fun j => rD (T[j]?.getD []))) [.fz (tbD T), .fz (.tup [.str u2, .int (k : Int)]), .un, .un, .un, .un] := by
    refine mlc_filtA (h := fun (j : Nat) => Dv.int (j : Int)) (by simp [ol_T, hr]) rfl (by simp; omega) (fun j hj => ?_) rfl
    have hj' : j < T.length := by simpa using hj
    have hx : oIx (tbD T) (.int (j : Int)) = some (rD (T[j]?.getD [])) := by
      simp only [tbD, oIx]; rw [getI_of (by simpa using hj')]; simp [hj']
    exact ⟨[.fz (tbD T), .fz (.tup [.str u2, .int (k : Int)]), .un, .fz (.int (j : Int)), .un, .un], [.fz (tbD T), .fz (.tup [.str u2, .int (k : Int)]), .un, .fz (.int (j : Int)), .un, .un], rfl, by simp [f1, oLt], by simp only [ev_O2, ev_var, List.getElem?_cons_succ, List.getElem?_cons_zero, Rs.bind_ok, hx, Rs.of_some], rfl, rfl⟩
  rw [range_lt] at hm
  have he : (List.range (min k T.length)).map (fun j => rD (T[j]?.getD [])) = (T.take k).map rD := by
    apply List.ext_getElem
    · simp
    · intro i h1 h2
      simp at h1 h2
      have : i < T.length := by omega
      simp [this]
  rw [he] at hm
  unfold m__law_due
  simp only [ev_seq, ev_if, ev_test, ev_O2, ev_var, ev_C, List.getElem?_cons_succ, List.getElem?_cons_zero, Rs.bind_ok, f0, Rs.of_some, e20, e21, e22, Rs.go_ok, Bool.false_eq_true, if_false, if_true, ev_nil, Sr.then_nx, ev_ret, ev_O1, ev_fz, hm, ev_toD, oTup, Sr.then]
  exact ⟨_, rfl, rfl⟩
theorem up_ok {W : List Int} (h1 : W.length ≤ 500) (h2 : (dedupZ W).length < 64) : F__law_up [.fz (.lst (W.map .int))] = .ok (.fz (.tup ((srtZ (dedupZ W)).map .int))) [] := by
  refine fn_rt rfl rfl ?_
  show RT (m__law_up [.fz (.lst (W.map .int))]) _ _
  have : oSortSetB (.lst (W.map .int)) = some ((srtZ (dedupZ W)).map .int) := by
    have h3 : W.length < 1000 ∧ (dedupZ W).length < 64 := ⟨by omega, h2⟩
    simp only [oSortSetB, sortSetB, intsOf_int, h3, and_self, if_true]
  simp [m__law_up, this, oTup]
def DE (T : List (List Int)) (fin : Dv) (x2 x5 : Slt) : Loc := [.fz (tbD T), .fz fin, x2, .un, .un, x5]
theorem cells {fin : Dv} {i : Nat} (t : TOk m T) (hi : i < m) (hf : oIx fin (.int 1) = some (.int (i : Int))) :
    mLc (mIt itT (mVar 0)) (gN 4) mYes (mO2 oIx (mVar 4) (mO2 oIx (mVar 1) (mC (.int 1)))) [4] (DE T fin .un .un) = .ok (.lst ((col i T).map .int)) (DE T fin .un .un) := by
  have hlim := limv
  have hn := t.n
  have e : (col i T).map Dv.int = T.map fun r => Dv.int (at_ i r) := by simp [col]
  rw [e]
  refine mlc_mapA (h := rD) (by simp [DE, itT, tbD]) rfl (by omega) (fun r hr => ?_) rfl
  have hrm := t.r r hr
  exact ⟨[.fz (tbD T), .fz fin, .un, .un, .fz (rD r), .un], [.fz (tbD T), .fz fin, .un, .un, .fz (rD r), .un], rfl, rfl, by simp only [ev_O2, ev_var, ev_C, List.getElem?_cons_succ, List.getElem?_cons_zero, Rs.bind_ok, hf, Rs.of_some, ix_r (show i < r.length by omega)], rfl⟩
theorem rows_v {fin : Dv} {i : Nat} {x2 : Slt} {v : Int} (t : TOk m T) (hi : i < m) (hf : oIx fin (.int 1) = some (.int (i : Int))) :
    mLc (mIt itT (mVar 0)) (gN 4) (mTest (mO2 oEq (mO2 oIx (mVar 4) (mO2 oIx (mVar 1) (mC (.int 1)))) (mVar 5))) (mVar 4) [4] (DE T fin x2 (.fz (.int v))) = .ok (.lst ((T.filter fun r => decide (at_ i r = v)).map rD)) (DE T fin x2 (.fz (.int v))) := by
  have hlim := limv
  have hn := t.n
  refine mlc_filtA (h := rD) (by simp [DE, itT, tbD]) rfl (by omega) (fun r hr => ?_) rfl
  have hrm := t.r r hr
  exact ⟨[.fz (tbD T), .fz fin, x2, .un, .fz (rD r), .fz (.int v)], [.fz (tbD T), .fz fin, x2, .un, .fz (rD r), .fz (.int v)], rfl, by simp only [ev_test, ev_O2, ev_var, ev_C, List.getElem?_cons_succ, List.getElem?_cons_zero, Rs.bind_ok, hf, Rs.of_some, ix_r (show i < r.length by omega), oEq, eqS, Option.map_some], rfl, rfl, rfl⟩
theorem cnt_col (i : Nat) (v : Int) : cnt (col i T) v = ((T.filter fun r => decide (at_ i r = v)).length : Int) := by
  unfold cnt col
  rw [List.filter_map, List.length_map]
  rfl
def nodesE : ME Dv := (mCallD F__law_up [.val (mFz (mLc (mIt itT (mVar 0)) (gN 4) mYes (mO2 oIx (mVar 4) (mO2 oIx (mVar 1) (mC (.int 1)))) [4]))])
theorem nodes_ok {fin : Dv} {i : Nat} (t : TOk m T) (hi : i < m) (hf : oIx fin (.int 1) = some (.int (i : Int))) : nodesE (DE T fin .un .un) = .ok (onlyD T i) (DE T fin .un .un) := by
  have hu := up_ok (W := col i T) (by have := t.n; simp [col]; omega) (by have := (few t hi).2; omega)
  unfold nodesE
  simp only [ev_callD, call_f1, ev_fz, cells t hi hf, Rs.bind_ok, ev_toD, Rs.of_some, hu]
  rfl
theorem due_only {i : Nat} (t : TOk m T) (hi : i < m) : F__law_due [.fz (tbD T), .fz (.tup [.str u4, .int (i : Int)])] = .ok (.fz (onlyD T i)) [] := by
  refine fn_rt rfl rfl ?_
  show RT (m__law_due (DE T (.tup [.str u4, .int (i : Int)]) .un .un)) _ _
  have hn := nodes_ok t hi (f1 (.str u4) (.int (i : Int)))
  unfold m__law_due
  rw [show (mCallD F__law_up [.val (mFz (mLc (mIt itT (mVar 0)) (gN 4) mYes (mO2 oIx (mVar 4) (mO2 oIx (mVar 1) (mC (.int 1)))) [4]))]) = nodesE from rfl]
  have v1 : mO2 oIx (mVar 1) (mC (.int 0)) (DE T (.tup [.str u4, .int (i : Int)]) .un .un) = .ok (.str u4) (DE T (.tup [.str u4, .int (i : Int)]) .un .un) := rfl
  simp only [ev_seq, ev_if, ev_test, ev_O2 (f2 := oEqD), v1, Rs.bind_ok, ev_C, e40, e41, e42, Rs.of_some, Rs.go_ok, Bool.false_eq_true, if_false, ev_nil, Sr.then_nx, ev_set, hn]
  rw [show nxO (gN 2 (onlyD T i) (DE T (.tup [.str u4, .int (i : Int)]) .un .un)) = .nx (DE T (.tup [.str u4, .int (i : Int)]) (.fz (onlyD T i)) .un) from rfl, Sr.then_nx]
  have v2 : mO2 oIx (mVar 1) (mC (.int 0)) (DE T (.tup [.str u4, .int (i : Int)]) (.fz (onlyD T i)) .un) = .ok (.str u4) (DE T (.tup [.str u4, .int (i : Int)]) (.fz (onlyD T i)) .un) := rfl
  simp only [ev_seq, ev_if, ev_test, ev_O2 (f2 := oEqD), v2, Rs.bind_ok, ev_C, e44, Rs.of_some, Rs.go_ok, if_true, ev_ret, ev_var]
  exact ⟨_, rfl, rfl⟩
theorem due_by {i : Nat} (t : TOk m T) (hi : i < m) : F__law_due [.fz (tbD T), .fz (.tup [.str u3, .int (i : Int)])] = .ok (.fz (byD T i)) [] := by
  have hlim := limv
  refine fn_rt rfl rfl ?_
  show RT (m__law_due (DE T (.tup [.str u3, .int (i : Int)]) .un .un)) _ _
  have hn := nodes_ok t hi (f1 (.str u3) (.int (i : Int)))
  have hm : mLc (mIt itT (mVar 2)) (gN 5) mYes (mTup [(mVar 5), (mO1 oLen (mFz (mLc (mIt itT (mVar 0)) (gN 4) (mTest (mO2 oEq (mO2 oIx (mVar 4) (mO2 oIx (mVar 1) (mC (.int 1)))) (mVar 5))) (mVar 4) [4])))]) [5] (DE T (.tup [.str u3, .int (i : Int)]) (.fz (onlyD T i)) .un) = .ok (.lst ((srtZ (dedupZ (col i T))).map fun v => prD (v, cnt (col i T) v))) (DE T (.tup [.str u3, .int (i : Int)]) (.fz (onlyD T i)) .un) := by
    refine mlc_mapA (h := Dv.int) (by simp [DE, itT, onlyD]) rfl ?_ (fun v _ => ?_) rfl
    · have := (srtZ_perm (dedupZ (col i T))).length_eq
      have := (few t hi).2
      omega
    · refine ⟨DE T (.tup [.str u3, .int (i : Int)]) (.fz (onlyD T i)) (.fz (.int v)), DE T (.tup [.str u3, .int (i : Int)]) (.fz (onlyD T i)) (.fz (.int v)), rfl, rfl, ?_, rfl⟩
      have hr := rows_v (x2 := .fz (onlyD T i)) (v := v) t hi (f1 (.str u3) (.int (i : Int)))
      have v5 : mVar 5 (DE T (.tup [.str u3, .int (i : Int)]) (.fz (onlyD T i)) (.fz (.int v))) = .ok (.int v) (DE T (.tup [.str u3, .int (i : Int)]) (.fz (onlyD T i)) (.fz (.int v))) := rfl
      simp only [ev_tup, ev_args1, ev_args0, v5, Rs.bind_ok, ev_O1, ev_fz, hr, ev_toD, Rs.of_some, oLen, List.length_map, cnt_col]
      rfl
  unfold m__law_due
  rw [show (mCallD F__law_up [.val (mFz (mLc (mIt itT (mVar 0)) (gN 4) mYes (mO2 oIx (mVar 4) (mO2 oIx (mVar 1) (mC (.int 1)))) [4]))]) = nodesE from rfl]
  have v1 : mO2 oIx (mVar 1) (mC (.int 0)) (DE T (.tup [.str u3, .int (i : Int)]) .un .un) = .ok (.str u3) (DE T (.tup [.str u3, .int (i : Int)]) .un .un) := rfl
  simp only [ev_seq, ev_if, ev_test, ev_O2 (f2 := oEqD), v1, Rs.bind_ok, ev_C, e30, e31, e32, Rs.of_some, Rs.go_ok, Bool.false_eq_true, if_false, ev_nil, Sr.then_nx, ev_set, hn]
  rw [show nxO (gN 2 (onlyD T i) (DE T (.tup [.str u3, .int (i : Int)]) .un .un)) = .nx (DE T (.tup [.str u3, .int (i : Int)]) (.fz (onlyD T i)) .un) from rfl, Sr.then_nx]
  have v2 : mO2 oIx (mVar 1) (mC (.int 0)) (DE T (.tup [.str u3, .int (i : Int)]) (.fz (onlyD T i)) .un) = .ok (.str u3) (DE T (.tup [.str u3, .int (i : Int)]) (.fz (onlyD T i)) .un) := rfl
  simp only [ev_seq, ev_if, ev_test, ev_O2 (f2 := oEqD), v2, Rs.bind_ok, ev_C, e34, Rs.of_some, Rs.go_ok, Bool.false_eq_true, if_false, ev_nil, Sr.then_nx, ev_ret, ev_O1, ev_fz, hm, ev_toD, oTup]
  exact ⟨_, rfl, rfl⟩
/-! all the ways to finish -/
def FinOk (m : Nat) (f : Dv) : Prop := f = .tup [.str u0] ∨ f = .tup [.str u1] ∨ (∃ k : Nat, f = .tup [.str u2, .int (k : Int)]) ∨ ∃ i : Nat, i < m ∧ (f = .tup [.str u3, .int (i : Int)] ∨ f = .tup [.str u4, .int (i : Int)])
theorem both {f : Dv} (t : TOk m T) (h : FinOk m f) : ∃ X, F_finished [.fz (tbD T), .fz f] = .ok (.fz X) [] ∧ F__law_due [.fz (tbD T), .fz f] = .ok (.fz X) [] ∧ smD 6 X = true := by
  rcases h with rfl | rfl | ⟨k, rfl⟩ | ⟨i, hi, rfl | rfl⟩
  · exact ⟨_, fin_all, due_all, sm_T t⟩
  · exact ⟨_, fin_count, due_count, rfl⟩
  · refine ⟨_, fin_first, due_first t, sm_T (m := m) ⟨fun r hr => t.r r (List.mem_of_mem_take hr), t.mm, by rw [List.length_take]; have := t.n; omega, fun i hi => ?_⟩⟩
    obtain ⟨N, h1, h2⟩ := t.f i hi
    exact ⟨N, h1, fun r hr => h2 r (List.mem_of_mem_take hr)⟩
  · refine ⟨_, fin_by t hi, due_by t hi, ?_⟩
    have h1 : smDs 5 ((srtZ (dedupZ (col i T))).map fun v => prD (v, cnt (col i T) v)) = true := smDs_map fun v _ => by simp [prD, smD, smDs]
    have h2 : decide ((srtZ (dedupZ (col i T))).length ≤ 1000000) = true := by
      have := (srtZ_perm (dedupZ (col i T))).length_eq
      have := (few t hi).2
      simp; omega
    simp only [byD, smD, h1, List.length_map, h2, Bool.and_self]
  · refine ⟨_, fin_only t hi, due_only t hi, ?_⟩
    have h1 : smDs 5 ((srtZ (dedupZ (col i T))).map Dv.int) = true := smDs_map fun v _ => by simp [smD]
    have h2 : decide ((srtZ (dedupZ (col i T))).length ≤ 1000000) = true := by
      have := (srtZ_perm (dedupZ (col i T))).length_eq
      have := (few t hi).2
      simp; omega
    simp only [onlyD, smD, h1, List.length_map, h2, Bool.and_self]
end K60x

set_option linter.all false
set_option maxRecDepth 10000
set_option maxHeartbeats 1000000
namespace K60x
open Ml Lw
section
variable {ns : List Int}
def SH (ds xs left found : List Dv) (x4 : Slt) : Loc := [.ow (some 0) (.lst ds), .fz (.lst xs), .ow none (.lst left), .ow none (.lst found), x4]
theorem shuf_step {ds xs left found : List Dv} {x4 : Slt} (hd : Dr ns ds) (hl : left ≠ []) (h2 : left.length ≤ 1000) (h3 : found.length ≤ 1000) :
    ∃ y ds' k, y ∈ left ∧ k < left.length ∧ sApp 3 (mPopAt 2 (mCallD Lw.F__law_draw [.own 0, .val (mOwn 2 wLen)])) (SH ds xs left found x4) = .nx (SH ds' xs (left.eraseIdx k) (found ++ [y]) x4) ∧ Dr ns ds' := by
  have h1 : 1 ≤ (left.length : Int) := by
    cases left with
    | nil => exact absurd rfl hl
    | cons => simp; omega
  have hlim := limv
  obtain ⟨k, ds', h, b1, b2, b3⟩ := cdraw (ns := ns) (ds := ds) (e := SH ds xs left found x4) (i := 0) (j := some 0) (ma := mOwn 2 wLen) (m := left.length) hd rfl rfl h1 (by omega)
  obtain ⟨k, rfl⟩ := Int.eq_ofNat_of_zero_le b1
  have hk : k < left.length := by omega
  refine ⟨left[k], ds', k, List.getElem_mem hk, hk, ?_, b3⟩
  have h3' : 0 ≤ (k : Int) ∧ (k : Int) < left.length ∧ (k : Int) < 1000000000 := by omega
  have hp : mPopAt 2 (mCallD Lw.F__law_draw [.own 0, .val (mOwn 2 wLen)]) (SH ds xs left found x4) = .ok left[k] (SH ds' xs (left.eraseIdx k) found x4) := by
    unfold mPopAt
    rw [if_pos (by rfl), h]
    simp [SH, h3', hk]
  rw [app_ok (i := 3) (j := none) (xs := found) rfl hp rfl (by omega)]
  rfl
theorem shuf_ok {ds xs : List Dv} (hd : Dr ns ds) (hl : xs.length ≤ 500) : ∃ ys ds', F__law_shuffled [.ow none (.lst ds), .fz (.lst xs)] = .ok (.ow none (.lst ys)) [.lst ds'] ∧ (∀ y ∈ ys, y ∈ xs) ∧ Dr ns ds' := by
  have hlim := limv
  obtain ⟨e1, q, ds1, left, found, x4, rfl, f4, hd1, i1, i2, i3, i4⟩ := loop_inv (g := gN 4) (b := (sApp 3 (mPopAt 2 (mCallD Lw.F__law_draw [.own 0, .val (mOwn 2 wLen)])))) (ds := (List.range xs.length).map fun (k : Nat) => Dv.int (k : Int)) (e := SH ds xs xs [] .un)
    (fun k e => ∃ ds left found x4, e = SH ds xs left found x4 ∧ free (some x4) = true ∧ Dr ns ds ∧ left.length + k = xs.length ∧ found.length = k ∧ (∀ y ∈ left, y ∈ xs) ∧ ∀ y ∈ found, y ∈ xs)
    ⟨ds, xs, [], .un, rfl, rfl, hd, rfl, rfl, fun _ h => h, by simp⟩
    (fun k d e hk he => by
      obtain ⟨ds, left, found, x4, rfl, f4, hd, i1, i2, i3, i4⟩ := he
      have hkm : k < xs.length := by
        have := (List.getElem?_eq_some_iff.mp hk).1
        simpa using this
      obtain ⟨y, ds', k', hy, hk', st, hd'⟩ := shuf_step (ns := ns) (xs := xs) (found := found) (x4 := .fz d) hd (left := left) (by intro c; subst c; simp at i1; omega) (by omega) (by omega)
      refine ⟨SH ds xs left found (.fz d), _, by simp [SH, f4], .inl st, ds', _, _, _, rfl, rfl, hd', by rw [List.length_eraseIdx, if_pos hk']; omega, by simp [i2], fun z hz => i3 z (List.mem_of_mem_eraseIdx hz), fun z hz => ?_⟩
      rcases List.mem_append.mp hz with hz | hz
      · exact i4 z hz
      · simp only [List.mem_singleton] at hz; subst hz; exact i3 _ hy)
  refine ⟨found, ds1, ?_, i4, hd1⟩
  refine fn_ok rfl rfl (e := SH ds1 xs left found x4) ?_ rfl
  show m__law_shuffled [.ow (some 0) (.lst ds), .fz (.lst xs), .un, .un, .un] = _
  have hr : itR 0 (xs.length : Int) = some ((List.range xs.length).map fun (k : Nat) => Dv.int (k : Int)) := itR_nat (by omega)
  unfold m__law_shuffled
  simp only [ev_seq, ev_setO, ev_N1, ev_var, List.getElem?_cons_succ, List.getElem?_cons_zero, Rs.bind_ok, listD, Option.map_some, Rs.of_some, Rs.go_ok, ev_free1, if_true, List.set_cons_succ, List.set_cons_zero, Sr.then_nx, ev_lst, ev_args0, List.length_nil, Nat.zero_le, ev_for, ev_rg1, mOwn, wLen, hr]
  rw [show ([.ow (some 0) (.lst ds), .fz (.lst xs), .ow none (.lst xs), .ow none (.lst []), .un] : Loc) = SH ds xs xs [] .un from rfl, q]
  rfl
/-! tables that are drawn -/
def S (ds : List Dv) (m : Nat) (x2 x3 x4 x5 x6 x7 x8 x9 x10 x11 x12 : Slt) : Loc := [.ow (some 0) (.lst ds), .fz (.int (m : Int)), x2, x3, x4, x5, x6, x7, x8, x9, x10, x11, x12]
def nats (b : Int) (n : Nat) : List Int := (List.range n).map fun (k : Nat) => b + (k : Int)
def rowsD (R : List (List Int)) : Dv := .lst (R.map rD)
def fB : MS := (sIf (mTest (mO2 oLt (mCallD Lw.F__law_draw [.own 0, .val (mC (.int 5))]) (mVar 2)))
  (sApp 9 (mVar 10))
  sNil)
def endT : MS := (sSeq (sSetO 9 (mLst []))
  (sSeq (sFor (mIt itL (mVar 5)) (gN 10) fB)
  (sFrz 9 (sRet (mO1 oTup (mVar 9))))))
theorem end_ok {ds : List Dv} {m : Nat} {share : Int} {R : List (List Int)} {x3 x4 x6 x7 x8 x11 x12 : Slt} (hd : Dr ns ds) (hR : R.length ≤ 100) :
    ∃ T ds' e, endT (S ds m (.fz (.int share)) x3 x4 (.fz (rowsD R)) x6 x7 x8 .un .un x11 x12) = .rt (.fz (tbD T)) e ∧ e.length = 13 ∧ e[0]? = some (.ow (some 0) (.lst ds')) ∧ e[1]? = some (.fz (.int (m : Int))) ∧ Dr ns ds' ∧ T.length ≤ R.length ∧ ∀ r ∈ T, r ∈ R := by
  have hlim := limv
  obtain ⟨e1, q, ds1, T, x10, rfl, f10, hd1, hl, hm⟩ := loop_inv (g := gN 10) (b := fB) (ds := R.map rD) (e := S ds m (.fz (.int share)) x3 x4 (.fz (rowsD R)) x6 x7 x8 (.ow none (.lst [])) .un x11 x12)
    (fun k e => ∃ ds T x10, e = S ds m (.fz (.int share)) x3 x4 (.fz (rowsD R)) x6 x7 x8 (.ow none (.lst (T.map rD))) x10 x11 x12 ∧ free (some x10) = true ∧ Dr ns ds ∧ T.length ≤ k ∧ ∀ r ∈ T, r ∈ R)
    ⟨ds, [], .un, rfl, rfl, hd, by simp, by simp⟩
    (fun k d e hk he => by
      obtain ⟨ds, T, x10, rfl, f10, hd, hl, hm⟩ := he
      rw [List.getElem?_map] at hk
      obtain ⟨r, hr, rfl⟩ := Option.map_eq_some_iff.mp hk
      have hkR : k < R.length := (List.getElem?_eq_some_iff.mp hr).1
      obtain ⟨c, ds', q, c1, c2, hd'⟩ := cdraw (ns := ns) (ds := ds) (e := S ds m (.fz (.int share)) x3 x4 (.fz (rowsD R)) x6 x7 x8 (.ow none (.lst (T.map rD))) (.fz (rD r)) x11 x12) (i := 0) (j := some 0) (ma := mC (.int 5)) (m := 5) hd rfl rfl (by omega) (by omega)
      have ht : (mTest (mO2 oLt (mCallD Lw.F__law_draw [.own 0, .val (mC (.int 5))]) (mVar 2))) (S ds m (.fz (.int share)) x3 x4 (.fz (rowsD R)) x6 x7 x8 (.ow none (.lst (T.map rD))) (.fz (rD r)) x11 x12) = .ok (decide (c < share)) (S ds' m (.fz (.int share)) x3 x4 (.fz (rowsD R)) x6 x7 x8 (.ow none (.lst (T.map rD))) (.fz (rD r)) x11 x12) := by
        rw [ev_test, ev_O2, q]; simp [S, oLt]
      have hg : gN 10 (rD r) (S ds m (.fz (.int share)) x3 x4 (.fz (rowsD R)) x6 x7 x8 (.ow none (.lst (T.map rD))) x10 x11 x12) = some (S ds m (.fz (.int share)) x3 x4 (.fz (rowsD R)) x6 x7 x8 (.ow none (.lst (T.map rD))) (.fz (rD r)) x11 x12) := by simp [S, f10]
      by_cases cc : c < share
      · refine ⟨_, S ds' m (.fz (.int share)) x3 x4 (.fz (rowsD R)) x6 x7 x8 (.ow none (.lst ((T ++ [r]).map rD))) (.fz (rD r)) x11 x12, hg, .inl ?_, ds', T ++ [r], _, rfl, rfl, hd', by simp; omega, fun x hx => ?_⟩
        · unfold fB
          rw [ev_if, ht]
          simp only [cc, decide_true, Rs.go_ok, if_true]
          rw [app_ok (i := 9) (j := none) (m := mVar 10) (d := rD r) (e1 := S ds' m (.fz (.int share)) x3 x4 (.fz (rowsD R)) x6 x7 x8 (.ow none (.lst (T.map rD))) (.fz (rD r)) x11 x12) (xs := T.map rD) rfl rfl rfl (by simp; omega)]
          simp [S]
        · rcases List.mem_append.mp hx with hx | hx
          · exact hm x hx
          · simp only [List.mem_singleton] at hx; subst hx; exact List.mem_of_getElem? hr
      · refine ⟨_, S ds' m (.fz (.int share)) x3 x4 (.fz (rowsD R)) x6 x7 x8 (.ow none (.lst (T.map rD))) (.fz (rD r)) x11 x12, hg, .inl ?_, ds', T, _, rfl, rfl, hd', by omega, hm⟩
        unfold fB
        rw [ev_if, ht]
        simp only [cc, decide_false, Rs.go_ok, Bool.false_eq_true, if_false, ev_nil])
  rw [List.length_map] at hl
  refine ⟨T, ds1, S ds1 m (.fz (.int share)) x3 x4 (.fz (rowsD R)) x6 x7 x8 (.fz (.lst (T.map rD))) x10 x11 x12, ?_, rfl, rfl, rfl, hd1, hl, hm⟩
  unfold endT
  simp only [ev_seq, S, ev_setO, ev_lst, ev_args0, Rs.bind_ok, List.length_nil, Nat.zero_le, if_true, Rs.go_ok, List.getElem?_cons_succ, List.getElem?_cons_zero, ev_free1, List.set_cons_succ, List.set_cons_zero, Sr.then_nx, ev_for, ev_it, ev_var]
  rw [show itL (rowsD R) = some (R.map rD) from rfl]
  simp only [Rs.of_some, Rs.go_ok]
  rw [show ([.ow (some 0) (.lst ds), .fz (.int (m : Int)), .fz (.int share), x3, x4, .fz (rowsD R), x6, x7, x8, .ow none (.lst []), .un, x11, x12] : Loc) = S ds m (.fz (.int share)) x3 x4 (.fz (rowsD R)) x6 x7 x8 (.ow none (.lst [])) .un x11 x12 from rfl, q]
  simp only [Sr.then_nx, S, ev_frz, List.getElem?_cons_succ, List.getElem?_cons_zero, ev_ret, ev_O1, ev_var, List.set_cons_succ, List.set_cons_zero, Rs.bind_ok, oTup, Rs.of_some, Rs.go_ok]
  rfl
theorem nats_len (b : Int) (n : Nat) : (nats b n).length = n := by simp [nats]
/-- the rows of one or two nodes -/
def rows1 (N : List Int) : List (List Int) := N.map fun n => [n]
def rows2 (N M : List Int) : List (List Int) := N.flatMap fun n => M.map fun o => [n, o]
def twoB : MS := (sSet (mFz (mN2 oCat (mVar 5) (mFz (mLc (mIt itL (mVar 7)) (gN 12) mYes (mTup [(mVar 8), (mVar 12)]) [12])))) (gN 5))
def twoS : MS := (sSeq (sSet (mCallD Lw.F__law_draw [.own 0, .val (mC (.int 16))]) (gN 6))
  (sSeq (sSet (mFz (mLc (mRg1 (mO2 oAdd (mC (.int 1)) (mCallD Lw.F__law_draw [.own 0, .val (mC (.int 8))]))) (gN 11) mYes (mO2 oAdd (mVar 6) (mVar 11)) [11])) (gN 7))
  (sSeq (sSet (mFz (mLst [])) (gN 5))
  (sFor (mIt itL (mVar 4)) (gN 8) twoB))))
theorem len_two (N M : List Int) : (rows2 N M).length = N.length * M.length := by
  unfold rows2
  induction N with
  | nil => simp
  | cons n N ih => simp only [List.flatMap_cons, List.length_append, List.length_map, List.length_cons, ih, Nat.succ_mul]; omega
theorem two_ok {ds : List Dv} {x2 x3 x5 : Slt} {N : List Int} (hd : Dr ns ds) (f5 : free (some x5) = true) (hN : N.length ≤ 9) :
    ∃ M ds' x6 x7 x8, twoS (S ds 2 x2 x3 (.fz (.lst (N.map .int))) x5 .un .un .un .un .un .un .un) = .nx (S ds' 2 x2 x3 (.fz (.lst (N.map .int))) (.fz (rowsD (rows2 N M))) x6 x7 x8 .un .un .un .un) ∧ Dr ns ds' ∧ M.length ≤ 8 := by
  have hlim := limv
  obtain ⟨b, ds1, q1, b1, b2, hd1⟩ := cdraw (ns := ns) (ds := ds) (e := S ds 2 x2 x3 (.fz (.lst (N.map .int))) x5 .un .un .un .un .un .un .un) (i := 0) (j := some 0) (ma := mC (.int 16)) (m := 16) hd rfl rfl (by omega) (by omega)
  obtain ⟨c, ds2, q2, c1, c2, hd2⟩ := cdraw (ns := ns) (ds := ds1) (e := S ds1 2 x2 x3 (.fz (.lst (N.map .int))) x5 (.fz (.int b)) .un .un .un .un .un .un) (i := 0) (j := some 0) (ma := mC (.int 8)) (m := 8) hd1 rfl rfl (by omega) (by omega)
  obtain ⟨c, rfl⟩ := Int.eq_ofNat_of_zero_le c1
  have hr : itR 0 ((1 : Int) + (c : Int)) = some ((List.range (1 + c)).map fun (k : Nat) => Dv.int (k : Int)) := by
    have := itR_nat (n := 1 + c) (by omega)
    rwa [show (((1 + c : Nat)) : Int) = 1 + (c : Int) by omega] at this
  have s1 : sSet (mCallD Lw.F__law_draw [.own 0, .val (mC (.int 16))]) (gN 6) (S ds 2 x2 x3 (.fz (.lst (N.map .int))) x5 .un .un .un .un .un .un .un) = .nx (S ds1 2 x2 x3 (.fz (.lst (N.map .int))) x5 (.fz (.int b)) .un .un .un .un .un .un) := by
    rw [ev_set, q1]; rfl
  have hi : (mRg1 (mO2 oAdd (mC (.int 1)) (mCallD Lw.F__law_draw [.own 0, .val (mC (.int 8))]))) (S ds1 2 x2 x3 (.fz (.lst (N.map .int))) x5 (.fz (.int b)) .un .un .un .un .un .un) = .ok ((List.range (1 + c)).map fun (k : Nat) => Dv.int (k : Int)) (S ds2 2 x2 x3 (.fz (.lst (N.map .int))) x5 (.fz (.int b)) .un .un .un .un .un .un) := by
    rw [ev_rg1, ev_O2, ev_C, Rs.bind_ok, q2]
    simp only [Rs.bind_ok, oAdd, Rs.of_some, hr]
    rfl
  have hm : mLc (mRg1 (mO2 oAdd (mC (.int 1)) (mCallD Lw.F__law_draw [.own 0, .val (mC (.int 8))]))) (gN 11) mYes (mO2 oAdd (mVar 6) (mVar 11)) [11] (S ds1 2 x2 x3 (.fz (.lst (N.map .int))) x5 (.fz (.int b)) .un .un .un .un .un .un) = .ok (.lst ((nats b (1 + c)).map .int)) (S ds2 2 x2 x3 (.fz (.lst (N.map .int))) x5 (.fz (.int b)) .un .un .un .un .un .un) := by
    have e : (nats b (1 + c)).map Dv.int = (List.range (1 + c)).map fun (k : Nat) => Dv.int (b + (k : Int)) := by simp [nats]
    rw [e]
    exact mlc_mapA (h := fun (k : Nat) => Dv.int (k : Int)) hi rfl (by simp; omega) (fun k _ => ⟨S ds2 2 x2 x3 (.fz (.lst (N.map .int))) x5 (.fz (.int b)) .un .un .un .un (.fz (.int (k : Int))) .un, S ds2 2 x2 x3 (.fz (.lst (N.map .int))) x5 (.fz (.int b)) .un .un .un .un (.fz (.int (k : Int))) .un, rfl, rfl, rfl, rfl⟩) rfl
  have s2 : sSet (mFz (mLc (mRg1 (mO2 oAdd (mC (.int 1)) (mCallD Lw.F__law_draw [.own 0, .val (mC (.int 8))]))) (gN 11) mYes (mO2 oAdd (mVar 6) (mVar 11)) [11])) (gN 7) (S ds1 2 x2 x3 (.fz (.lst (N.map .int))) x5 (.fz (.int b)) .un .un .un .un .un .un) = .nx (S ds2 2 x2 x3 (.fz (.lst (N.map .int))) x5 (.fz (.int b)) (.fz (.lst ((nats b (1 + c)).map .int))) .un .un .un .un .un) := by
    rw [ev_set, ev_fz, hm]; rfl
  have s3 : sSet (mFz (mLst [])) (gN 5) (S ds2 2 x2 x3 (.fz (.lst (N.map .int))) x5 (.fz (.int b)) (.fz (.lst ((nats b (1 + c)).map .int))) .un .un .un .un .un) = .nx (S ds2 2 x2 x3 (.fz (.lst (N.map .int))) (.fz (rowsD [])) (.fz (.int b)) (.fz (.lst ((nats b (1 + c)).map .int))) .un .un .un .un .un) := by
    simp [S, f5, rowsD]
  obtain ⟨e1, q, x8, rfl, f8⟩ := loop_inv (g := gN 8) (b := twoB) (ds := N.map .int) (e := S ds2 2 x2 x3 (.fz (.lst (N.map .int))) (.fz (rowsD [])) (.fz (.int b)) (.fz (.lst ((nats b (1 + c)).map .int))) .un .un .un .un .un)
    (fun k e => ∃ x8, e = S ds2 2 x2 x3 (.fz (.lst (N.map .int))) (.fz (rowsD (rows2 (N.take k) (nats b (1 + c))))) (.fz (.int b)) (.fz (.lst ((nats b (1 + c)).map .int))) x8 .un .un .un .un ∧ free (some x8) = true)
    ⟨.un, rfl, rfl⟩
    (fun k d e hk he => by
      obtain ⟨x8, rfl, f8⟩ := he
      rw [List.getElem?_map] at hk
      obtain ⟨v, hv, rfl⟩ := Option.map_eq_some_iff.mp hk
      have hm : mLc (mIt itL (mVar 7)) (gN 12) mYes (mTup [(mVar 8), (mVar 12)]) [12] (S ds2 2 x2 x3 (.fz (.lst (N.map .int))) (.fz (rowsD (rows2 (N.take k) (nats b (1 + c))))) (.fz (.int b)) (.fz (.lst ((nats b (1 + c)).map .int))) (.fz (.int v)) .un .un .un .un) = .ok (.lst (((nats b (1 + c)).map fun o => ([v, o] : List Int)).map rD)) (S ds2 2 x2 x3 (.fz (.lst (N.map .int))) (.fz (rowsD (rows2 (N.take k) (nats b (1 + c))))) (.fz (.int b)) (.fz (.lst ((nats b (1 + c)).map .int))) (.fz (.int v)) .un .un .un .un) := by
        rw [List.map_map]
        exact mlc_mapA (h := Dv.int) (by simp [S, itL]) rfl (by rw [nats_len]; omega) (fun o _ => ⟨S ds2 2 x2 x3 (.fz (.lst (N.map .int))) (.fz (rowsD (rows2 (N.take k) (nats b (1 + c))))) (.fz (.int b)) (.fz (.lst ((nats b (1 + c)).map .int))) (.fz (.int v)) .un .un .un (.fz (.int o)), S ds2 2 x2 x3 (.fz (.lst (N.map .int))) (.fz (rowsD (rows2 (N.take k) (nats b (1 + c))))) (.fz (.int b)) (.fz (.lst ((nats b (1 + c)).map .int))) (.fz (.int v)) .un .un .un (.fz (.int o)), rfl, rfl, rfl, rfl⟩) rfl
      have hc : oCat (rowsD (rows2 (N.take k) (nats b (1 + c)))) (.lst (((nats b (1 + c)).map fun o => ([v, o] : List Int)).map rD)) = some ((rows2 (N.take (k + 1)) (nats b (1 + c))).map rD) := by
        have hkN : (N.take k).length ≤ 9 := by rw [List.length_take]; omega
        have hle := len_two (N.take k) (nats b (1 + c))
        have hmul : (N.take k).length * (nats b (1 + c)).length ≤ 9 * 8 := Nat.mul_le_mul hkN (by rw [nats_len]; omega)
        have hok : ((rows2 (N.take k) (nats b (1 + c))).map rD).length + (((nats b (1 + c)).map fun o => ([v, o] : List Int)).map rD).length ≤ lim := by
          simp only [List.length_map, hle]
          rw [nats_len] at hmul ⊢
          omega
        simp only [rowsD, oCat, hok, if_true]
        rw [List.take_add_one, hv]
        simp [rows2, List.flatMap_append]
      refine ⟨S ds2 2 x2 x3 (.fz (.lst (N.map .int))) (.fz (rowsD (rows2 (N.take k) (nats b (1 + c))))) (.fz (.int b)) (.fz (.lst ((nats b (1 + c)).map .int))) (.fz (.int v)) .un .un .un .un, S ds2 2 x2 x3 (.fz (.lst (N.map .int))) (.fz (rowsD (rows2 (N.take (k + 1)) (nats b (1 + c))))) (.fz (.int b)) (.fz (.lst ((nats b (1 + c)).map .int))) (.fz (.int v)) .un .un .un .un, by simp [S, f8], .inl ?_, _, rfl, rfl⟩
      have v5 : mVar 5 (S ds2 2 x2 x3 (.fz (.lst (N.map .int))) (.fz (rowsD (rows2 (N.take k) (nats b (1 + c))))) (.fz (.int b)) (.fz (.lst ((nats b (1 + c)).map .int))) (.fz (.int v)) .un .un .un .un) = .ok (rowsD (rows2 (N.take k) (nats b (1 + c)))) (S ds2 2 x2 x3 (.fz (.lst (N.map .int))) (.fz (rowsD (rows2 (N.take k) (nats b (1 + c))))) (.fz (.int b)) (.fz (.lst ((nats b (1 + c)).map .int))) (.fz (.int v)) .un .un .un .un) := rfl
      unfold twoB
      rw [ev_set, ev_fz]
      simp only [mN2, v5, Rs.bind_ok, ev_fz, hm, ev_toD, Rs.of_some, hc, Option.map_some, Rs.go_ok]
      rfl)
  refine ⟨nats b (1 + c), ds2, .fz (.int b), .fz (.lst ((nats b (1 + c)).map .int)), x8, ?_, hd2, by rw [nats_len]; omega⟩
  rw [List.length_map, List.take_of_length_le (Nat.le_refl _)] at q
  unfold twoS
  rw [ev_seq, s1, Sr.then_nx, ev_seq, s2, Sr.then_nx, ev_seq, s3, Sr.then_nx, ev_for, ev_it, ev_var]
  rw [show (S ds2 2 x2 x3 (.fz (.lst (N.map .int))) (.fz (rowsD [])) (.fz (.int b)) (.fz (.lst ((nats b (1 + c)).map .int))) .un .un .un .un .un)[4]? = some (.fz (.lst (N.map .int))) from rfl]
  simp only [Rs.bind_ok, itL, Rs.of_some, Rs.go_ok, q]
end
end K60x

set_option linter.all false
set_option maxRecDepth 10000
set_option maxHeartbeats 1000000
namespace K60x
open Ml Lw
section
variable {ns : List Int}
def midT : MS := (sSeq (sIf (mTest (mO2 oEq (mVar 1) (mC (.int 2)))) twoS sNil) endT)
def topT : MS := (sSeq (sSet (mO2 oAdd (mC (.int 1)) (mCallD Lw.F__law_draw [.own 0, .val (mC (.int 4))])) (gN 2))
  (sSeq (sSet (mCallD Lw.F__law_draw [.own 0, .val (mC (.int 15))]) (gN 3))
  (sSeq (sSet (mFz (mLc (mRg1 (mO2 oAdd (mC (.int 1)) (mCallD Lw.F__law_draw [.own 0, .val (mC (.int 9))]))) (gN 11) mYes (mO2 oAdd (mVar 3) (mVar 11)) [11])) (gN 4))
  (sSeq (sSet (mFz (mLc (mIt itL (mVar 4)) (gN 8) mYes (mTup [(mVar 8)]) [8])) (gN 5)) midT))))
theorem top_ok {ds : List Dv} {m : Nat} (hd : Dr ns ds) (hm : m = 1 ∨ m = 2) :
    ∃ T ds' e, topT (S ds m .un .un .un .un .un .un .un .un .un .un .un) = .rt (.fz (tbD T)) e ∧ e.length = 13 ∧ e[0]? = some (.ow (some 0) (.lst ds')) ∧ e[1]? = some (.fz (.int (m : Int))) ∧ Dr ns ds' ∧ TOk m T := by
  have hlim := limv
  obtain ⟨a, ds1, q1, a1, a2, hd1⟩ := cdraw (ns := ns) (ds := ds) (e := S ds m .un .un .un .un .un .un .un .un .un .un .un) (i := 0) (j := some 0) (ma := mC (.int 4)) (m := 4) hd rfl rfl (by omega) (by omega)
  obtain ⟨b, ds2, q2, b1, b2, hd2⟩ := cdraw (ns := ns) (ds := ds1) (e := S ds1 m (.fz (.int (1 + a))) .un .un .un .un .un .un .un .un .un .un) (i := 0) (j := some 0) (ma := mC (.int 15)) (m := 15) hd1 rfl rfl (by omega) (by omega)
  obtain ⟨c, ds3, q3, c1, c2, hd3⟩ := cdraw (ns := ns) (ds := ds2) (e := S ds2 m (.fz (.int (1 + a))) (.fz (.int b)) .un .un .un .un .un .un .un .un .un) (i := 0) (j := some 0) (ma := mC (.int 9)) (m := 9) hd2 rfl rfl (by omega) (by omega)
  obtain ⟨c, rfl⟩ := Int.eq_ofNat_of_zero_le c1
  have hr : itR 0 ((1 : Int) + (c : Int)) = some ((List.range (1 + c)).map fun (k : Nat) => Dv.int (k : Int)) := by
    have := itR_nat (n := 1 + c) (by omega)
    rwa [show (((1 + c : Nat)) : Int) = 1 + (c : Int) by omega] at this
  have s1 : sSet (mO2 oAdd (mC (.int 1)) (mCallD Lw.F__law_draw [.own 0, .val (mC (.int 4))])) (gN 2) (S ds m .un .un .un .un .un .un .un .un .un .un .un) = .nx (S ds1 m (.fz (.int (1 + a))) .un .un .un .un .un .un .un .un .un .un) := by
    rw [ev_set, ev_O2, ev_C, Rs.bind_ok, q1]; rfl
  have s2 : sSet (mCallD Lw.F__law_draw [.own 0, .val (mC (.int 15))]) (gN 3) (S ds1 m (.fz (.int (1 + a))) .un .un .un .un .un .un .un .un .un .un) = .nx (S ds2 m (.fz (.int (1 + a))) (.fz (.int b)) .un .un .un .un .un .un .un .un .un) := by
    rw [ev_set, q2]; rfl
  have hi : (mRg1 (mO2 oAdd (mC (.int 1)) (mCallD Lw.F__law_draw [.own 0, .val (mC (.int 9))]))) (S ds2 m (.fz (.int (1 + a))) (.fz (.int b)) .un .un .un .un .un .un .un .un .un) = .ok ((List.range (1 + c)).map fun (k : Nat) => Dv.int (k : Int)) (S ds3 m (.fz (.int (1 + a))) (.fz (.int b)) .un .un .un .un .un .un .un .un .un) := by
    rw [ev_rg1, ev_O2, ev_C, Rs.bind_ok, q3]
    simp only [Rs.bind_ok, oAdd, Rs.of_some, hr]
    rfl
  have hm3 : mLc (mRg1 (mO2 oAdd (mC (.int 1)) (mCallD Lw.F__law_draw [.own 0, .val (mC (.int 9))]))) (gN 11) mYes (mO2 oAdd (mVar 3) (mVar 11)) [11] (S ds2 m (.fz (.int (1 + a))) (.fz (.int b)) .un .un .un .un .un .un .un .un .un) = .ok (.lst ((nats b (1 + c)).map .int)) (S ds3 m (.fz (.int (1 + a))) (.fz (.int b)) .un .un .un .un .un .un .un .un .un) := by
    have e : (nats b (1 + c)).map Dv.int = (List.range (1 + c)).map fun (k : Nat) => Dv.int (b + (k : Int)) := by simp [nats]
    rw [e]
    exact mlc_mapA (h := fun (k : Nat) => Dv.int (k : Int)) hi rfl (by simp; omega) (fun k _ => ⟨S ds3 m (.fz (.int (1 + a))) (.fz (.int b)) .un .un .un .un .un .un .un (.fz (.int (k : Int))) .un, S ds3 m (.fz (.int (1 + a))) (.fz (.int b)) .un .un .un .un .un .un .un (.fz (.int (k : Int))) .un, rfl, rfl, rfl, rfl⟩) rfl
  have s3 : sSet (mFz (mLc (mRg1 (mO2 oAdd (mC (.int 1)) (mCallD Lw.F__law_draw [.own 0, .val (mC (.int 9))]))) (gN 11) mYes (mO2 oAdd (mVar 3) (mVar 11)) [11])) (gN 4) (S ds2 m (.fz (.int (1 + a))) (.fz (.int b)) .un .un .un .un .un .un .un .un .un) = .nx (S ds3 m (.fz (.int (1 + a))) (.fz (.int b)) (.fz (.lst ((nats b (1 + c)).map .int))) .un .un .un .un .un .un .un .un) := by
    rw [ev_set, ev_fz, hm3]; rfl
  have hm4 : mLc (mIt itL (mVar 4)) (gN 8) mYes (mTup [(mVar 8)]) [8] (S ds3 m (.fz (.int (1 + a))) (.fz (.int b)) (.fz (.lst ((nats b (1 + c)).map .int))) .un .un .un .un .un .un .un .un) = .ok (.lst ((rows1 (nats b (1 + c))).map rD)) (S ds3 m (.fz (.int (1 + a))) (.fz (.int b)) (.fz (.lst ((nats b (1 + c)).map .int))) .un .un .un .un .un .un .un .un) := by
    unfold rows1
    rw [List.map_map]
    exact mlc_mapA (h := Dv.int) (by simp [S, itL]) rfl (by rw [nats_len]; omega) (fun o _ => ⟨S ds3 m (.fz (.int (1 + a))) (.fz (.int b)) (.fz (.lst ((nats b (1 + c)).map .int))) .un .un .un (.fz (.int o)) .un .un .un .un, S ds3 m (.fz (.int (1 + a))) (.fz (.int b)) (.fz (.lst ((nats b (1 + c)).map .int))) .un .un .un (.fz (.int o)) .un .un .un .un, rfl, rfl, rfl, rfl⟩) rfl
  have s4 : sSet (mFz (mLc (mIt itL (mVar 4)) (gN 8) mYes (mTup [(mVar 8)]) [8])) (gN 5) (S ds3 m (.fz (.int (1 + a))) (.fz (.int b)) (.fz (.lst ((nats b (1 + c)).map .int))) .un .un .un .un .un .un .un .un) = .nx (S ds3 m (.fz (.int (1 + a))) (.fz (.int b)) (.fz (.lst ((nats b (1 + c)).map .int))) (.fz (rowsD (rows1 (nats b (1 + c))))) .un .un .un .un .un .un .un) := by
    rw [ev_set, ev_fz, hm4]; rfl
  have start : topT (S ds m .un .un .un .un .un .un .un .un .un .un .un) = midT (S ds3 m (.fz (.int (1 + a))) (.fz (.int b)) (.fz (.lst ((nats b (1 + c)).map .int))) (.fz (rowsD (rows1 (nats b (1 + c))))) .un .un .un .un .un .un .un) := by
    unfold topT
    rw [ev_seq, s1, Sr.then_nx, ev_seq, s2, Sr.then_nx, ev_seq, s3, Sr.then_nx, ev_seq, s4, Sr.then_nx]
  have hN : (nats b (1 + c)).length ≤ 9 := by rw [nats_len]; omega
  rcases hm with rfl | rfl
  · obtain ⟨T, ds', e, he, h1, h2, h3, h4, h5, h6⟩ := end_ok (ns := ns) (ds := ds3) (m := 1) (share := 1 + a) (R := rows1 (nats b (1 + c))) (x3 := .fz (.int b)) (x4 := .fz (.lst ((nats b (1 + c)).map .int))) (x6 := .un) (x7 := .un) (x8 := .un) (x11 := .un) (x12 := .un) hd3 (by simp [rows1]; omega)
    refine ⟨T, ds', e, ?_, h1, h2, h3, h4, ⟨fun r hr => ?_, by omega, by simp [rows1] at h5; omega, fun i hi => ?_⟩⟩
    · rw [start]
      unfold midT
      rw [ev_seq, show (sIf (mTest (mO2 oEq (mVar 1) (mC (.int 2)))) twoS sNil) (S ds3 1 (.fz (.int (1 + a))) (.fz (.int b)) (.fz (.lst ((nats b (1 + c)).map .int))) (.fz (rowsD (rows1 (nats b (1 + c))))) .un .un .un .un .un .un .un) = .nx (S ds3 1 (.fz (.int (1 + a))) (.fz (.int b)) (.fz (.lst ((nats b (1 + c)).map .int))) (.fz (rowsD (rows1 (nats b (1 + c))))) .un .un .un .un .un .un .un) from rfl, Sr.then_nx, he]
    · obtain ⟨n, _, rfl⟩ := List.mem_map.mp (h6 r hr); rfl
    · obtain rfl : i = 0 := by omega
      exact ⟨nats b (1 + c), hN, fun r hr => by obtain ⟨n, hn, rfl⟩ := List.mem_map.mp (h6 r hr); exact hn⟩
  · obtain ⟨M, ds4, x6, x7, x8, st, hd4, hM⟩ := two_ok (ns := ns) (ds := ds3) (x2 := .fz (.int (1 + a))) (x3 := .fz (.int b)) (x5 := .fz (rowsD (rows1 (nats b (1 + c))))) (N := nats b (1 + c)) hd3 rfl hN
    have hlen := len_two (nats b (1 + c)) M
    have hmul : (nats b (1 + c)).length * M.length ≤ 9 * 8 := Nat.mul_le_mul hN hM
    obtain ⟨T, ds', e, he, h1, h2, h3, h4, h5, h6⟩ := end_ok (ns := ns) (ds := ds4) (m := 2) (share := 1 + a) (R := rows2 (nats b (1 + c)) M) (x3 := .fz (.int b)) (x4 := .fz (.lst ((nats b (1 + c)).map .int))) (x6 := x6) (x7 := x7) (x8 := x8) (x11 := .un) (x12 := .un) hd4 (by omega)
    have hmem : ∀ r ∈ T, ∃ n o, n ∈ nats b (1 + c) ∧ o ∈ M ∧ r = [n, o] := fun r hr => by
      obtain ⟨n, hn, ho⟩ := List.mem_flatMap.mp (h6 r hr)
      obtain ⟨o, hoM, hr'⟩ := List.mem_map.mp ho
      exact ⟨n, o, hn, hoM, hr'.symm⟩
    refine ⟨T, ds', e, ?_, h1, h2, h3, h4, ⟨fun r hr => ?_, by omega, by omega, fun i hi => ?_⟩⟩
    · rw [start]
      unfold midT
      have ht : (sIf (mTest (mO2 oEq (mVar 1) (mC (.int 2)))) twoS sNil) (S ds3 2 (.fz (.int (1 + a))) (.fz (.int b)) (.fz (.lst ((nats b (1 + c)).map .int))) (.fz (rowsD (rows1 (nats b (1 + c))))) .un .un .un .un .un .un .un) = twoS (S ds3 2 (.fz (.int (1 + a))) (.fz (.int b)) (.fz (.lst ((nats b (1 + c)).map .int))) (.fz (rowsD (rows1 (nats b (1 + c))))) .un .un .un .un .un .un .un) := if_t rfl
      rw [ev_seq, ht, st, Sr.then_nx, he]
    · obtain ⟨n, o, _, _, rfl⟩ := hmem r hr; rfl
    · rcases (show i = 0 ∨ i = 1 by omega) with rfl | rfl
      · exact ⟨nats b (1 + c), hN, fun r hr => by obtain ⟨n, o, hn, _, rfl⟩ := hmem r hr; exact hn⟩
      · exact ⟨M, by omega, fun r hr => by obtain ⟨n, o, _, ho, rfl⟩ := hmem r hr; exact ho⟩
theorem table_ok {ds : List Dv} {m : Nat} (hd : Dr ns ds) (hm : m ≤ 2) : ∃ T ds', F__law_table_of [.ow none (.lst ds), .fz (.int (m : Int))] = .ok (.fz (tbD T)) [.lst ds'] ∧ Dr ns ds' ∧ TOk m T := by
  have hb : ∀ e : Loc, m__law_table_of e = (sSeq (sIf (mTest (mO2 oEq (mVar 1) (mC (.int 0))))
  (sRet (mIte (mTest (mO2 oEq (mCallD Lw.F__law_draw [.own 0, .val (mC (.int 2))]) (mC (.int 1)))) (mTup [(mTup [])]) (mTup [])))
  sNil) topT) e := fun e => rfl
  by_cases c : m = 0
  · subst c
    obtain ⟨a, ds1, q1, a1, a2, hd1⟩ := cdraw (ns := ns) (ds := ds) (e := S ds 0 .un .un .un .un .un .un .un .un .un .un .un) (i := 0) (j := some 0) (ma := mC (.int 2)) (m := 2) hd rfl rfl (by omega) (by omega)
    have q1 : mCallD Lw.F__law_draw [.own 0, .val (mC (.int 2))] (S ds 0 .un .un .un .un .un .un .un .un .un .un .un) = .ok (.int a) (S ds1 0 .un .un .un .un .un .un .un .un .un .un .un) := q1
    have key : ∀ {T : List (List Int)}, tbD T = (if a = 1 then .tup [.tup []] else .tup []) → F__law_table_of [.ow none (.lst ds), .fz (.int ((0 : Nat) : Int))] = .ok (.fz (tbD T)) [.lst ds1] := by
      intro T hT
      refine fn_ok rfl rfl (e := S ds1 0 .un .un .un .un .un .un .un .un .un .un .un) ?_ rfl
      show m__law_table_of (S ds 0 .un .un .un .un .un .un .un .un .un .un .un) = _
      rw [hb, ev_seq, if_t (t := (mTest (mO2 oEq (mVar 1) (mC (.int 0))))) (e1 := S ds 0 .un .un .un .un .un .un .un .un .un .un .un) rfl, ev_ret]
      simp only [mIte, ev_test, ev_O2, q1, Rs.bind_ok, ev_C, oEq, eqS, Option.map_some, Rs.of_some]
      by_cases c : a = 1
      · simp only [c, decide_true, if_true]
        rw [if_pos c] at hT
        rw [hT]; rfl
      · simp only [c, decide_false, Bool.false_eq_true, if_false]
        rw [if_neg c] at hT
        rw [hT]; rfl
    by_cases c : a = 1
    · exact ⟨[[]], ds1, key (by rw [if_pos c]; rfl), hd1, ⟨fun r hr => by simp at hr; rw [hr]; rfl, by omega, by simp, fun i hi => by omega⟩⟩
    · exact ⟨[], ds1, key (by rw [if_neg c]; rfl), hd1, ⟨fun r hr => by simp at hr, by omega, by simp, fun i hi => by omega⟩⟩
  · obtain ⟨T, ds', e, he, h1, h2, h3, h4, h5⟩ := top_ok (ns := ns) (ds := ds) (m := m) hd (by omega)
    refine ⟨T, ds', ?_, h4, h5⟩
    refine fn_ok rfl rfl (e := e) ?_ ?_
    · show m__law_table_of (S ds m .un .un .un .un .un .un .un .un .un .un .un) = _
      have ht : (mTest (mO2 oEq (mVar 1) (mC (.int 0)))) (S ds m .un .un .un .un .un .un .un .un .un .un .un) = .ok false (S ds m .un .un .un .un .un .un .un .un .un .un .un) := by
        simp [S, oEq, eqS, c]
      rw [hb, ev_seq, if_f ht, ev_nil, Sr.then_nx, he]
    · match e, h1, h2, h3 with
      | s0 :: s1 :: e, _, h2, h3 =>
        simp only [List.getElem?_cons_zero, List.getElem?_cons_succ, Option.some.injEq] at h2 h3
        subst h2; subst h3
        rfl
/-! the ways to finish that are drawn -/
def FN (ds : List Dv) (T : List (List Int)) (m : Nat) (R : List Dv) (x4 : Slt) : Loc := [.ow (some 0) (.lst ds), .fz (tbD T), .fz (.int (m : Int)), .fz (.lst R), x4]
theorem fins_ok {ds : List Dv} {m : Nat} {T : List (List Int)} (hd : Dr ns ds) (t : TOk m T) : ∃ fs ds', F__law_finishes [.ow none (.lst ds), .fz (tbD T), .fz (.int (m : Int))] = .ok (.ow none (.lst fs)) [.lst ds'] ∧ Dr ns ds' ∧ ∀ f ∈ fs, FinOk m f := by
  have hlim := limv
  have hn := t.n
  have hmm := t.mm
  obtain ⟨k, ds1, q1, k1, k2, hd1⟩ := cdraw (ns := ns) (ds := ds) (e := [.ow (some 0) (.lst ds), .fz (tbD T), .fz (.int (m : Int)), .un, .un]) (i := 0) (j := some 0) (ma := mO2 oAdd (mO1 oLen (mVar 1)) (mC (.int 3))) (m := (T.length : Int) + 3) hd rfl (by simp [ol_T, oAdd]) (by omega) (by omega)
  obtain ⟨k, rfl⟩ := Int.eq_ofNat_of_zero_le k1
  have s1 : sSet (mFz (mLst [(mTup [(mC (.str u0))]), (mTup [(mC (.str u1))]), (mTup [(mC (.str u2)), (mC (.int 0))]), (mTup [(mC (.str u2)), (mC (.int 1))]), (mTup [(mC (.str u2)), (mCallD Lw.F__law_draw [.own 0, .val (mO2 oAdd (mO1 oLen (mVar 1)) (mC (.int 3)))])])])) (gN 3) [.ow (some 0) (.lst ds), .fz (tbD T), .fz (.int (m : Int)), .un, .un] = .nx (FN ds1 T m [.tup [.str u0], .tup [.str u1], .tup [.str u2, .int 0], .tup [.str u2, .int 1], .tup [.str u2, .int (k : Int)]] .un) := by
    have a1 : ∀ e, mTup [(mC (.str u0))] e = .ok (.tup [.str u0]) e := fun _ => rfl
    have a2 : ∀ e, mTup [(mC (.str u1))] e = .ok (.tup [.str u1]) e := fun _ => rfl
    have a3 : ∀ e, mTup [(mC (.str u2)), (mC (.int 0))] e = .ok (.tup [.str u2, .int 0]) e := fun _ => rfl
    have a4 : ∀ e, mTup [(mC (.str u2)), (mC (.int 1))] e = .ok (.tup [.str u2, .int 1]) e := fun _ => rfl
    have a5 : mTup [(mC (.str u2)), (mCallD Lw.F__law_draw [.own 0, .val (mO2 oAdd (mO1 oLen (mVar 1)) (mC (.int 3)))])] [.ow (some 0) (.lst ds), .fz (tbD T), .fz (.int (m : Int)), .un, .un] = .ok (.tup [.str u2, .int (k : Int)]) [.ow (some 0) (.lst ds1), .fz (tbD T), .fz (.int (m : Int)), .un, .un] := by
      simp only [ev_tup, ev_args1, ev_args0, ev_C, Rs.bind_ok, q1]
      rfl
    simp only [ev_set, ev_fz, ev_lst, ev_args1, ev_args0, a1, a2, a3, a4, a5, Rs.bind_ok]
    rfl
  have hr : itR 0 (m : Int) = some ((List.range m).map fun (j : Nat) => Dv.int (j : Int)) := itR_nat (by omega)
  obtain ⟨e1, q, R, x4, rfl, f4, hl, hok⟩ := loop_inv (g := gN 4) (b := (sSet (mFz (mN2 oCat (mVar 3) (mFz (mLst [(mTup [(mC (.str u3)), (mVar 4)]), (mTup [(mC (.str u4)), (mVar 4)])])))) (gN 3))) (ds := (List.range m).map fun (j : Nat) => Dv.int (j : Int)) (e := FN ds1 T m [.tup [.str u0], .tup [.str u1], .tup [.str u2, .int 0], .tup [.str u2, .int 1], .tup [.str u2, .int (k : Int)]] .un)
    (fun i e => ∃ R x4, e = FN ds1 T m R x4 ∧ free (some x4) = true ∧ R.length ≤ 5 + 2 * i ∧ ∀ f ∈ R, FinOk m f)
    ⟨_, _, rfl, rfl, by simp, fun f hf => by
      simp only [List.mem_cons, List.not_mem_nil, or_false] at hf
      rcases hf with rfl | rfl | rfl | rfl | rfl
      · exact .inl rfl
      · exact .inr (.inl rfl)
      · exact .inr (.inr (.inl ⟨0, rfl⟩))
      · exact .inr (.inr (.inl ⟨1, rfl⟩))
      · exact .inr (.inr (.inl ⟨k, rfl⟩))⟩
    (fun i d e hk he => by
      obtain ⟨R, x4, rfl, f4, hl, hok⟩ := he
      rw [List.getElem?_map] at hk
      obtain ⟨j, hj, rfl⟩ := Option.map_eq_some_iff.mp hk
      have hjm : j < m ∧ i < m := by
        obtain ⟨a, b⟩ := List.getElem?_eq_some_iff.mp hj
        simp at a b; omega
      have hc : oCat (.lst R) (.lst [.tup [.str u3, .int (j : Int)], .tup [.str u4, .int (j : Int)]]) = some (R ++ [.tup [.str u3, .int (j : Int)], .tup [.str u4, .int (j : Int)]]) := by
        have : R.length + 2 ≤ lim := by omega
        simp [oCat, this]
      refine ⟨FN ds1 T m R (.fz (.int (j : Int))), FN ds1 T m (R ++ [.tup [.str u3, .int (j : Int)], .tup [.str u4, .int (j : Int)]]) (.fz (.int (j : Int))), by simp [FN, f4], .inl ?_, _, _, rfl, rfl, by simp; omega, fun f hf => ?_⟩
      · simp only [FN, ev_set, ev_fz, mN2, ev_var, List.getElem?_cons_succ, List.getElem?_cons_zero, Rs.bind_ok, ev_lst, ev_args1, ev_args0, ev_tup, ev_C, List.length_cons, List.length_nil]
        simp [hc]
      · rcases List.mem_append.mp hf with hf | hf
        · exact hok f hf
        · simp only [List.mem_cons, List.not_mem_nil, or_false] at hf
          exact .inr (.inr (.inr ⟨j, hjm.1, hf⟩)))
  simp only [List.length_map, List.length_range] at hl
  obtain ⟨fs, ds2, q2, hsub, hd2⟩ := shuf_ok (ns := ns) (ds := ds1) (xs := R) hd1 (by omega)
  refine ⟨fs, ds2, ?_, hd2, fun f hf => hok f (hsub f hf)⟩
  refine fn_ok rfl rfl (e := FN ds2 T m R x4) ?_ rfl
  show (sSeq (sSet (mFz (mLst [(mTup [(mC (.str u0))]), (mTup [(mC (.str u1))]), (mTup [(mC (.str u2)), (mC (.int 0))]), (mTup [(mC (.str u2)), (mC (.int 1))]), (mTup [(mC (.str u2)), (mCallD Lw.F__law_draw [.own 0, .val (mO2 oAdd (mO1 oLen (mVar 1)) (mC (.int 3)))])])])) (gN 3))
    (sSeq (sFor (mRg1 (mVar 2)) (gN 4) (sSet (mFz (mN2 oCat (mVar 3) (mFz (mLst [(mTup [(mC (.str u3)), (mVar 4)]), (mTup [(mC (.str u4)), (mVar 4)])])))) (gN 3)))
    (sRetO (mCallO F__law_shuffled [.own 0, .val (mVar 3)])))) [.ow (some 0) (.lst ds), .fz (tbD T), .fz (.int (m : Int)), .un, .un] = _
  rw [ev_seq, s1, Sr.then_nx, ev_seq, ev_for, ev_rg1, ev_var]
  rw [show (FN ds1 T m [.tup [.str u0], .tup [.str u1], .tup [.str u2, .int 0], .tup [.str u2, .int 1], .tup [.str u2, .int (k : Int)]] .un)[2]? = some (.fz (.int (m : Int))) from rfl]
  simp only [Rs.bind_ok, hr, Rs.of_some, Rs.go_ok, q, Sr.then_nx]
  have hc : mCallO F__law_shuffled [.own 0, .val (mVar 3)] (FN ds1 T m R x4) = .ok (.lst fs) (FN ds2 T m R x4) := by
    simp [FN, mCallO, mCall, mAs, isOw, owns, resolve, q2, wback, putO]
  rw [ev_retO, hc]
  rfl
/-! the law -/
def E (ds : List Dv) (P : List Dv) (x3 x4 x5 : Slt) : Loc := [.un, .ow none (.lst ds), .ow none (.lst P), x3, x4, x5, .un, .un]
def PairOk (d : Dv) : Prop := ∃ (m : Nat) (T : List (List Int)) (fs : List Dv), d = .tup [tbD T, .lst fs] ∧ TOk m T ∧ ∀ f ∈ fs, FinOk m f
def pB : MS := (sSeq (sSet (mCallD Lw.F__law_pick [.own 1, .val (mFz (mLst [(mC (.int 0)), (mC (.int 1)), (mC (.int 1)), (mC (.int 2)), (mC (.int 2)), (mC (.int 2)), (mC (.int 2))]))]) (gN 4))
  (sSeq (sSet (mCallD F__law_table_of [.own 1, .val (mVar 4)]) (gN 5))
  (sApp 2 (mTup [(mVar 5), (mFz (mCallO F__law_finishes [.own 1, .val (mVar 5), .val (mVar 4)]))]))))
theorem callO_ovv {e : Loc} {i : Nat} {j : Option Nat} {ds ds' ys : List Dv} {ma mb : ME Dv} {a b : Dv} {F : Fn} (he : e[i]? = some (.ow j (.lst ds))) (h1 : ma e = .ok a e) (h2 : mb e = .ok b e) (h : F [.ow none (.lst ds), .fz a, .fz b] = .ok (.ow none (.lst ys)) [.lst ds']) :
    mCallO F [.own i, .val ma, .val mb] e = .ok (.lst ys) (e.set i (.ow j (.lst ds'))) := by
  simp [mCallO, mCall, mAs, h1, he, isOw, h2, owns, resolve, h, wback, putO]
theorem p_step {ds P : List Dv} {x3 x4 x5 : Slt} (hd : Dr ns ds) (f4 : free (some x4) = true) (f5 : free (some x5) = true) (hP : P.length ≤ 100) :
    ∃ ds' d y4 y5, pB (E ds P x3 x4 x5) = .nx (E ds' (P ++ [d]) x3 y4 y5) ∧ Dr ns ds' ∧ PairOk d ∧ free (some y4) = true ∧ free (some y5) = true := by
  have hlim := limv
  have hm : mFz (mLst [(mC (.int 0)), (mC (.int 1)), (mC (.int 1)), (mC (.int 2)), (mC (.int 2)), (mC (.int 2)), (mC (.int 2))]) (E ds P x3 x4 x5) = .ok (.lst ([0, 1, 1, 2, 2, 2, 2].map .int)) (E ds P x3 x4 x5) := rfl
  obtain ⟨v, ds1, q1, hv, hd1⟩ := cpickI (ns := ns) (e := E ds P x3 x4 x5) (i := 1) (j := none) hd rfl hm (by simp) (by simp)
  have hv : 0 ≤ v ∧ v ≤ 2 := by
    simp only [List.mem_cons, List.not_mem_nil, or_false] at hv
    omega
  obtain ⟨m, rfl⟩ := Int.eq_ofNat_of_zero_le hv.1
  obtain ⟨T, ds2, q2, hd2, t⟩ := table_ok (ns := ns) (ds := ds1) (m := m) hd1 (by omega)
  have c2 := call_ov (e := E ds1 P x3 (.fz (.int (m : Int))) x5) (e1 := E ds1 P x3 (.fz (.int (m : Int))) x5) (i := 1) (j := none) (ma := mVar 4) (F := F__law_table_of) rfl rfl rfl q2
  obtain ⟨fs, ds3, q3, hd3, hfs⟩ := fins_ok (ns := ns) (ds := ds2) hd2 t
  have c3 := callO_ovv (e := E ds2 P x3 (.fz (.int (m : Int))) (.fz (tbD T))) (i := 1) (j := none) (ma := mVar 5) (mb := mVar 4) (F := F__law_finishes) rfl rfl rfl q3
  have s1 : sSet (mCallD Lw.F__law_pick [.own 1, .val (mFz (mLst [(mC (.int 0)), (mC (.int 1)), (mC (.int 1)), (mC (.int 2)), (mC (.int 2)), (mC (.int 2)), (mC (.int 2))]))]) (gN 4) (E ds P x3 x4 x5) = .nx (E ds1 P x3 (.fz (.int (m : Int))) x5) := by
    rw [ev_set, q1]; simp [E, f4]
  have s2 : sSet (mCallD F__law_table_of [.own 1, .val (mVar 4)]) (gN 5) (E ds1 P x3 (.fz (.int (m : Int))) x5) = .nx (E ds2 P x3 (.fz (.int (m : Int))) (.fz (tbD T))) := by
    rw [ev_set, c2]; simp [E, f5]
  have v5 : mVar 5 (E ds2 P x3 (.fz (.int (m : Int))) (.fz (tbD T))) = .ok (tbD T) (E ds2 P x3 (.fz (.int (m : Int))) (.fz (tbD T))) := rfl
  have m3 : mTup [(mVar 5), (mFz (mCallO F__law_finishes [.own 1, .val (mVar 5), .val (mVar 4)]))] (E ds2 P x3 (.fz (.int (m : Int))) (.fz (tbD T))) = .ok (.tup [tbD T, .lst fs]) (E ds3 P x3 (.fz (.int (m : Int))) (.fz (tbD T))) := by
    simp only [ev_tup, ev_args1, ev_args0, v5, Rs.bind_ok, ev_fz, c3, ev_toD, Rs.of_some]
    rfl
  refine ⟨ds3, .tup [tbD T, .lst fs], .fz (.int (m : Int)), .fz (tbD T), ?_, hd3, ⟨m, T, fs, rfl, t, hfs⟩, rfl, rfl⟩
  unfold pB
  rw [ev_seq, s1, Sr.then_nx, ev_seq, s2, Sr.then_nx, app_ok (i := 2) (j := none) (xs := P) rfl m3 rfl (by omega)]
  rfl
def G (ds P : List Dv) (x3 x4 x5 x6 x7 : Slt) : Loc := [.un, .ow none (.lst ds), .fz (.lst P), x3, x4, x5, x6, x7]
def inB : MS := (sIf (mNot (mTruth (mCallD (F__law_same 6) [.val (mCallD F_finished [.val (mVar 5), .val (mVar 7)]), .val (mCallD F__law_due [.val (mVar 5), .val (mVar 7)])])))
  (sRet (mC (.bl false)))
  sNil)
theorem in_step {ds P : List Dv} {x3 x4 x6 : Slt} {m : Nat} {T : List (List Int)} {f : Dv} (t : TOk m T) (h : FinOk m f) : inB (G ds P x3 x4 (.fz (tbD T)) x6 (.fz f)) = .nx (G ds P x3 x4 (.fz (tbD T)) x6 (.fz f)) := by
  obtain ⟨X, h1, h2, h3⟩ := both t h
  have h4 := same_ok h3
  have e1 : mCallD F_finished [.val (mVar 5), .val (mVar 7)] (G ds P x3 x4 (.fz (tbD T)) x6 (.fz f)) = .ok X (G ds P x3 x4 (.fz (tbD T)) x6 (.fz f)) := by
    simp only [G, ev_callD, call_f2, ev_var, List.getElem?_cons_succ, List.getElem?_cons_zero, Rs.bind_ok, h1]
  have e2 : mCallD F__law_due [.val (mVar 5), .val (mVar 7)] (G ds P x3 x4 (.fz (tbD T)) x6 (.fz f)) = .ok X (G ds P x3 x4 (.fz (tbD T)) x6 (.fz f)) := by
    simp only [G, ev_callD, call_f2, ev_var, List.getElem?_cons_succ, List.getElem?_cons_zero, Rs.bind_ok, h2]
  have e3 : mCallD (F__law_same 6) [.val (mCallD F_finished [.val (mVar 5), .val (mVar 7)]), .val (mCallD F__law_due [.val (mVar 5), .val (mVar 7)])] (G ds P x3 x4 (.fz (tbD T)) x6 (.fz f)) = .ok (.bl true) (G ds P x3 x4 (.fz (tbD T)) x6 (.fz f)) := by
    rw [ev_callD, call_f2, e1]
    simp only [Rs.bind_ok, e2, h4]
  unfold inB
  rw [ev_if, ev_not, ev_truth, e3]
  rfl
theorem out_step {ds P fs : List Dv} {x3 x4 x7 : Slt} {m : Nat} {T : List (List Int)} (t : TOk m T) (h : ∀ f ∈ fs, FinOk m f) (f7 : free (some x7) = true) :
    ∃ y7, (sFor (mIt itL (mVar 6)) (gN 7) inB) (G ds P x3 x4 (.fz (tbD T)) (.fz (.lst fs)) x7) = .nx (G ds P x3 x4 (.fz (tbD T)) (.fz (.lst fs)) y7) ∧ free (some y7) = true := by
  obtain ⟨e1, q, y7, rfl, g7⟩ := loop_inv (g := gN 7) (b := inB) (ds := fs) (e := G ds P x3 x4 (.fz (tbD T)) (.fz (.lst fs)) x7)
    (fun k e => ∃ y7, e = G ds P x3 x4 (.fz (tbD T)) (.fz (.lst fs)) y7 ∧ free (some y7) = true)
    ⟨x7, rfl, f7⟩
    (fun k d e hk he => by
      obtain ⟨y7, rfl, g7⟩ := he
      exact ⟨G ds P x3 x4 (.fz (tbD T)) (.fz (.lst fs)) (.fz d), _, by simp [G, g7], .inl (in_step t (h d (List.mem_of_getElem? hk))), .fz d, rfl, rfl⟩)
  refine ⟨y7, ?_, g7⟩
  rw [ev_for, ev_it, ev_var, show (G ds P x3 x4 (.fz (tbD T)) (.fz (.lst fs)) x7)[6]? = some (.fz (.lst fs)) from rfl]
  simp only [Rs.bind_ok, itL, Rs.of_some, Rs.go_ok, q]
theorem law_true : ∀ ns : List Int, ns.length ≤ 63 → ∃ e, m_law (lawE ns 6) = .rt (.fz (.bl true)) e := by
  intro ns _
  have hd0 : Dr ns [.scr ns, .int 0, .int 0, .int 7] := ⟨0, 0, 7, rfl, by omega, by omega, by omega⟩
  have s0 : sSetO 2 (mLst []) (lawE ns 6) = .nx (E [.scr ns, .int 0, .int 0, .int 7] [] .un .un .un) := rfl
  obtain ⟨e1, q, ds1, P, x3, x4, x5, rfl, f3, f4, f5, hd1, hl, hok⟩ := loop_inv (g := gN 3) (b := pB) (ds := (List.range 2).map fun (k : Nat) => Dv.int (k : Int)) (e := E [.scr ns, .int 0, .int 0, .int 7] [] .un .un .un)
    (fun k e => ∃ ds P x3 x4 x5, e = E ds P x3 x4 x5 ∧ free (some x3) = true ∧ free (some x4) = true ∧ free (some x5) = true ∧ Dr ns ds ∧ P.length = k ∧ ∀ d ∈ P, PairOk d)
    ⟨_, [], _, _, _, rfl, rfl, rfl, rfl, hd0, rfl, by simp⟩
    (fun k d e hk he => by
      obtain ⟨ds, P, x3, x4, x5, rfl, f3, f4, f5, hd, hl, hok⟩ := he
      have hkt : k < 2 := by
        have := (List.getElem?_eq_some_iff.mp hk).1
        simpa using this
      obtain ⟨ds', d', y4, y5, st, hd', hp, g4, g5⟩ := p_step (ns := ns) (x3 := .fz d) hd f4 f5 (P := P) (by omega)
      refine ⟨E ds P (.fz d) x4 x5, _, by simp [E, f3], .inl st, ds', _, _, _, _, rfl, rfl, g4, g5, hd', by simp [hl], fun y hy => ?_⟩
      rcases List.mem_append.mp hy with hy | hy
      · exact hok y hy
      · simp only [List.mem_singleton] at hy; subst hy; exact hp)
  simp only [List.length_map, List.length_range] at hl
  match P, hl with
  | [d0, d1], _ =>
    have h0 := hok d0 (by simp)
    have h1 := hok d1 (by simp)
    obtain ⟨e2, q2, y5, y6, y7, rfl, g5, g6, g7⟩ := loop_inv (g := (gT [(gN 5), (gN 6)])) (b := (sFor (mIt itL (mVar 6)) (gN 7) inB)) (ds := [d0, d1, d0]) (e := G ds1 [d0, d1] x3 x4 x5 .un .un)
      (fun k e => ∃ y5 y6 y7, e = G ds1 [d0, d1] x3 x4 y5 y6 y7 ∧ free (some y5) = true ∧ free (some y6) = true ∧ free (some y7) = true)
      ⟨_, _, _, rfl, f5, rfl, rfl⟩
      (fun k d e hk he => by
        obtain ⟨y5, y6, y7, rfl, g5, g6, g7⟩ := he
        have hd : PairOk d := by
          have := List.mem_of_getElem? hk
          simp only [List.mem_cons, List.not_mem_nil, or_false] at this
          rcases this with rfl | rfl | rfl
          · exact h0
          · exact h1
          · exact h0
        obtain ⟨m, T, fs, rfl, t, hf⟩ := hd
        obtain ⟨z7, st, i7⟩ := out_step (ds := ds1) (P := [d0, d1]) (x3 := x3) (x4 := x4) t hf g7
        exact ⟨G ds1 [d0, d1] x3 x4 (.fz (tbD T)) (.fz (.lst fs)) y7, _, by simp [G, g5, g6], .inl st, _, _, _, rfl, rfl, rfl, i7⟩)
    refine ⟨G ds1 [d0, d1] x3 x4 y5 y6 y7, ?_⟩
    show (sSeq (sSetO 2 (mLst [])) (sSeq (sFor (mRg1 (mC (.int 2))) (gN 3) pB) (sFrz 2 (sSeq (sFor (mIt itL (mFz (mLst [(mO2 oIx (mVar 2) (mC (.int 0))), (mO2 oIx (mVar 2) (mC (.int 1))), (mO2 oIx (mVar 2) (mC (.int 0)))]))) (gT [(gN 5), (gN 6)]) (sFor (mIt itL (mVar 6)) (gN 7) inB)) (sRet (mC (.bl true))))))) (lawE ns 6) = _
    have hr : itR 0 (2 : Int) = some ((List.range 2).map fun (k : Nat) => Dv.int (k : Int)) := itR_nat (n := 2) (by omega)
    rw [ev_seq, s0, Sr.then_nx, ev_seq, ev_for, ev_rg1, ev_C]
    simp only [Rs.bind_ok, hr, Rs.of_some, Rs.go_ok, q, Sr.then_nx]
    rw [ev_frz, show (E ds1 [d0, d1] x3 x4 x5)[2]? = some (.ow none (.lst [d0, d1])) from rfl]
    show (sSeq _ _) (G ds1 [d0, d1] x3 x4 x5 .un .un) = _
    have hit : mIt itL (mFz (mLst [(mO2 oIx (mVar 2) (mC (.int 0))), (mO2 oIx (mVar 2) (mC (.int 1))), (mO2 oIx (mVar 2) (mC (.int 0)))])) (G ds1 [d0, d1] x3 x4 x5 .un .un) = .ok [d0, d1, d0] (G ds1 [d0, d1] x3 x4 x5 .un .un) := rfl
    rw [ev_seq, ev_for, hit, Rs.go_ok, q2, Sr.then_nx]
    rfl
end
theorem law_true' : ∀ ns : List Int, ns.length ≤ 63 → ∃ e, K60.m_law (lawE ns 6) = .rt (.fz (.bl true)) e := by
  rw [law_eq]; exact law_true
end K60x
theorem K60.law_true : ∀ ns : List Int, ns.length ≤ 63 → ∃ e, K60.m_law (Ml.lawE ns 6) = .rt (.fz (.bl true)) e := K60x.law_true'

set_option Elab.async false
set_option linter.all false
set_option maxRecDepth 100000
open PySem PySem.W PyProof.Rows
set_option maxHeartbeats 0 in
theorem PySem.Challenge.cw_edgesaway_k60_finished_holds : PySem.Challenge.rw_edgesaway_k60_finished.Holds := by
  w_on; o_law; k_head; (case hw => w_witness2)
  k_fill
  refine L2.walk_of (l := PySem.Challenge.rw_edgesaway_k60_finished) (n := 63) (k := 9) (x := "_law_script") (CX := fun _ => L2.CX0) (sp := fun w => Ml.spLaw _) rfl (by decide) rfl ⟨rfl, by decide, by decide⟩ (fun w h Y => PySem.W.kIn_of Y) ?F (fun _ _ a ns hl _ hS => ⟨a, ns, rfl, hS, hl, fun _ => rfl⟩) (fun _ _ _ _ _ h => h)
  case F =>
    intro w mg fa h KX G hmg
    refine' K60.all_mk KX G hmg K60.law_true ?a ?l ?c ?k (Ml.defK_mk ?a__law_begin ?l__law_begin ?c__law_begin ?k__law_begin) (Ml.defK_mk ?a_finished ?l_finished ?c_finished ?k_finished) (Ml.defK_mk ?a__law_draw ?l__law_draw ?c__law_draw ?k__law_draw) (Ml.defK_mk ?a__law_pick ?l__law_pick ?c__law_pick ?k__law_pick) (Ml.defK_mk ?a__law_shuffled ?l__law_shuffled ?c__law_shuffled ?k__law_shuffled) (Ml.defK_mk ?a__law_is_int ?l__law_is_int ?c__law_is_int ?k__law_is_int) (Ml.defK_mk ?a__law_up ?l__law_up ?c__law_up ?k__law_up) (Ml.defK_mk ?a__law_same ?l__law_same ?c__law_same ?k__law_same) (Ml.defK_mk ?a__law_table_of ?l__law_table_of ?c__law_table_of ?k__law_table_of) (Ml.defK_mk ?a__law_due ?l__law_due ?c__law_due ?k__law_due) (Ml.defK_mk ?a__law_finishes ?l__law_finishes ?c__law_finishes ?k__law_finishes) ?z_abs ?z_all ?z_bool ?z_int ?z_isinstance ?z_len ?z_list ?z_range ?z_set ?z_sorted ?z_str ?z_tuple
    (case a => k_is); (case l => k_is); (case c => k_is); (case k => k_is)
    (case a__law_begin => k_is)
    (case l__law_begin => k_is)
    (case c__law_begin => k_is)
    (case k__law_begin => k_is)
    (case a_finished => k_is)
    (case l_finished => k_is)
    (case c_finished => k_is)
    (case k_finished => k_is)
    (case a__law_draw => k_is)
    (case l__law_draw => k_is)
    (case c__law_draw => k_is)
    (case k__law_draw => k_is)
    (case a__law_pick => k_is)
    (case l__law_pick => k_is)
    (case c__law_pick => k_is)
    (case k__law_pick => k_is)
    (case a__law_shuffled => k_is)
    (case l__law_shuffled => k_is)
    (case c__law_shuffled => k_is)
    (case k__law_shuffled => k_is)
    (case a__law_is_int => k_is)
    (case l__law_is_int => k_is)
    (case c__law_is_int => k_is)
    (case k__law_is_int => k_is)
    (case a__law_up => k_is)
    (case l__law_up => k_is)
    (case c__law_up => k_is)
    (case k__law_up => k_is)
    (case a__law_same => k_is)
    (case l__law_same => k_is)
    (case c__law_same => k_is)
    (case k__law_same => k_is)
    (case a__law_table_of => k_is)
    (case l__law_table_of => k_is)
    (case c__law_table_of => k_is)
    (case k__law_table_of => k_is)
    (case a__law_due => k_is)
    (case l__law_due => k_is)
    (case c__law_due => k_is)
    (case k__law_due => k_is)
    (case a__law_finishes => k_is)
    (case l__law_finishes => k_is)
    (case c__law_finishes => k_is)
    (case k__law_finishes => k_is)
    (case z_abs => (unfold Ml.FreeK; k_is))
    (case z_all => (unfold Ml.FreeK; k_is))
    (case z_bool => (unfold Ml.FreeK; k_is))
    (case z_int => (unfold Ml.FreeK; k_is))
    (case z_isinstance => (unfold Ml.FreeK; k_is))
    (case z_len => (unfold Ml.FreeK; k_is))
    (case z_list => (unfold Ml.FreeK; k_is))
    (case z_range => (unfold Ml.FreeK; k_is))
    (case z_set => (unfold Ml.FreeK; k_is))
    (case z_sorted => (unfold Ml.FreeK; k_is))
    (case z_str => (unfold Ml.FreeK; k_is))
    (case z_tuple => (unfold Ml.FreeK; k_is))
