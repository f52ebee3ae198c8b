import PyProof.Rows.All
import HandS.ForMost
import HandS.ForExc
import PyProof.ListStr
import PyProof.StrOps2
import HandS.IsInst
import HandS.Codes
import HandS.TupAny
import HandS.Conv
import KE.GoesMore
import KE.GoesEnum
import HandS.SortRule
import HandS.ExcInit
import HandS.ExcIs
import HandS.ExcField
import HandS.HotCalls
import KE.KExcIs
import HandS.Deep
import PySem.Challenge.RW_edgesaway_k01_schemas_checked
/-! The mirror's own words: data without addresses, the slots of a def, what an expression, a statement, a def comes to. Core Lean alone. -/
namespace Ml
inductive Dv where
  | non | bl (b : Bool) | int (i : Int) | str (s : List Nat) | tup (ds : List Dv) | lst (ds : List Dv) | scr (ns : List Int) | dct (ks vs : List Dv) | exc (c f : List Nat) (d : Dv)
/-- an object that may be changed: a list -/
inductive Ob where
  | lst (ds : List Dv)
inductive Slt where
  | un | fz (d : Dv) | ow (j : Option Nat) (o : Ob)
abbrev Loc := List Slt
abbrev Err := List Nat × List Dv
inductive Rs (α : Type) where
  | ok (a : α) (e : Loc) | er (x : Err) (e : Loc) | ud
abbrev ME (α : Type) := Loc → Rs α
def Rs.bind {α β : Type} (r : Rs α) (f : α → Loc → Rs β) : Rs β := match r with
  | .ok a e => f a e
  | .er x e => .er x e
  | .ud => .ud
def Rs.of {α : Type} (o : Option α) (e : Loc) : Rs α := match o with
  | some a => .ok a e
  | none => .ud
@[simp] theorem Rs.bind_ok {α β : Type} (a : α) (e : Loc) (f : α → Loc → Rs β) : (Rs.ok a e).bind f = f a e := rfl
@[simp] theorem Rs.bind_ud {α β : Type} (f : α → Loc → Rs β) : (Rs.ud : Rs α).bind f = .ud := rfl
@[simp] theorem Rs.bind_er {α β : Type} (x : Err) (e : Loc) (f : α → Loc → Rs β) : (Rs.er x e : Rs α).bind f = .er x e := rfl
@[simp] theorem Rs.of_some {α : Type} (a : α) (e : Loc) : Rs.of (some a) e = .ok a e := rfl
@[simp] theorem Rs.of_none {α : Type} (e : Loc) : Rs.of (none : Option α) e = .ud := rfl

def lim : Nat := 16000000

/-! ### expressions -/
def mVar (i : Nat) : ME Dv := fun e => match e[i]? with
  | some (.fz d) => .ok d e
  | _ => .ud
def mC (d : Dv) : ME Dv := fun e => .ok d e
def mO1 (f : Dv → Option Dv) (ma : ME Dv) : ME Dv := fun e => (ma e).bind fun a e => .of (f a) e
def mO2 (f : Dv → Dv → Option Dv) (ma mb : ME Dv) : ME Dv := fun e => (ma e).bind fun a e => (mb e).bind fun b e => .of (f a b) e
/-- an op whose answer is a new list -/
def mN1 (f : Dv → Option (List Dv)) (ma : ME Dv) : ME Ob := fun e => (ma e).bind fun a e => .of ((f a).map Ob.lst) e
def mN2 (f : Dv → Dv → Option (List Dv)) (ma mb : ME Dv) : ME Ob := fun e => (ma e).bind fun a e => (mb e).bind fun b e => .of ((f a b).map Ob.lst) e
/-- a text's method with an argument -/
def mM1 (f : List Nat → Dv → Option Dv) (ma mb : ME Dv) : ME Dv := fun e => (ma e).bind fun a e => match a with
  | .str s => (mb e).bind fun b e => .of (f s b) e
  | _ => .ud
def mM1N (f : List Nat → Dv → Option (List Dv)) (ma mb : ME Dv) : ME Ob := fun e => (ma e).bind fun a e => match a with
  | .str s => (mb e).bind fun b e => .of ((f s b).map Ob.lst) e
  | _ => .ud
def Ob.toD : Ob → Dv
  | .lst ds => .lst ds
def mFz (m : ME Ob) : ME Dv := fun e => (m e).bind fun o e => .ok o.toD e
def mArgs : List (ME Dv) → ME (List Dv)
  | [] => fun e => .ok [] e
  | m :: ms => fun e => (m e).bind fun d e => (mArgs ms e).bind fun ds e => .ok (d :: ds) e
def mTup (ms : List (ME Dv)) : ME Dv := fun e => (mArgs ms e).bind fun ds e => if ds.length ≤ 1000 then .ok (.tup ds) e else .ud
def mLst (ms : List (ME Dv)) : ME Ob := fun e => (mArgs ms e).bind fun ds e => if ds.length ≤ 1000 then .ok (.lst ds) e else .ud
/-- an owned list as an operand, read when the op is done -/
def mOwn (i : Nat) (f : List Dv → Option Dv) : ME Dv := fun e => match e[i]? with
  | some (.ow _ (.lst ds)) => .of (f ds) e
  | _ => .ud
def mOwn2 (i : Nat) (f : List Dv → Dv → Option Dv) (mb : ME Dv) : ME Dv := fun e => match e[i]? with
  | some (.ow _ _) => (mb e).bind fun b e => mOwn i (fun ds => f ds b) e
  | _ => .ud
def mTest (m : ME Dv) : ME Bool := fun e => (m e).bind fun d e => match d with
  | .bl b => .ok b e
  | _ => .ud
/-- the truth of a value -/
def truthD : Dv → Option Bool
  | .bl b => some b
  | .non => some false
  | .int i => some (i != 0)
  | .str s => if s.length ≤ lim then some (s.length != 0) else none
  | .tup ds => some (!ds.isEmpty)
  | .lst ds => some (!ds.isEmpty)
  | .scr _ => none
  | .dct _ _ => none
  | .exc _ _ _ => none
def mTruth (m : ME Dv) : ME Bool := fun e => (m e).bind fun d e => .of (truthD d) e
def mOwnTruth (i : Nat) : ME Bool := fun e => match e[i]? with
  | some (.ow _ (.lst ds)) => .ok (!ds.isEmpty) e
  | _ => .ud
def mAnd (a b : ME Bool) : ME Bool := fun e => (a e).bind fun x e => if x = true then b e else .ok false e
def mOr (a b : ME Bool) : ME Bool := fun e => (a e).bind fun x e => if x = true then .ok true e else b e
def mNot (a : ME Bool) : ME Bool := fun e => (a e).bind fun x e => .ok (!x) e
def mAndV (a b : ME Dv) : ME Dv := fun e => (mTest a e).bind fun x e => if x = true then b e else .ok (.bl false) e
def mOrV (a b : ME Dv) : ME Dv := fun e => (mTest a e).bind fun x e => if x = true then .ok (.bl true) e else b e
def mNotV (a : ME Dv) : ME Dv := fun e => (mTest a e).bind fun x e => .ok (.bl (!x)) e
def mIte (t : ME Bool) (a b : ME Dv) : ME Dv := fun e => (t e).bind fun x e => if x = true then a e else b e

/-! ### targets -/
abbrev MG := Dv → Loc → Option Loc
def free : Option Slt → Bool
  | some .un => true
  | some (.fz _) => true
  | some (.ow none _) => true
  | _ => false
def gN (i : Nat) : MG := fun d e => if free e[i]? = true then some (e.set i (.fz d)) else none
def gTs : List MG → List Dv → Loc → Option Loc
  | [], [], e => some e
  | g :: gs, d :: ds, e => (g d e).bind fun e => gTs gs ds e
  | _, _, _ => none
def gT (gs : List MG) : MG := fun d e => match d with
  | .tup ds => gTs gs ds e
  | _ => none

/-! ### calls -/
def isOw : Option Slt → Bool
  | some (.ow _ _) => true
  | _ => false
inductive Fres where
  | ok (s : Slt) (outs : List Ob) | er (x : Err) (outs : List Ob) | ud
abbrev Fn := List Slt → Fres
inductive MA where
  | val (m : ME Dv) | own (i : Nat)
inductive AV where
  | val (d : Dv) | own (i : Nat)
def mAs : List MA → ME (List AV)
  | [] => fun e => .ok [] e
  | .val m :: ms => fun e => (m e).bind fun d e => (mAs ms e).bind fun ds e => .ok (.val d :: ds) e
  | .own i :: ms => fun e => if isOw e[i]? = true then (mAs ms e).bind fun ds e => .ok (.own i :: ds) e else .ud
/-- what a callee is handed -/
def resolve : List AV → Loc → Option (List Slt)
  | [], _ => some []
  | .val d :: as, e => (resolve as e).map fun r => .fz d :: r
  | .own i :: as, e => match e[i]? with
    | some (.ow _ o) => (resolve as e).map fun r => .ow none o :: r
    | _ => none
def owns : List AV → List Nat
  | [] => []
  | .val _ :: as => owns as
  | .own i :: as => i :: owns as
def putO : Option Slt → Ob → Slt
  | some (.ow j _), o => .ow j o
  | _, o => .ow none o
def wback : List Nat → List Ob → Loc → Option Loc
  | [], [], e => some e
  | i :: is, o :: os, e => wback is os (e.set i (putO e[i]? o))
  | _, _, _ => none
def mCall (F : Fn) (as : List MA) : ME Slt := fun e => (mAs as e).bind fun vs e =>
  if (owns vs).Nodup then
    match resolve vs e with
    | none => .ud
    | some ss => match F ss with
      | .ok s outs => (Rs.of (wback (owns vs) outs e) e).bind fun e' _ => .ok s e'
      | .er x outs => (Rs.of (wback (owns vs) outs e) e).bind fun e' _ => .er x e'
      | .ud => .ud
  else .ud
def mCallD (F : Fn) (as : List MA) : ME Dv := fun e => (mCall F as e).bind fun s e => match s with
  | .fz d => .ok d e
  | _ => .ud
def mCallO (F : Fn) (as : List MA) : ME Ob := fun e => (mCall F as e).bind fun s e => match s with
  | .ow none o => .ok o e
  | _ => .ud

/-! ### statements -/
inductive Sr where
  | nx (e : Loc) | rt (s : Slt) (e : Loc) | bk (e : Loc) | ct (e : Loc) | er (x : Err) (e : Loc) | ud
abbrev MS := Loc → Sr
def Rs.go {α : Type} (r : Rs α) (f : α → Loc → Sr) : Sr := match r with
  | .ok a e => f a e
  | .er x e => .er x e
  | .ud => .ud
@[simp] theorem Rs.go_ok {α : Type} (a : α) (e : Loc) (f : α → Loc → Sr) : (Rs.ok a e).go f = f a e := rfl
@[simp] theorem Rs.go_ud {α : Type} (f : α → Loc → Sr) : (Rs.ud : Rs α).go f = .ud := rfl
def Sr.then (r : Sr) (f : MS) : Sr := match r with
  | .nx e => f e
  | r => r
@[simp] theorem Sr.then_nx (e : Loc) (f : MS) : (Sr.nx e).then f = f e := rfl
@[simp] theorem Sr.then_rt (s : Slt) (e : Loc) (f : MS) : (Sr.rt s e).then f = .rt s e := rfl
@[simp] theorem Sr.then_bk (e : Loc) (f : MS) : (Sr.bk e).then f = .bk e := rfl
@[simp] theorem Sr.then_ct (e : Loc) (f : MS) : (Sr.ct e).then f = .ct e := rfl
@[simp] theorem Sr.then_er (x : Err) (e : Loc) (f : MS) : (Sr.er x e).then f = .er x e := rfl
@[simp] theorem Sr.then_ud (f : MS) : (Sr.ud).then f = .ud := rfl
def nxO (o : Option Loc) : Sr := match o with
  | some e => .nx e
  | none => .ud
def sNil : MS := fun e => .nx e
def sSeq (a b : MS) : MS := fun e => (a e).then b
def sBrk : MS := fun e => .bk e
def sCnt : MS := fun e => .ct e
def sSet (m : ME Dv) (g : MG) : MS := fun e => (m e).go fun d e => nxO (g d e)
def sSetO (i : Nat) (m : ME Ob) : MS := fun e => (m e).go fun o e => if free e[i]? = true then .nx (e.set i (.ow none o)) else .ud
def sAug (i : Nat) (f : Dv → Dv → Option Dv) (m : ME Dv) : MS := fun e => match e[i]? with
  | some (.fz d) => (m e).go fun b e => match f d b with
    | some c => .nx (e.set i (.fz c))
    | none => .ud
  | _ => .ud
def sApp (i : Nat) (m : ME Dv) : MS := fun e => if isOw e[i]? = true then (m e).go fun d e => match e[i]? with
    | some (.ow j (.lst ds)) => if ds.length < lim then .nx (e.set i (.ow j (.lst (ds ++ [d])))) else .ud
    | _ => .ud
  else .ud
def ixn (n : Nat) (i : Int) : Option Nat := if 0 ≤ i then (if i < n then some i.toNat else none) else if -(n : Int) ≤ i then some (i + n).toNat else none
def getI {α : Type} (ds : List α) (k : Int) : Option α := (ixn ds.length k).bind fun n => ds[n]?
/-- x[k] = e -/
def sPut (i : Nat) (mk m : ME Dv) : MS := fun e => (m e).go fun d e => if isOw e[i]? = true then (mk e).go fun k e => match e[i]?, k with
    | some (.ow j (.lst ds)), .int k => match ixn ds.length k with
      | some n => .nx (e.set i (.ow j (.lst (ds.set n d))))
      | none => .ud
    | _, _ => .ud
  else .ud
/-- x[k] op= e -/
def sPutAug (i : Nat) (mk : ME Dv) (f : Dv → Dv → Option Dv) (m : ME Dv) : MS := fun e => if isOw e[i]? = true then (mk e).go fun k e => match e[i]?, k with
    | some (.ow _ (.lst ds)), .int k => match getI ds k with
      | some a => (m e).go fun b e => match f a b, e[i]? with
        | some c, some (.ow j (.lst ds')) => match ixn ds'.length k with
          | some n => .nx (e.set i (.ow j (.lst (ds'.set n c))))
          | none => .ud
        | _, _ => .ud
      | none => .ud
    | _, _ => .ud
  else .ud
def sDrop (m : ME Dv) : MS := fun e => (m e).go fun _ e => .nx e
def sIf (t : ME Bool) (a b : MS) : MS := fun e => (t e).go fun x e => if x = true then a e else b e
def sRet (m : ME Dv) : MS := fun e => (m e).go fun d e => .rt (.fz d) e
def sRetO (m : ME Ob) : MS := fun e => (m e).go fun o e => .rt (.ow none o) e
/-- return x, x an owned list of this def's own -/
def sRetV (i : Nat) : MS := fun e => match e[i]? with
  | some (.ow none o) => .rt (.ow none o) e
  | _ => .ud
def loop (g : MG) (b : MS) : List Dv → MS
  | [], e => .nx e
  | d :: ds, e => match g d e with
    | none => .ud
    | some e => match b e with
      | .nx e => loop g b ds e
      | .ct e => loop g b ds e
      | .bk e => .nx e
      | r => r
def sFor (mi : ME (List Dv)) (g : MG) (b : MS) : MS := fun e => (mi e).go fun ds e => loop g b ds e

/-! ### what is walked -/
def itD : Dv → Option (List Dv)
  | .lst ds => some ds
  | .tup ds => some ds
  | .str s => some (s.map fun c => .str [c])
  | _ => none
def itL : Dv → Option (List Dv)
  | .lst ds => some ds
  | _ => none
def itT : Dv → Option (List Dv)
  | .tup ds => some ds
  | _ => none
def itS : Dv → Option (List Dv)
  | .str s => some (s.map fun c => .str [c])
  | _ => none
def big : Int := 4000000000000000000
def itR (lo hi : Int) : Option (List Dv) := if -big ≤ lo ∧ lo ≤ big ∧ -big ≤ hi ∧ hi ≤ big then some ((List.range (hi - lo).toNat).map fun (k : Nat) => Dv.int (lo + (k : Int))) else none
def mIt (f : Dv → Option (List Dv)) (m : ME Dv) : ME (List Dv) := fun e => (m e).bind fun d e => .of (f d) e
def mRg1 (m : ME Dv) : ME (List Dv) := fun e => (m e).bind fun d e => match d with
  | .int n => .of (itR 0 n) e
  | _ => .ud
def mRg2 (a b : ME Dv) : ME (List Dv) := fun e => (a e).bind fun x e => (b e).bind fun y e => match x, y with
  | .int x, .int y => .of (itR x y) e
  | _, _ => .ud
/-- an owned list of this def's, walked, and never changed from now on -/
def mItF (i : Nat) : ME (List Dv) := fun e => match e[i]? with
  | some (.ow none (.lst ds)) => .ok ds (e.set i (.fz (.lst ds)))
  | _ => .ud

/-! ### comprehensions -/
def wipeE (e : Loc) : List Nat → Loc
  | [] => e
  | v :: vs => (wipeE e vs).set v .un
/-- the block's own names as they stood ahead -/
def backE (e0 e : Loc) : List Nat → Loc
  | [] => e
  | v :: vs => (backE e0 e vs).set v (e0[v]?.getD .un)
def noOw (e : Loc) (vs : List Nat) : Bool := vs.all fun v => match e[v]? with
  | some .un => true
  | some (.fz _) => true
  | _ => false
def lcGo (g : MG) (t : ME Bool) (m : ME Dv) (vs : List Nat) : List Dv → List Dv → Loc → Option (List Dv × Loc)
  | [], acc, e => some (acc, e)
  | d :: ds, acc, e => match g d e with
    | none => none
    | some e => match t e with
      | .ok true e => match m e with
        | .ok y e => if acc.length < lim then lcGo g t m vs ds (acc ++ [y]) (wipeE e vs) else none
        | _ => none
      | .ok false e => lcGo g t m vs ds acc (wipeE e vs)
      | _ => none
def mLc (mi : ME (List Dv)) (g : MG) (t : ME Bool) (m : ME Dv) (vs : List Nat) : ME Ob := fun e => (mi e).bind fun ds e =>
  if noOw e vs = true then match lcGo g t m vs ds [] (wipeE e vs) with
    | some (acc, e') => .ok (.lst acc) (backE e e' vs)
    | none => .ud
  else .ud
def mYes : ME Bool := fun e => .ok true e

/-! ### defs -/
def initE : Nat → List Slt → Loc
  | _, [] => []
  | k, .ow _ o :: r => .ow (some k) o :: initE (k + 1) r
  | k, s :: r => s :: initE k r
def outsE : Nat → List Slt → Loc → Option (List Ob)
  | _, [], _ => some []
  | k, .ow _ _ :: r, .ow (some k') o :: e => if k = k' then (outsE (k + 1) r e).map fun os => o :: os else none
  | _, .ow _ _ :: _, _ => none
  | k, _ :: r, _ :: e => outsE k r e
  | _, _ :: _, [] => none
def isArg : Slt → Bool
  | .un => false
  | .ow (some _) _ => false
  | _ => true
def mkFn (np nl : Nat) (b : MS) : Fn := fun as =>
  if as.length = np ∧ as.all isArg = true then
    match b (initE 0 as ++ List.replicate nl .un) with
    | .nx e => match outsE 0 as e with
      | some os => .ok (.fz .non) os
      | none => .ud
    | .rt s e => match outsE 0 as e with
      | some os => .ok s os
      | none => .ud
    | .er x e => match outsE 0 as e with
      | some os => .er x os
      | none => .ud
    | _ => .ud
  else .ud

/-! ### the operations on data -/
def oAdd : Dv → Dv → Option Dv
  | .int a, .int b => some (.int (a + b))
  | .str a, .str b => if a.length + b.length ≤ lim then some (.str (a ++ b)) else none
  | _, _ => none
def oAddI : Dv → Dv → Option Dv
  | .int a, .int b => some (.int (a + b))
  | _, _ => none
def oAddS : Dv → Dv → Option Dv
  | .str a, .str b => if a.length + b.length ≤ lim then some (.str (a ++ b)) else none
  | _, _ => none
def oSub : Dv → Dv → Option Dv
  | .int a, .int b => some (.int (a - b))
  | _, _ => none
def oMul : Dv → Dv → Option Dv
  | .int a, .int b => if (a.natAbs < 2 ^ 62 ∨ b.natAbs < 2 ^ 62) then some (.int (a * b)) else none
  | _, _ => none
def oDiv : Dv → Dv → Option Dv
  | .int a, .int b => if b ≠ 0 ∧ b.natAbs < 1073741824 then some (.int (a.fdiv b)) else none
  | _, _ => none
def oMod : Dv → Dv → Option Dv
  | .int a, .int b => if b ≠ 0 then some (.int (a.fmod b)) else none
  | _, _ => none
def oPow : Dv → Dv → Option Dv
  | .int a, .int b => if 0 ≤ b ∧ b ≤ 1000000 ∧ a.natAbs < 2 ^ 62 then some (.int (a ^ b.toNat)) else none
  | _, _ => none
def oShl : Dv → Dv → Option Dv
  | .int a, .int b => if 0 ≤ b ∧ b ≤ 1000000 ∧ a.natAbs < 2 ^ 62 then some (.int (a * 2 ^ b.toNat)) else none
  | _, _ => none
def oNeg : Dv → Option Dv
  | .int a => some (.int (-a))
  | _ => none
def oLt : Dv → Dv → Option Dv
  | .int a, .int b => some (.bl (decide (a < b)))
  | _, _ => none
def oLe : Dv → Dv → Option Dv
  | .int a, .int b => some (.bl (decide (a ≤ b)))
  | _, _ => none
def oGt : Dv → Dv → Option Dv
  | .int a, .int b => some (.bl (decide (b < a)))
  | _, _ => none
def oGe : Dv → Dv → Option Dv
  | .int a, .int b => some (.bl (decide (b ≤ a)))
  | _, _ => none
/-- == of plain things of one kind (and of None) -/
def eqS : Dv → Dv → Option Bool
  | .int a, .int b => some (decide (a = b))
  | .str a, .str b => some (decide (a = b))
  | .bl a, .bl b => some (decide (a = b))
  | .non, .non => some true
  | .non, .int _ => some false
  | .non, .str _ => some false
  | .int _, .non => some false
  | .str _, .non => some false
  | .str _, .int _ => some false
  | .int _, .str _ => some false
  | _, _ => none
def oEq (a b : Dv) : Option Dv := (eqS a b).map .bl
def oNe (a b : Dv) : Option Dv := (eqS a b).map fun x => .bl (!x)
/-- one sign in a text -/
def oInS : Dv → Dv → Option Dv
  | .str [c], .str s => some (.bl (decide (c ∈ s)))
  | _, _ => none
def oNiS : Dv → Dv → Option Dv
  | .str [c], .str s => some (.bl (!decide (c ∈ s)))
  | _, _ => none
def oIx : Dv → Dv → Option Dv
  | .lst ds, .int k => getI ds k
  | .tup ds, .int k => getI ds k
  | .scr ns, .int k => (getI ns k).map .int
  | .str s, .int k => if s.length ≤ lim then (getI s k).map fun c => .str [c] else none
  | _, _ => none
def oIxL : Dv → Dv → Option Dv
  | .lst ds, .int k => getI ds k
  | .scr ns, .int k => (getI ns k).map .int
  | _, _ => none
def oIxT : Dv → Dv → Option Dv
  | .tup ds, .int k => getI ds k
  | _, _ => none
def oIxS : Dv → Dv → Option Dv
  | .str s, .int k => if s.length ≤ lim then (getI s k).map fun c => .str [c] else none
  | _, _ => none
def wIx (ds : List Dv) : Dv → Option Dv
  | .int k => getI ds k
  | _ => none
def oLenS : Dv → Option Dv
  | .str s => if s.length ≤ lim then some (.int s.length) else none
  | _ => none
def oLenQ : Dv → Option Dv
  | .lst ds => some (.int ds.length)
  | .tup ds => some (.int ds.length)
  | .scr ns => some (.int ns.length)
  | _ => none
def oLen : Dv → Option Dv
  | .str s => if s.length ≤ lim then some (.int s.length) else none
  | .lst ds => some (.int ds.length)
  | .tup ds => some (.int ds.length)
  | .scr ns => some (.int ns.length)
  | _ => none
def wLen (ds : List Dv) : Option Dv := some (.int ds.length)
def oAbs : Dv → Option Dv
  | .int a => some (.int (if a < 0 then -a else a))
  | _ => none
def oInt : Dv → Option Dv
  | .int a => some (.int a)
  | .bl b => some (.int (if b then 1 else 0))
  | _ => none
def oTup : Dv → Option Dv
  | .lst ds => some (.tup ds)
  | .tup ds => some (.tup ds)
  | _ => none
def wTup (ds : List Dv) : Option Dv := some (.tup ds)
def oIsT : Dv → Option Dv
  | .tup _ => some (.bl true)
  | .lst _ => some (.bl false)
  | .int _ => some (.bl false)
  | .str _ => some (.bl false)
  | .non => some (.bl false)
  | .bl _ => some (.bl false)
  | _ => none
def oIsS : Dv → Option Dv
  | .str _ => some (.bl true)
  | .int _ => some (.bl false)
  | .non => some (.bl false)
  | .bl _ => some (.bl false)
  | .tup _ => some (.bl false)
  | .lst _ => some (.bl false)
  | _ => none
def boolsOf : List Dv → Option (List Bool)
  | [] => some []
  | .bl b :: r => (boolsOf r).map fun x => b :: x
  | _ :: _ => none
def oAll : Dv → Option Dv
  | .lst ds => (boolsOf ds).map fun bs => .bl (bs.all id)
  | _ => none
def strsOf : List Dv → Option (List (List Nat))
  | [] => some []
  | .str b :: r => (strsOf r).map fun x => b :: x
  | _ :: _ => none
def joinN (sep : List Nat) : List (List Nat) → List Nat
  | [] => []
  | [a] => a
  | a :: b :: r => a ++ (sep ++ joinN sep (b :: r))
def oJoin (s : List Nat) : Dv → Option Dv
  | .lst ds => (strsOf ds).bind fun xs => if (xs.map List.length).sum + xs.length * s.length ≤ lim then some (.str (joinN s xs)) else none
  | _ => none
/-- split at one sign -/
def splitN (c : Nat) : List Nat → List Nat → List (List Nat)
  | acc, [] => [acc]
  | acc, x :: r => if x = c then acc :: splitN c [] r else splitN c (acc ++ [x]) r
def oSplit (s : List Nat) : Dv → Option (List Dv)
  | .str [c] => if c < 128 ∧ s.length + 2 ≤ lim then some ((splitN c [] s).map .str) else none
  | _ => none
def sIx (n : Nat) (dflt : Nat) : Option Int → Nat
  | none => dflt
  | some i => if i < 0 then (i + (n : Int)).toNat else min i.toNat n
def cutN {α : Type} (s : List α) (lo hi : Option Int) : List α := (s.drop (sIx s.length 0 lo)).take (sIx s.length s.length hi - sIx s.length 0 lo)
/-- a slice's ends -/
def partD : Option Dv → Option (Option Int)
  | none => some none
  | some (.int k) => some (some k)
  | _ => none
def slS : Dv → Option Int → Option Int → Option Dv
  | .str s, lo, hi => if s.length ≤ lim then some (.str (cutN s lo hi)) else none
  | _, _, _ => none
def slL : Dv → Option Int → Option Int → Option (List Dv)
  | .lst ds, lo, hi => some (cutN ds lo hi)
  | _, _, _ => none
def mPart : Option (ME Dv) → ME (Option Int)
  | none => fun e => .ok none e
  | some m => fun e => (m e).bind fun d e => match d with
    | .int k => .ok (some k) e
    | _ => .ud
def mSl (f : Dv → Option Int → Option Int → Option Dv) (m : ME Dv) (lo hi : Option (ME Dv)) : ME Dv := fun e => (m e).bind fun d e => (mPart lo e).bind fun a e => (mPart hi e).bind fun b e => .of (f d a b) e
def mSlN (f : Dv → Option Int → Option Int → Option (List Dv)) (m : ME Dv) (lo hi : Option (ME Dv)) : ME Ob := fun e => (m e).bind fun d e => (mPart lo e).bind fun a e => (mPart hi e).bind fun b e => .of ((f d a b).map Ob.lst) e
def listS : Dv → Option (List Dv)
  | .str s => if s.length ≤ lim then some (s.map fun c => .str [c]) else none
  | _ => none
def oRepS : Dv → Dv → Option Dv
  | .str s, .int k => if s.length * k.toNat ≤ lim ∧ k.natAbs < 2 ^ 60 then some (.str (List.replicate k.toNat s).flatten) else none
  | _, _ => none
def oCat : Dv → Dv → Option (List Dv)
  | .lst a, .lst b => if a.length + b.length ≤ lim then some (a ++ b) else none
  | _, _ => none
/-- a number in decimal -/
def oStr : Dv → Option Dv
  | .int i => if i.natAbs < 2 ^ 900 then some (.str ((toString i).toList.map Char.toNat)) else none
  | _ => none
/-- the slots behind the first row of a law -/
def lawE (ns : List Int) (nl : Nat) : Loc := .un :: .ow none (.lst [.scr ns, .int 0, .int 0, .int 7]) :: List.replicate nl .un
end Ml

set_option autoImplicit false
/-! More operations on data. -/
namespace Ml
def flatD : Dv → Bool
  | .non => true
  | .bl _ => true
  | .int _ => true
  | .str _ => true
  | _ => false
/-- == of flat data, as Python has it (True is 1) -/
def eqF : Dv → Dv → Bool
  | .non, .non => true
  | .bl a, .bl b => a == b
  | .bl a, .int b => (if a then 1 else 0) == b
  | .int a, .bl b => a == (if b then 1 else 0)
  | .int a, .int b => a == b
  | .str a, .str b => decide (a = b)
  | _, _ => false
def seqD : Dv → Option (List Dv)
  | .lst ds => some ds
  | .tup ds => some ds
  | _ => none
/-- x in a list or a tuple of flat things -/
def oIn (a b : Dv) : Option Dv := (seqD b).bind fun ds => if flatD a = true ∧ ds.all flatD = true then some (.bl (ds.any fun y => eqF y a)) else none
def oNi (a b : Dv) : Option Dv := (seqD b).bind fun ds => if flatD a = true ∧ ds.all flatD = true then some (.bl (!(ds.any fun y => eqF y a))) else none
/-- x in an owned list -/
def wIn (ds : List Dv) (a : Dv) : Option Dv := if flatD a = true ∧ ds.all flatD = true then some (.bl (ds.any fun y => eqF y a)) else none
def wNi (ds : List Dv) (a : Dv) : Option Dv := if flatD a = true ∧ ds.all flatD = true then some (.bl (!(ds.any fun y => eqF y a))) else none
mutual
/-- == of any data -/
def eqD : Dv → Dv → Bool
  | .tup a, .tup b => eqDs a b
  | .lst a, .lst b => eqDs a b
  | a, b => eqF a b
def eqDs : List Dv → List Dv → Bool
  | [], [] => true
  | a :: r, b :: s => eqD a b && eqDs r s
  | [], _ :: _ => false
  | _ :: _, [] => false
end
mutual
/-- data of tuples, lists and flat things, at most n within one another -/
def lowD : Nat → Dv → Bool
  | _, .non => true
  | _, .bl _ => true
  | _, .int _ => true
  | _, .str s => s.all fun c => decide (c < 1114112)
  | 0, _ => false
  | n + 1, .tup a => lowDs n a
  | n + 1, .lst a => lowDs n a
  | _ + 1, .scr _ => false
  | _ + 1, .dct _ _ => false
  | _ + 1, .exc _ _ _ => false
def lowDs : Nat → List Dv → Bool
  | _, [] => true
  | n, a :: r => lowD n a && lowDs n r
end
def oEqD (a b : Dv) : Option Dv := if lowD 60 a = true ∧ lowD 60 b = true then some (.bl (eqD a b)) else none
def oNeD (a b : Dv) : Option Dv := if lowD 60 a = true ∧ lowD 60 b = true then some (.bl (!eqD a b)) else none
def isNon : Dv → Bool
  | .non => true
  | _ => false
def oIsN (a b : Dv) : Option Dv := match b with
  | .non => some (.bl (isNon a))
  | _ => none
def oNoN (a b : Dv) : Option Dv := match b with
  | .non => some (.bl (!isNon a))
  | _ => none
def intsOf : List Dv → Option (List Int)
  | [] => some []
  | .int b :: r => (intsOf r).map fun x => b :: x
  | _ :: _ => none
def oSum : Dv → Option Dv
  | .lst ds => (intsOf ds).map fun ns => .int ns.sum
  | _ => none
def oAny : Dv → Option Dv
  | .lst ds => (boolsOf ds).map fun bs => .bl (bs.any id)
  | _ => none
/-- a new list of what is there -/
def listD : Dv → Option (List Dv)
  | .lst ds => some ds
  | .tup ds => some ds
  | .scr ns => some (ns.map .int)
  | _ => none
def slT : Dv → Option Int → Option Int → Option Dv
  | .tup ds, lo, hi => some (.tup (cutN ds lo hi))
  | _, _, _ => none
def oCatT : Dv → Dv → Option Dv
  | .tup a, .tup b => if a ≠ [] ∧ a.length + b.length ≤ lim then some (.tup (a ++ b)) else none
  | _, _ => none
/-- a op b op' c -/
def mChain (f g : Dv → Dv → Option Dv) (ma mb mc : ME Dv) : ME Dv := fun e => (ma e).bind fun a e => (mb e).bind fun b e => (Rs.of (f a b) e).bind fun t e => match t with
  | .bl true => (mc e).bind fun c e => .of (g b c) e
  | .bl false => .ok (.bl false) e
  | _ => .ud
def isTyD (n : Nat) : Dv → Option Bool
  | .non => some (n == 0)
  | .bl _ => some (n == 1)
  | .int _ => some (n == 2)
  | .str _ => some (n == 3)
  | .tup _ => some (n == 4)
  | .lst _ => some (n == 5)
  | .scr _ => some (n == 5)
  | .dct _ _ => some (n == 6)
  | .exc _ _ _ => none
def oIsI (d : Dv) : Option Dv := match d with
  | .int _ => some (.bl true)
  | .bl _ => some (.bl true)
  | .scr _ => none
  | .dct _ _ => none
  | .exc _ _ _ => none
  | _ => some (.bl false)
def oIsB (d : Dv) : Option Dv := match d with
  | .bl _ => some (.bl true)
  | .scr _ => none
  | .dct _ _ => none
  | .exc _ _ _ => none
  | _ => some (.bl false)
def oIsL (d : Dv) : Option Dv := match d with
  | .lst _ => some (.bl true)
  | .scr _ => none
  | .dct _ _ => none
  | .exc _ _ _ => none
  | _ => some (.bl false)
end Ml

set_option autoImplicit false
/-! Owned lists given up, popped; ranges as data. -/
namespace Ml
/-- from here on the list in slot i is never changed -/
def sFrz (i : Nat) (m : MS) : MS := fun e => match e[i]? with
  | some (.ow none (.lst ds)) => m (e.set i (.fz (.lst ds)))
  | _ => .ud
/-- x.pop(i), x owned -/
def mPopAt (i : Nat) (mk : ME Dv) : ME Dv := fun e => if isOw e[i]? = true then (mk e).bind fun k e => match e[i]?, k with
    | some (.ow j (.lst ds)), .int k => if 0 ≤ k ∧ k < ds.length ∧ k < 1000000000 then (match ds[k.toNat]? with
      | some y => .ok y (e.set i (.ow j (.lst (ds.eraseIdx k.toNat))))
      | none => .ud) else .ud
    | _, _ => .ud
  else .ud
/-- x.pop(), x owned -/
def mPop (i : Nat) : ME Dv := fun e => match e[i]? with
  | some (.ow j (.lst ds)) => match ds[ds.length - 1]? with
    | some y => .ok y (e.set i (.ow j (.lst ds.dropLast)))
    | none => .ud
  | _ => .ud
def itRs (lo hi : Int) : Option (List Dv) := if -lim ≤ lo ∧ lo ≤ lim ∧ -lim ≤ hi ∧ hi - lo ≤ lim then some ((List.range (hi - lo).toNat).map fun (k : Nat) => Dv.int (lo + (k : Int))) else none
def mRs1 (m : ME Dv) : ME (List Dv) := fun e => (m e).bind fun d e => match d with
  | .int n => .of (itRs 0 n) e
  | _ => .ud
def mRs2 (a b : ME Dv) : ME (List Dv) := fun e => (a e).bind fun x e => (b e).bind fun y e => match x, y with
  | .int x, .int y => .of (itRs x y) e
  | _, _ => .ud
/-- tuple(range(..)), list(range(..)) -/
def mTupR (m : ME (List Dv)) : ME Dv := fun e => (m e).bind fun ds e => .ok (.tup ds) e
def mLstR (m : ME (List Dv)) : ME Ob := fun e => (m e).bind fun ds e => .ok (.lst ds) e
/-- x in an owned list, the list to the right -/
def mInO (neg : Bool) (ma : ME Dv) (i : Nat) : ME Dv := fun e => (ma e).bind fun a e => match e[i]? with
  | some (.ow _ (.lst ds)) => .of (if neg = true then wNi ds a else wIn ds a) e
  | _ => .ud
end Ml

set_option autoImplicit false
/-! Errors raised and caught; enumerate; sorted of tuples of ints; two fors in a comprehension. -/
namespace Ml
def sRaise (c f : List Nat) (m : ME Dv) : MS := fun e => (m e).go fun d e => if lowD 60 d = true then .er (c, [.str f, d]) e else .ud
def mIsX (tab : List (List Nat × Bool)) (m : ME Dv) : ME Dv := fun e => (m e).bind fun a e => match a with
  | .exc c _ _ => .of ((tab.lookup c).map .bl) e
  | _ => .ud
def mFld (f : List Nat) (m : ME Dv) : ME Dv := fun e => (m e).bind fun a e => match a with
  | .exc _ g d => if g = f then .ok d e else .ud
  | _ => .ud
def nxS : Slt → Bool
  | .fz d => lowD 60 d
  | .ow none (.lst ds) => lowDs 60 ds
  | _ => false
/-- try: b except .. as x: return F(x); tab: which classes are caught -/
def sTryF (b : MS) (tab : List (List Nat × Bool)) (i : Nat) (F : Fn) : MS := fun e => match b e with
  | .er x e' => match x.2 with
    | [.str f, d] => match tab.lookup x.1 with
      | some true => if i < e'.length then (match F [.fz (.exc x.1 f d)] with
        | .ok s [] => if nxS s = true then .rt s e' else .ud
        | _ => .ud) else .ud
      | some false => .er x e'
      | none => .ud
    | _ => .ud
  | r => r
def enumD : Nat → List Dv → List Dv
  | _, [] => []
  | k, d :: ds => .tup [.int k, d] :: enumD (k + 1) ds
def mItE (f : Dv → Option (List Dv)) (m : ME Dv) : ME (List Dv) := fun e => (m e).bind fun d e => .of ((f d).map (enumD 0)) e
/-! sorted -/
def intsD : List Dv → Option (List Int)
  | [] => some []
  | .int i :: r => (intsD r).map fun x => i :: x
  | _ :: _ => none
/-- a tuple of ints, at least one -/
def tupI : Dv → Option (List Int)
  | .tup ds => match intsD ds with
    | some (x :: r) => some (x :: r)
    | _ => none
  | _ => none
def ltI : List Int → List Int → Bool
  | [], [] => false
  | [], _ :: _ => true
  | _ :: _, [] => false
  | a :: r, b :: s => if a = b then ltI r s else decide (a < b)
def insD (x : List Int × Dv) : List (List Int × Dv) → List (List Int × Dv)
  | [] => [x]
  | y :: r => if ltI y.1 x.1 = true then y :: insD x r else x :: y :: r
def srtD : List (List Int × Dv) → List (List Int × Dv)
  | [] => []
  | x :: r => insD x (srtD r)
def tupsI : List Dv → Option (List (List Int × Dv))
  | [] => some []
  | d :: ds => match tupI d, tupsI ds with
    | some k, some r => some ((k, d) :: r)
    | _, _ => none
def oSortT : Dv → Option (List Dv)
  | .lst ds => (tupsI ds).map fun ps => (srtD ps).map (·.2)
  | _ => none
def wSortT (ds : List Dv) : Option (List Dv) := (tupsI ds).map fun ps => (srtD ps).map (·.2)
def mOwnN (i : Nat) (f : List Dv → Option (List Dv)) : ME Ob := fun e => match e[i]? with
  | some (.ow _ (.lst ds)) => .of ((f ds).map Ob.lst) e
  | _ => .ud
end Ml
namespace Ml
def lcGo2 (g : MG) (t : ME Bool) (mi1 : ME (List Dv)) (g1 : MG) (t1 : ME Bool) (m : ME Dv) (vs vs1 : List Nat) : List Dv → List Dv → Loc → Option (List Dv × Loc)
  | [], acc, e => some (acc, e)
  | d :: ds, acc, e => match g d e with
    | none => none
    | some e => match t e with
      | .ok true e => match mi1 e with
        | .ok ds1 e => match lcGo g1 t1 m vs1 ds1 acc (wipeE e vs1) with
          | some (acc, e) => lcGo2 g t mi1 g1 t1 m vs vs1 ds acc (wipeE e vs)
          | none => none
        | _ => none
      | .ok false e => lcGo2 g t mi1 g1 t1 m vs vs1 ds acc (wipeE e vs)
      | _ => none
/-- [m for g in mi if t for g1 in mi1 if t1] -/
def mLc2 (mi : ME (List Dv)) (g : MG) (t : ME Bool) (mi1 : ME (List Dv)) (g1 : MG) (t1 : ME Bool) (m : ME Dv) (vs vs1 : List Nat) : ME Ob := fun e => (mi e).bind fun ds e =>
  if noOw e vs = true then match lcGo2 g t mi1 g1 t1 m vs vs1 ds [] (wipeE e vs) with
    | some (acc, e') => .ok (.lst acc) (backE e e' vs)
    | none => .ud
  else .ud
end Ml
namespace Ml
/-- for g in x: b, x an owned list in slot i, read turn by turn -/
def loopO (i : Nat) (g : MG) (b : MS) : Nat → Nat → MS
  | 0, _, _ => .ud
  | n + 1, k, e => match e[i]? with
    | some (.ow _ (.lst ds)) => match ds[k]? with
      | none => .nx e
      | some d => match g d e with
        | none => .ud
        | some e => match b e with
          | .nx e => loopO i g b n (k + 1) e
          | .ct e => loopO i g b n (k + 1) e
          | .bk e => .nx e
          | r => r
    | _ => .ud
def sForO (i : Nat) (g : MG) (b : MS) : MS := fun e => loopO i g b lim 0 e
def lcGoO (i : Nat) (g : MG) (t : ME Bool) (m : ME Dv) (vs : List Nat) : Nat → Nat → List Dv → Loc → Option (List Dv × Loc)
  | 0, _, _, _ => none
  | n + 1, k, acc, e => match e[i]? with
    | some (.ow _ (.lst ds)) => match ds[k]? with
      | none => some (acc, e)
      | some d => match g d e with
        | none => none
        | some e => match t e with
          | .ok true e => match m e with
            | .ok y e => if acc.length < lim then lcGoO i g t m vs n (k + 1) (acc ++ [y]) (wipeE e vs) else none
            | _ => none
          | .ok false e => lcGoO i g t m vs n (k + 1) acc (wipeE e vs)
          | _ => none
    | _ => none
/-- [m for g in x if t], x an owned list in slot i -/
def mLcO (i : Nat) (g : MG) (t : ME Bool) (m : ME Dv) (vs : List Nat) : ME Ob := fun e => if isOw e[i]? = true ∧ noOw e vs = true then
    match lcGoO i g t m vs lim 0 [] (wipeE e vs) with
    | some (acc, e') => .ok (.lst acc) (backE e e' vs)
    | none => .ud
  else .ud
/-- while t: b -/
def loopW (t : ME Bool) (b : MS) : Nat → MS
  | 0, _ => .ud
  | n + 1, e => (t e).go fun x e => if x = true then (match b e with
      | .nx e => loopW t b n e
      | .ct e => loopW t b n e
      | .bk e => .nx e
      | r => r) else .nx e
def sWhile (t : ME Bool) (b : MS) : MS := fun e => loopW t b lim e
end Ml
namespace Ml
/-- x in a list of data -/
def oInD (a b : Dv) : Option Dv := match b with
  | .lst ds => if lowD 60 a = true ∧ lowD 60 (.lst ds) = true then some (.bl (ds.any fun y => eqD y a)) else none
  | _ => none
def oNiD (a b : Dv) : Option Dv := match b with
  | .lst ds => if lowD 60 a = true ∧ lowD 60 (.lst ds) = true then some (.bl (!(ds.any fun y => eqD y a))) else none
  | _ => none
end Ml

set_option linter.all false
set_option maxRecDepth 10000
/-! The draws, as every law makes them. -/
namespace Ml
def drawM : MS :=
  (sSeq (sIf (mTest (mO2 oGt (mOwn2 0 wIx (mC (.int 2))) (mC (.int 0))))
  (sSeq (sSet (mOwn2 0 wIx (mC (.int 2))) (gN 2))
  (sSeq (sPut 0 (mC (.int 2)) (mO2 oDiv (mVar 2) (mVar 1)))
  (sRet (mO2 oMod (mO1 oInt (mVar 2)) (mVar 1)))))
  sNil)
  (sSeq (sSet (mC (.int 0)) (gN 3))
  (sSeq (sIf (mTest (mO2 oLt (mOwn2 0 wIx (mC (.int 1))) (mO1 oLen (mOwn2 0 wIx (mC (.int 0))))))
  (sSeq (sSet (mO2 oIx (mOwn2 0 wIx (mC (.int 0))) (mOwn2 0 wIx (mC (.int 1)))) (gN 4))
  (sSet (mO2 oAdd (mO2 oMul (mC (.int 2)) (mO1 oAbs (mVar 4))) (mO1 oInt (mO2 oLt (mVar 4) (mC (.int 0))))) (gN 3)))
  sNil)
  (sSeq (sPutAug 0 (mC (.int 1)) oAddI (mC (.int 1)))
  (sSeq (sIf (mTest (mO2 oGe (mVar 3) (mO2 oMul (mC (.int 2)) (mO2 oPow (mC (.int 10)) (mC (.int 18))))))
  (sSeq (sSet (mO2 oMod (mO1 oInt (mO2 oDiv (mVar 3) (mC (.int 2)))) (mO2 oShl (mC (.int 1)) (mC (.int 6000)))) (gN 2))
  (sSeq (sPut 0 (mC (.int 2)) (mO2 oDiv (mVar 2) (mVar 1)))
  (sRet (mO2 oMod (mO1 oInt (mVar 2)) (mVar 1)))))
  sNil)
  (sSeq (sPut 0 (mC (.int 3)) (mO2 oMod (mO1 oInt (mO2 oAdd (mO2 oAdd (mO2 oAdd (mO2 oMul (mOwn2 0 wIx (mC (.int 3))) (mC (.int 48271))) (mO2 oMul (mO2 oMod (mO1 oInt (mVar 3)) (mC (.int 2147483629))) (mC (.int 16807)))) (mO2 oMul (mOwn2 0 wIx (mC (.int 1))) (mC (.int 69621)))) (mC (.int 11)))) (mC (.int 2147483647))))
  (sRet (mO2 oMod (mO1 oInt (mO2 oDiv (mOwn2 0 wIx (mC (.int 3))) (mC (.int 16)))) (mVar 1)))))))))
def drawF : Fn := mkFn 2 3 drawM
/-- the state of the draws -/
def Dr (ns : List Int) (ds : List Dv) : Prop := ∃ i l s : Int, ds = [.scr ns, .int i, .int l, .int s] ∧ 0 ≤ i ∧ 0 ≤ l ∧ 0 ≤ s
theorem fmod_b (a : Int) {m : Int} (h : 1 ≤ m) : 0 ≤ a.fmod m ∧ a.fmod m < m := ⟨Int.fmod_nonneg_of_pos a (by omega), Int.fmod_lt_of_pos a (by omega)⟩
theorem fdiv_n {a m : Int} (ha : 0 ≤ a) (h : 1 ≤ m) : 0 ≤ a.fdiv m := Int.fdiv_nonneg ha (by omega)
def drawR : MS :=
  (sSeq (sPutAug 0 (mC (.int 1)) oAddI (mC (.int 1)))
  (sSeq (sIf (mTest (mO2 oGe (mVar 3) (mO2 oMul (mC (.int 2)) (mO2 oPow (mC (.int 10)) (mC (.int 18))))))
  (sSeq (sSet (mO2 oMod (mO1 oInt (mO2 oDiv (mVar 3) (mC (.int 2)))) (mO2 oShl (mC (.int 1)) (mC (.int 6000)))) (gN 2))
  (sSeq (sPut 0 (mC (.int 2)) (mO2 oDiv (mVar 2) (mVar 1)))
  (sRet (mO2 oMod (mO1 oInt (mVar 2)) (mVar 1)))))
  sNil)
  (sSeq (sPut 0 (mC (.int 3)) (mO2 oMod (mO1 oInt (mO2 oAdd (mO2 oAdd (mO2 oAdd (mO2 oMul (mOwn2 0 wIx (mC (.int 3))) (mC (.int 48271))) (mO2 oMul (mO2 oMod (mO1 oInt (mVar 3)) (mC (.int 2147483629))) (mC (.int 16807)))) (mO2 oMul (mOwn2 0 wIx (mC (.int 1))) (mC (.int 69621)))) (mC (.int 11)))) (mC (.int 2147483647))))
  (sRet (mO2 oMod (mO1 oInt (mO2 oDiv (mOwn2 0 wIx (mC (.int 3))) (mC (.int 16)))) (mVar 1))))))
theorem drawR_ok {ns : List Int} {i l s z m : Int} {x : Slt} (h1 : 1 ≤ m) (h2 : m < 1073741824) (hi : 0 ≤ i) (hl : 0 ≤ l) (hs : 0 ≤ s) (hz : 0 ≤ z) :
    ∃ k ds' y w, drawR [.ow (some 0) (.lst [.scr ns, .int i, .int l, .int s]), .fz (.int m), .un, .fz (.int z), x] = .rt (.fz (.int k)) [.ow (some 0) (.lst ds'), .fz (.int m), y, w, x] ∧ 0 ≤ k ∧ k < m ∧ Dr ns ds' := by
  have hm0 : m ≠ 0 := by omega
  have hmb : m.natAbs < 1073741824 := by omega
  generalize hB : (2 : Int) ^ 6000 = B
  have hB1 : 1 ≤ B := by
    rw [← hB]
    have : (0 : Int) < 2 ^ 6000 := Int.pow_pos (by decide)
    omega
  have hB0 : B ≠ 0 := by omega
  by_cases c : (2000000000000000000 : Int) ≤ z
  · refine ⟨((z.fdiv 2).fmod B).fmod m, [.scr ns, .int (i + 1), .int (((z.fdiv 2).fmod B).fdiv m), .int s], .fz (.int ((z.fdiv 2).fmod B)), .fz (.int z), ?_, (fmod_b _ h1).1, (fmod_b _ h1).2, i + 1, _, s, rfl, by omega, fdiv_n (fmod_b _ hB1).1 h1, hs⟩
    simp [drawR, sSeq, sPutAug, isOw, mC, getI, ixn, oAddI, sIf, mTest, mO2, oGe, mVar, oMul, oPow, c, sSet, oMod, oDiv, mO1, oInt, oShl, hB, hB0, nxO, gN, free, sPut, sRet, hm0, hmb, sNil]
  · refine ⟨((((s * 48271 + z.fmod 2147483629 * 16807 + (i + 1) * 69621 + 11).fmod 2147483647).fdiv 16)).fmod m, [.scr ns, .int (i + 1), .int l, .int ((s * 48271 + z.fmod 2147483629 * 16807 + (i + 1) * 69621 + 11).fmod 2147483647)], .un, .fz (.int z), ?_, (fmod_b _ h1).1, (fmod_b _ h1).2, i + 1, l, _, rfl, by omega, hl, (fmod_b _ (by decide)).1⟩
    simp [drawR, sSeq, sPutAug, isOw, mC, getI, ixn, oAddI, sIf, mTest, mO2, oGe, mVar, oMul, oPow, c, sSet, oMod, oDiv, mO1, oInt, oShl, oAdd, mOwn2, mOwn, wIx, nxO, gN, free, sPut, sRet, hm0, hmb, sNil]
theorem draw_ok {ns : List Int} {ds : List Dv} {m : Int} (hd : Dr ns ds) (h1 : 1 ≤ m) (h2 : m < 1073741824) :
    ∃ k ds', drawF [.ow none (.lst ds), .fz (.int m)] = .ok (.fz (.int k)) [.lst ds'] ∧ 0 ≤ k ∧ k < m ∧ Dr ns ds' := by
  obtain ⟨i, l, s, rfl, hi, hl, hs⟩ := hd
  have hm0 : m ≠ 0 := by omega
  have hmb : m.natAbs < 1073741824 := by omega
  by_cases c1 : 0 < l
  · refine ⟨l.fmod m, [.scr ns, .int i, .int (l.fdiv m), .int s], ?_, (fmod_b l h1).1, (fmod_b l h1).2, i, l.fdiv m, s, rfl, hi, fdiv_n hl h1, hs⟩
    simp [drawF, drawM, mkFn, initE, outsE, isArg, sSeq, sIf, mTest, mO2, mOwn2, mOwn, wIx, getI, ixn, mC, oGt, c1, sSet, nxO, gN, free, sPut, isOw, oDiv, oMod, oInt, mO1, mVar, sRet, hm0, hmb]
  · have key : ∃ z x, 0 ≤ z ∧ drawM (initE 0 [.ow none (.lst [.scr ns, .int i, .int l, .int s]), .fz (.int m)] ++ List.replicate 3 .un) = drawR [.ow (some 0) (.lst [.scr ns, .int i, .int l, .int s]), .fz (.int m), .un, .fz (.int z), x] := by
      by_cases c2 : i < ns.length
      · obtain ⟨j, rfl⟩ := Int.eq_ofNat_of_zero_le hi
        have hj : j < ns.length := by omega
        refine ⟨2 * (if ns[j] < 0 then -ns[j] else ns[j]) + (if ns[j] < 0 then 1 else 0), .fz (.int ns[j]), by split <;> omega, ?_⟩
        have hg : getI ns (j : Int) = some ns[j] := by simp [getI, ixn, hj]
        by_cases c3 : ns[j] < 0
        · simp [drawM, initE, sSeq, sIf, mTest, mO2, mOwn2, mOwn, wIx, mC, oGt, c1, sSet, nxO, gN, free, oLt, mO1, oLen, hj, oIx, hg, oAdd, oMul, oAbs, mVar, oInt, c3, sNil, show getI [Dv.scr ns, .int (j : Int), .int l, .int s] 0 = some (.scr ns) from rfl, show getI [Dv.scr ns, .int (j : Int), .int l, .int s] 1 = some (.int j) from rfl, show getI [Dv.scr ns, .int (j : Int), .int l, .int s] 2 = some (.int l) from rfl]
          rfl
        · simp [drawM, initE, sSeq, sIf, mTest, mO2, mOwn2, mOwn, wIx, mC, oGt, c1, sSet, nxO, gN, free, oLt, mO1, oLen, hj, oIx, hg, oAdd, oMul, oAbs, mVar, oInt, c3, sNil, show getI [Dv.scr ns, .int (j : Int), .int l, .int s] 0 = some (.scr ns) from rfl, show getI [Dv.scr ns, .int (j : Int), .int l, .int s] 1 = some (.int j) from rfl, show getI [Dv.scr ns, .int (j : Int), .int l, .int s] 2 = some (.int l) from rfl]
          rfl
      · refine ⟨0, .un, by omega, ?_⟩
        simp [drawM, initE, sSeq, sIf, mTest, mO2, mOwn2, mOwn, wIx, mC, oGt, c1, sSet, nxO, gN, free, oLt, mO1, oLen, c2, sNil, show getI [Dv.scr ns, .int i, .int l, .int s] 0 = some (.scr ns) from rfl, show getI [Dv.scr ns, .int i, .int l, .int s] 1 = some (.int i) from rfl, show getI [Dv.scr ns, .int i, .int l, .int s] 2 = some (.int l) from rfl]
        rfl
    obtain ⟨z, x, hz, e⟩ := key
    obtain ⟨k, ds', y, w, hr, b1, b2, b3⟩ := drawR_ok (ns := ns) (x := x) h1 h2 hi hl hs hz
    refine ⟨k, ds', ?_, b1, b2, b3⟩
    have e2 : drawM (initE 0 [.ow none (.lst [.scr ns, .int i, .int l, .int s]), .fz (.int m)] ++ List.replicate 3 .un) = _ := e.trans hr
    unfold drawF mkFn
    simp only [e2]
    simp [isArg, outsE]
/-- a draw, as it is written in a law: d in slot i -/
theorem call_draw {e e1 : Loc} {i : Nat} {j : Option Nat} {ns : List Int} {ds0 ds : List Dv} {ma : ME Dv} {m : Int} (he : e[i]? = some (.ow j (.lst ds0))) (hd : Dr ns ds) (hm : ma e = .ok (.int m) e1) (he1 : e1[i]? = some (.ow j (.lst ds))) (h1 : 1 ≤ m) (h2 : m < 1073741824) :
    ∃ k ds', mCallD drawF [.own i, .val ma] e = .ok (.int k) (e1.set i (.ow j (.lst ds'))) ∧ 0 ≤ k ∧ k < m ∧ Dr ns ds' := by
  obtain ⟨k, ds', h, b1, b2, b3⟩ := draw_ok hd h1 h2
  refine ⟨k, ds', ?_, b1, b2, b3⟩
  simp [mCallD, mCall, mAs, he, isOw, hm, owns, resolve, he1, h, wback, putO]
end Ml

set_option linter.all false
set_option maxRecDepth 10000
/-! More of what every law draws; loops by what stays true. -/
namespace Ml
def pickM : MS :=
  (sRet (mO2 oIx (mVar 1) (mCallD drawF [.own 0, .val (mO1 oLen (mVar 1))])))
def pickF : Fn := mkFn 2 0 pickM
def rareM : MS :=
  (sRet (mO2 oEq (mCallD drawF [.own 0, .val (mVar 1)]) (mO2 oDiv (mVar 1) (mC (.int 2)))))
def rareF : Fn := mkFn 2 0 rareM
theorem getI_nat {α : Type} {ds : List α} {k : Int} (h : 0 ≤ k) (h2 : k < ds.length) : ∃ x, getI ds k = some x ∧ x ∈ ds := by
  obtain ⟨j, rfl⟩ := Int.eq_ofNat_of_zero_le h
  have hj : j < ds.length := by omega
  exact ⟨ds[j], by simp [getI, ixn, hj], List.getElem_mem hj⟩
theorem getI_of {α : Type} {ds : List α} {j : Nat} (hj : j < ds.length) : getI ds (j : Int) = some ds[j] := by simp [getI, ixn, hj]
theorem pick_ok {ns : List Int} {ds xs : List Dv} (hd : Dr ns ds) (h1 : xs ≠ []) (h2 : xs.length < 1073741824) :
    ∃ x ds', pickF [.ow none (.lst ds), .fz (.lst xs)] = .ok (.fz x) [.lst ds'] ∧ x ∈ xs ∧ Dr ns ds' := by
  have h1 : 1 ≤ (xs.length : Int) := by
    cases xs with
    | nil => exact absurd rfl h1
    | cons => simp; omega
  obtain ⟨k, ds', h, b1, b2, b3⟩ := call_draw (e := [.ow (some 0) (.lst ds), .fz (.lst xs)]) (e1 := [.ow (some 0) (.lst ds), .fz (.lst xs)]) (i := 0) (j := some 0) (ma := mO1 oLen (mVar 1)) (m := xs.length) (by rfl) hd (by rfl) (by rfl) h1 (by omega)
  obtain ⟨x, hx, hm⟩ := getI_nat b1 b2
  refine ⟨x, ds', ?_, hm, b3⟩
  simp [pickF, mkFn, initE, isArg, pickM, sRet, mO2, mVar, h, oIx, hx, outsE]
theorem rare_ok {ns : List Int} {ds : List Dv} {m : Int} (hd : Dr ns ds) (h1 : 1 ≤ m) (h2 : m < 1073741824) :
    ∃ b ds', rareF [.ow none (.lst ds), .fz (.int m)] = .ok (.fz (.bl b)) [.lst ds'] ∧ Dr ns ds' := by
  obtain ⟨k, ds', h, b1, b2, b3⟩ := call_draw (e := [.ow (some 0) (.lst ds), .fz (.int m)]) (e1 := [.ow (some 0) (.lst ds), .fz (.int m)]) (i := 0) (j := some 0) (ma := mVar 1) (m := m) (by rfl) hd (by rfl) (by rfl) h1 h2
  refine ⟨decide (k = m.fdiv 2), ds', ?_, b3⟩
  simp [rareF, mkFn, initE, isArg, rareM, sRet, mO2, mVar, h, oDiv, mC, oEq, eqS, outsE]
/-! calls, once the def's answer is known -/
section
variable {e e1 : Loc} {i : Nat} {j : Option Nat} {ds ds' : List Dv} {ma mb : ME Dv} {F : Fn} {a b v : Dv} {o : Ob}
theorem call_1 (he : e[i]? = some (.ow j (.lst ds))) (h : F [.ow none (.lst ds)] = .ok (.fz v) [.lst ds']) : mCallD F [.own i] e = .ok v (e.set i (.ow j (.lst ds'))) := by
  simp [mCallD, mCall, mAs, he, isOw, owns, resolve, h, wback, putO]
theorem call_2 (he : e[i]? = some (.ow j (.lst ds))) (hm : ma e = .ok a e1) (he1 : e1[i]? = some (.ow j (.lst ds'))) {ds2 : List Dv} (h : F [.ow none (.lst ds'), .fz a] = .ok (.fz v) [.lst ds2]) : mCallD F [.own i, .val ma] e = .ok v (e1.set i (.ow j (.lst ds2))) := by
  simp [mCallD, mCall, mAs, he, isOw, hm, owns, resolve, he1, h, wback, putO]
theorem call_v0 (h : F [] = .ok (.fz v) []) : mCallD F [] e = .ok v e := by
  simp [mCallD, mCall, mAs, owns, resolve, h, wback]
theorem call_v1 (hm : ma e = .ok a e1) (h : F [.fz a] = .ok (.fz v) []) : mCallD F [.val ma] e = .ok v e1 := by
  simp [mCallD, mCall, mAs, hm, owns, resolve, h, wback]
theorem call_v2 {e2 : Loc} (hm : ma e = .ok a e1) (hb : mb e1 = .ok b e2) (h : F [.fz a, .fz b] = .ok (.fz v) []) : mCallD F [.val ma, .val mb] e = .ok v e2 := by
  simp [mCallD, mCall, mAs, hm, hb, owns, resolve, h, wback]
theorem call_o0 (h : F [] = .ok (.ow none o) []) : mCallO F [] e = .ok o e := by
  simp [mCallO, mCall, mAs, owns, resolve, h, wback]
theorem call_o1 (hm : ma e = .ok a e1) (h : F [.fz a] = .ok (.ow none o) []) : mCallO F [.val ma] e = .ok o e1 := by
  simp [mCallO, mCall, mAs, hm, owns, resolve, h, wback]
end
theorem fn_ok {np nl : Nat} {b : MS} {as : List Slt} {s : Slt} {e : Loc} {os : List Ob} (h1 : as.length = np) (h2 : as.all isArg = true) (h : b (initE 0 as ++ List.replicate nl .un) = .rt s e) (h3 : outsE 0 as e = some os) : mkFn np nl b as = .ok s os := by
  unfold mkFn
  rw [if_pos ⟨h1, h2⟩, h]
  simp only [h3]
/-! statement by statement -/
section
variable {a b : MS} {e e1 e2 : Loc} {v : Slt} {m : ME Dv} {mo : ME Ob} {d : Dv} {o : Ob} {g : MG} {t : ME Bool} {ds : List Dv} {mi : ME (List Dv)} {i : Nat}
theorem seq_nx (h : a e = .nx e1) : sSeq a b e = b e1 := by unfold sSeq; rw [h]; rfl
theorem seq_rt (h : a e = .rt v e1) : sSeq a b e = .rt v e1 := by unfold sSeq; rw [h]; rfl
theorem set_ok (h : m e = .ok d e1) (hg : g d e1 = some e2) : sSet m g e = .nx e2 := by unfold sSet; rw [h]; simp [hg, nxO]
theorem setO_ok (h : mo e = .ok o e1) (hg : free e1[i]? = true) : sSetO i mo e = .nx (e1.set i (.ow none o)) := by unfold sSetO; rw [h]; simp [hg]
theorem if_t (h : t e = .ok true e1) : sIf t a b e = a e1 := by unfold sIf; rw [h]; rfl
theorem if_f (h : t e = .ok false e1) : sIf t a b e = b e1 := by unfold sIf; rw [h]; rfl
theorem for_ok (h : mi e = .ok ds e1) : sFor mi g b e = loop g b ds e1 := by unfold sFor; rw [h]; rfl
theorem ret_ok (h : m e = .ok d e1) : sRet m e = .rt (.fz d) e1 := by unfold sRet; rw [h]; rfl
theorem rg1_ok {n : Int} {L : List Dv} (h : m e = .ok (.int n) e1) (hL : itR 0 n = some L) : mRg1 m e = .ok L e1 := by unfold mRg1; rw [h]; simp [hL]
theorem not_ok {x : Bool} (h : t e = .ok x e1) : mNot t e = .ok (!x) e1 := by unfold mNot; rw [h]; rfl
theorem and_t {s : ME Bool} (h : t e = .ok true e1) : mAnd t s e = s e1 := by unfold mAnd; rw [h]; rfl
theorem and_f {s : ME Bool} (h : t e = .ok false e1) : mAnd t s e = .ok false e1 := by unfold mAnd; rw [h]; rfl
theorem truth_b {x : Bool} (h : m e = .ok (.bl x) e1) : mTruth m e = .ok x e1 := by unfold mTruth; rw [h]; rfl
theorem test_b {x : Bool} (h : m e = .ok (.bl x) e1) : mTest m e = .ok x e1 := by unfold mTest; rw [h]; rfl
theorem fz_ok (h : mo e = .ok o e1) : mFz mo e = .ok o.toD e1 := by unfold mFz; rw [h]; rfl
end
/-! loops -/
theorem loop_inv {g : MG} {b : MS} {ds : List Dv} {e : Loc} (I : Nat → Loc → Prop) (h0 : I 0 e)
    (step : ∀ k d e, ds[k]? = some d → I k e → ∃ e1 e2, g d e = some e1 ∧ (b e1 = .nx e2 ∨ b e1 = .ct e2) ∧ I (k + 1) e2) : ∃ e', loop g b ds e = .nx e' ∧ I ds.length e' := by
  induction ds generalizing e I with
  | nil => exact ⟨e, rfl, h0⟩
  | cons d ds ih =>
    obtain ⟨e1, e2, hg, hb, hi⟩ := step 0 d e rfl h0
    obtain ⟨e', h, hI⟩ := ih (e := e2) (fun k => I (k + 1)) hi fun k d e hd hI => step (k + 1) d e hd hI
    refine ⟨e', ?_, hI⟩
    rcases hb with hb | hb <;> simp [loop, hg, hb, h]
theorem lc_inv {g : MG} {t : ME Bool} {m : ME Dv} {vs : List Nat} {ds acc : List Dv} {e : Loc} (I : Nat → List Dv → Loc → Prop) (h0 : I 0 acc e)
    (step : ∀ k d acc e, ds[k]? = some d → I k acc e → ∃ e1 e2, g d e = some e1 ∧ ((∃ y e3, t e1 = .ok true e2 ∧ m e2 = .ok y e3 ∧ acc.length < lim ∧ I (k + 1) (acc ++ [y]) (wipeE e3 vs)) ∨ (t e1 = .ok false e2 ∧ I (k + 1) acc (wipeE e2 vs)))) :
    ∃ acc' e', lcGo g t m vs ds acc e = some (acc', e') ∧ I ds.length acc' e' := by
  induction ds generalizing e acc I with
  | nil => exact ⟨acc, e, rfl, h0⟩
  | cons d ds ih =>
    obtain ⟨e1, e2, hg, h⟩ := step 0 d acc e rfl h0
    rcases h with ⟨y, e3, ht, hm, hl, hi⟩ | ⟨ht, hi⟩
    · obtain ⟨acc', e', h, hI⟩ := ih (e := wipeE e3 vs) (acc := acc ++ [y]) (fun k => I (k + 1)) hi fun k d acc e hd hI => step (k + 1) d acc e hd hI
      exact ⟨acc', e', by simp [lcGo, hg, ht, hm, hl, h], hI⟩
    · obtain ⟨acc', e', h, hI⟩ := ih (e := wipeE e2 vs) (acc := acc) (fun k => I (k + 1)) hi fun k d acc e hd hI => step (k + 1) d acc e hd hI
      exact ⟨acc', e', by simp [lcGo, hg, ht, h], hI⟩
end Ml

set_option linter.all false
set_option maxRecDepth 100000
set_option maxHeartbeats 1000000
/-! A def's reading against its mirror: what stands in the slots and in the heap, and one rule for each construct. -/
namespace Ml
open L2
open PySem (Addr Str sizeLine)

abbrev sOf (s : List Nat) : Str := ⟨s.toArray⟩

/-- what stands still through a call: the script's place; the exception that is handled, its class, its dict -/
structure Sc where
  a : Addr
  x : Option (Addr × Addr × Addr) := none
/-- a dict's key -/
def keyK : Dv → Option L2.Key
  | .int i => some (Sum.inl i)
  | .str s => some (Sum.inr (sOf s))
  | _ => none
def keysK : List Dv → Option (List L2.Key)
  | [] => some []
  | d :: ds => match keyK d, keysK ds with
    | some k, some ks => some (k :: ks)
    | _, _ => none
def keyT : Dv → Option (List L2.Key)
  | .tup ds => keysK ds
  | _ => none
def keysT : List Dv → Option (List (List L2.Key))
  | [] => some []
  | d :: ds => match keyT d, keysT ds with
    | some k, some ks => some (k :: ks)
    | _, _ => none
/-- a dict that is never changed any more -/
def DctAt (Hs : Hp) (a : Addr) (ks : List Dv) (xs : List V) : Prop :=
  (∃ o kvs, Hs a = some (.frz o (.dK kvs)) ∧ keysK ks = some (kvs.map (·.1)) ∧ xs = kvs.map (·.2)) ∨ ∃ o kvs, Hs a = some (.frz o (.dT kvs)) ∧ keysT ks = some (kvs.map (·.1)) ∧ xs = kvs.map (·.2)
section
variable (K : PySem.W.Frag) (sc : Sc)
mutual
def Rep (Hs : Hp) : Dv → V → Prop
  | .non, v => v = .non
  | .bl b, v => v = .bl b
  | .int i, v => v = .int i
  | .str s, v => v = .str (sOf s)
  | .tup ds, v => ∃ a xs, v = .ref a ∧ SqT K Hs a xs ∧ Reps Hs ds xs
  | .lst ds, v => ∃ a xs, v = .ref a ∧ Hs a = some (.lst xs) ∧ Reps Hs ds xs
  | .scr ns, v => v = .ref sc.a ∧ Hs sc.a = some (.lst (ns.map V.int))
  | .dct ks ds, v => ∃ a xs, v = .ref a ∧ DctAt Hs a ks xs ∧ Reps Hs ds xs
  | .exc c f d, v => ∃ a C dd w, sc.x = some (a, C, dd) ∧ v = .ref a ∧ PySem.W.nsIn K PySem.mainGlobals (sOf c) = some (some (.ref C)) ∧ Hs dd = some (.xd [(sOf f, w)]) ∧ Rep Hs d w
def Reps (Hs : Hp) : List Dv → List V → Prop
  | [], vs => vs = []
  | d :: ds, vs => ∃ v r, vs = v :: r ∧ Rep Hs d v ∧ Reps Hs ds r
end
end

/-- what was tracked is tracked as it was -/
abbrev Le (H H' : Hp) : Prop := ∀ a o, H a = some o → H' a = some o
theorem Le.rfl' {H : Hp} : Le H H := fun _ _ h => h
theorem Le.trans {H H1 H2 : Hp} (a : Le H H1) (b : Le H1 H2) : Le H H2 := fun x o h => b x o (a x o h)
theorem le_none {H H' : Hp} (h : Le H H') {a : Addr} (e : H' a = none) : H a = none := by
  cases q : H a with
  | none => rfl
  | some o => rw [h a o q] at e; cases e
theorem Le.new {H : Hp} {p : Addr} {o : HO} (h : H p = none) : Le H (upd H p o) := fun a u e => by
  rw [upd_ne (ne_of_none e h)]; exact e
theorem dctAt_le {H H' : Hp} {a : Addr} {ks : List Dv} {xs : List V} (e : Le H H') (h : DctAt H a ks xs) : DctAt H' a ks xs := by
  rcases h with ⟨o, kvs, h1, h2⟩ | ⟨o, kvs, h1, h2⟩
  · exact .inl ⟨o, kvs, e _ _ h1, h2⟩
  · exact .inr ⟨o, kvs, e _ _ h1, h2⟩
theorem sqt_le {K : PySem.W.Frag} {H H' : Hp} {a : Addr} {xs : List V} (e : Le H H') (h : SqT K H a xs) : SqT K H' a xs := by
  rcases h with (h | ⟨o, h⟩) | h
  · exact .inl (.inl (e _ _ h))
  · exact .inl (.inr ⟨o, e _ _ h⟩)
  · exact .inr h

section
variable {K : PySem.W.Frag} {sc : Sc}
mutual
theorem rep_le {H H' : Hp} (h : Le H H') : ∀ {d : Dv} {v : V}, Rep K sc H d v → Rep K sc H' d v
  | .non, _, r => by simpa only [Rep] using r
  | .bl _, _, r => by simpa only [Rep] using r
  | .int _, _, r => by simpa only [Rep] using r
  | .str _, _, r => by simpa only [Rep] using r
  | .tup ds, v, r => by
    simp only [Rep] at r ⊢
    obtain ⟨a, xs, e, q, rs⟩ := r
    exact ⟨a, xs, e, sqt_le h q, reps_le h rs⟩
  | .lst ds, v, r => by
    simp only [Rep] at r ⊢
    obtain ⟨a, xs, e, q, rs⟩ := r
    exact ⟨a, xs, e, h _ _ q, reps_le h rs⟩
  | .scr ns, v, r => by
    simp only [Rep] at r ⊢
    exact ⟨r.1, h _ _ r.2⟩
  | .dct ks ds, v, r => by
    simp only [Rep] at r ⊢
    obtain ⟨a, xs, e, q, rs⟩ := r
    exact ⟨a, xs, e, dctAt_le h q, reps_le h rs⟩
  | .exc c f d, v, r => by
    simp only [Rep] at r ⊢
    obtain ⟨a, C, dd, w, e1, e2, e3, e4, r⟩ := r
    exact ⟨a, C, dd, w, e1, e2, e3, h _ _ e4, rep_le h r⟩
theorem reps_le {H H' : Hp} (h : Le H H') : ∀ {ds : List Dv} {vs : List V}, Reps K sc H ds vs → Reps K sc H' ds vs
  | [], _, r => by simpa only [Reps] using r
  | d :: ds, vs, r => by
    simp only [Reps] at r ⊢
    obtain ⟨v, q, e, r1, r2⟩ := r
    exact ⟨v, q, e, rep_le h r1, reps_le h r2⟩
end
variable {H : Hp}
theorem reps_nil : Reps K sc H [] [] := by simp only [Reps]
theorem reps_cons {d : Dv} {ds : List Dv} {v : V} {vs : List V} (a : Rep K sc H d v) (b : Reps K sc H ds vs) : Reps K sc H (d :: ds) (v :: vs) := by
  simp only [Reps]; exact ⟨v, vs, rfl, a, b⟩
theorem reps_len : ∀ {ds : List Dv} {vs : List V}, Reps K sc H ds vs → vs.length = ds.length
  | [], vs, r => by simp only [Reps] at r; subst r; rfl
  | d :: ds, vs, r => by
    simp only [Reps] at r
    obtain ⟨v, q, rfl, _, r2⟩ := r
    simp [reps_len r2]
theorem reps_get : ∀ {ds : List Dv} {vs : List V} {i : Nat} {d : Dv}, Reps K sc H ds vs → ds[i]? = some d → ∃ v, vs[i]? = some v ∧ Rep K sc H d v
  | [], _, _, _, _, e => by simp at e
  | d :: ds, vs, i, d', r, e => by
    simp only [Reps] at r
    obtain ⟨v, q, rfl, r1, r2⟩ := r
    cases i with
    | zero => simp at e; subst e; exact ⟨v, rfl, r1⟩
    | succ i =>
      obtain ⟨w, e1, e2⟩ := reps_get (i := i) (d := d') r2 (by simpa using e)
      exact ⟨w, by simpa using e1, e2⟩
theorem reps_app : ∀ {ds ds' : List Dv} {vs vs' : List V}, Reps K sc H ds vs → Reps K sc H ds' vs' → Reps K sc H (ds ++ ds') (vs ++ vs')
  | [], _, vs, _, r, s => by simp only [Reps] at r; subst r; exact s
  | d :: ds, ds', vs, vs', r, s => by
    simp only [Reps] at r
    obtain ⟨v, q, rfl, r1, r2⟩ := r
    exact reps_cons r1 (reps_app r2 s)
theorem reps_set : ∀ {ds : List Dv} {vs : List V} {i : Nat} {d : Dv} {v : V}, Reps K sc H ds vs → Rep K sc H d v → Reps K sc H (ds.set i d) (vs.set i v)
  | [], vs, _, _, _, r, _ => by simp only [Reps] at r; subst r; exact reps_nil
  | d :: ds, vs, i, d', v', r, s => by
    simp only [Reps] at r
    obtain ⟨v, q, rfl, r1, r2⟩ := r
    cases i with
    | zero => exact reps_cons s r2
    | succ i => exact reps_cons r1 (reps_set r2 s)
theorem reps_strs : ∀ {l : List (List Nat)}, Reps K sc H (l.map Dv.str) (l.map fun s => V.str (sOf s))
  | [] => reps_nil
  | a :: l => reps_cons (by simp only [Rep]) reps_strs
theorem reps_ints : ∀ {l : List Int}, Reps K sc H (l.map Dv.int) (l.map V.int)
  | [] => reps_nil
  | a :: l => reps_cons (by simp only [Rep]) reps_ints
end

/-- what an owned object is -/
def OwnAt (K : PySem.W.Frag) (sc : Sc) (Hs H : Hp) (p : Addr) : Ob → Prop
  | .lst ds => ∃ xs, H p = some (.lst xs) ∧ Reps K sc Hs ds xs
theorem OwnAt.some {K sc Hs H p o} (h : OwnAt K sc Hs H p o) : H p ≠ none := by
  cases o with
  | lst ds => obtain ⟨xs, e, _⟩ := h; rw [e]; exact fun z => nomatch z
theorem OwnAt.mono {K sc Hs Hs' H H' p o} (h : OwnAt K sc Hs H p o) (l : Le Hs Hs') (e : H' p = H p) : OwnAt K sc Hs' H' p o := by
  cases o with
  | lst ds => obtain ⟨xs, e1, r⟩ := h; exact ⟨xs, e.trans e1, reps_le l r⟩

/-- a call's own things: the heap and what was laid at its start, the addresses of the lists that it may change, what is wanted of an error -/
structure Cc where
  K : PySem.W.Frag
  sc : Sc
  H0 : Hp
  P : List Addr
  Hs0 : Hp
  E : WX
  RE : Err → PySem.Value → Option Addr → Hp → Hp → Prop

def JOk (C : Cc) (p : Addr) : Option Nat → Prop
  | none => C.H0 p = none
  | some k => C.P[k]? = some p
def SlotOk (C : Cc) (Hs H : Hp) : Slt → Option (Option V) → Prop
  | .un, _ => True
  | .fz d, x => ∃ v, x = some (some v) ∧ Rep C.K C.sc Hs d v
  | .ow j o, x => ∃ p, x = some (some (.ref p)) ∧ Hs p = none ∧ OwnAt C.K C.sc Hs H p o ∧ JOk C p j

structure StOk (C : Cc) (Z : Hp) (Hs : Hp) (e : Loc) (σ : L2.St) (H : Hp) : Prop where
  len : σ.length = e.length
  le : Le Hs H
  slot : ∀ (i : Nat) s, e[i]? = some s → SlotOk C Hs H s σ[i]?
  sep : ∀ (i i' : Nat) j j' o o' p, e[i]? = some (.ow j o) → e[i']? = some (.ow j' o') → σ[i]? = some (some (.ref p)) → σ[i']? = some (some (.ref p)) → i = i'
  frame : ∀ a o, C.H0 a = some o → a ∉ C.P → H a = some o
  dom : ∀ a, C.H0 a ≠ none → H a ≠ none
  news : ∀ a, Hs a ≠ none → C.Hs0 a ≠ none ∨ C.H0 a = none
  par : ∀ p, p ∈ C.P → C.H0 p ≠ none
  hid : ∀ a o, Z a = some o → H a = some o ∧ Hs a = none
  hids : ∀ (i : Nat) j o p, e[i]? = some (.ow j o) → σ[i]? = some (some (.ref p)) → Z p = none

structure Post (Hs H Hs' H' : Hp) : Prop where
  le : Le Hs Hs'
  dom : ∀ a, H a ≠ none → H' a ≠ none
theorem Post.refl {Hs H : Hp} : Post Hs H Hs H := ⟨Le.rfl', fun _ h => h⟩
theorem Post.trans {Hs H Hs1 H1 Hs2 H2 : Hp} (a : Post Hs H Hs1 H1) (b : Post Hs1 H1 Hs2 H2) : Post Hs H Hs2 H2 := ⟨a.le.trans b.le, fun x h => b.dom x (a.dom x h)⟩
theorem dom_upd {H : Hp} {p : Addr} {o : HO} : ∀ a, H a ≠ none → upd H p o a ≠ none := fun a h => by
  by_cases e : a = p
  · subst e; rw [upd_same]; exact fun z => nomatch z
  · rw [upd_ne e]; exact h
theorem Post.new {Hs H : Hp} {p : Addr} {o : HO} (h : Hs p = none) : Post Hs H (upd Hs p o) (upd H p o) := ⟨Le.new h, dom_upd⟩
theorem Post.newO {Hs H : Hp} {p : Addr} {o : HO} : Post Hs H Hs (upd H p o) := ⟨Le.rfl', dom_upd⟩

section
variable {C : Cc} {Z Hs H Hs' H' : Hp} {e : Loc} {σ : L2.St}
theorem StOk.hs_none (k : StOk C Z Hs e σ H) {p : Addr} (h : H p = none) : Hs p = none := le_none k.le h
theorem StOk.h0_none (k : StOk C Z Hs e σ H) {p : Addr} (h : H p = none) : C.H0 p = none := by
  cases q : C.H0 p with
  | none => rfl
  | some o => exact absurd h (k.dom p (by rw [q]; exact fun z => nomatch z))
theorem StOk.z_none (k : StOk C Z Hs e σ H) {p : Addr} (h : H p = none) : Z p = none := by
  cases q : Z p with
  | none => rfl
  | some o => rw [(k.hid p o q).1] at h; cases h
theorem StOk.own (k : StOk C Z Hs e σ H) {i : Nat} {j : Option Nat} {o : Ob} (h : e[i]? = some (.ow j o)) :
    ∃ p, σ[i]? = some (some (.ref p)) ∧ Hs p = none ∧ OwnAt C.K C.sc Hs H p o ∧ JOk C p j := k.slot i _ h
theorem StOk.fz (k : StOk C Z Hs e σ H) {i : Nat} {d : Dv} (h : e[i]? = some (.fz d)) : ∃ v, σ[i]? = some (some v) ∧ Rep C.K C.sc Hs d v := k.slot i _ h
/-- an owned object's address may be changed: it is not framed -/
theorem StOk.unframed (k : StOk C Z Hs e σ H) {i : Nat} {j : Option Nat} {o : Ob} {p : Addr} (h : e[i]? = some (.ow j o)) (hp : σ[i]? = some (some (.ref p))) : ∀ u, C.H0 p = some u → p ∈ C.P := by
  obtain ⟨q, e1, _, _, z⟩ := k.own h
  rw [hp] at e1; cases e1
  intro u hu
  cases j with
  | none => have z : C.H0 p = none := z; rw [hu] at z; cases z
  | some n => exact List.mem_of_getElem? z
/-- the heap grows by things that are laid -/
theorem StOk.grow (k : StOk C Z Hs e σ H) (l : Le Hs Hs') (l' : Le H H') (ls : Le Hs' H') (n : ∀ a, Hs' a ≠ none → Hs a ≠ none ∨ H a = none) : StOk C Z Hs' e σ H' where
  len := k.len
  le := ls
  slot := fun i s hs => by
    have q := k.slot i s hs
    cases s with
    | un => trivial
    | fz d => obtain ⟨v, e1, r⟩ := q; exact ⟨v, e1, rep_le l r⟩
    | ow j o =>
      obtain ⟨p, e1, e2, e3, e4⟩ := q
      have hp : Hs' p = none := by
        cases z : Hs' p with
        | none => rfl
        | some u =>
          rcases n p (by rw [z]; exact fun q => nomatch q) with h | h
          · exact absurd e2 h
          · exact absurd h e3.some
      refine ⟨p, e1, hp, e3.mono l ?_, e4⟩
      cases z : H p with
      | none => exact absurd z e3.some
      | some u => exact l' p u z
  sep := k.sep
  frame := fun a o h h' => l' _ _ (k.frame a o h h')
  dom := fun a h => by
    have := k.dom a h
    cases z : H a with
    | none => exact absurd z this
    | some u => rw [l' a u z]; exact fun q => nomatch q
  news := fun a h => by
    rcases n a h with h | h
    · exact k.news a h
    · exact .inr (k.h0_none h)
  par := k.par
  hid := fun a o h => ⟨l' _ _ (k.hid a o h).1, by
    cases z : Hs' a with
    | none => rfl
    | some u =>
      rcases n a (by rw [z]; exact fun q => nomatch q) with h' | h'
      · exact absurd (k.hid a o h).2 h'
      · rw [(k.hid a o h).1] at h'; cases h'⟩
  hids := k.hids
theorem StOk.new (k : StOk C Z Hs e σ H) {p : Addr} {o : HO} (h : H p = none) : StOk C Z (upd Hs p o) e σ (upd H p o) :=
  k.grow (Le.new (k.hs_none h)) (Le.new h) (fun a u q => by
    by_cases z : a = p
    · subst z; rw [upd_same] at q ⊢; exact q
    · rw [upd_ne z] at q ⊢; exact k.le a u q) fun a q => by
    by_cases z : a = p
    · subst z; exact .inr h
    · rw [upd_ne z] at q; exact .inl q
theorem StOk.newO (k : StOk C Z Hs e σ H) {p : Addr} {o : HO} (h : H p = none) : StOk C Z Hs e σ (upd H p o) :=
  k.grow Le.rfl' (Le.new h) (fun a u q => Le.new h a u (k.le a u q)) fun a q => .inl q
/-- an object that is not owned by a slot is laid from now on -/
theorem StOk.freeze (k : StOk C Z Hs e σ H) {p : Addr} {o : HO} (h : H p = some o) (h0 : C.H0 p = none) (hn : Hs p = none) (hz : Z p = none) (hs : ∀ (i : Nat) j u, e[i]? = some (.ow j u) → σ[i]? ≠ some (some (.ref p))) : StOk C Z (upd Hs p o) e σ H where
  len := k.len
  le := fun a u q => by
    by_cases z : a = p
    · subst z; rw [upd_same] at q; rw [h]; exact q
    · rw [upd_ne z] at q; exact k.le a u q
  slot := fun i s hs' => by
    have q := k.slot i s hs'
    cases s with
    | un => trivial
    | fz d => obtain ⟨v, e1, r⟩ := q; exact ⟨v, e1, rep_le (Le.new hn) r⟩
    | ow j u =>
      obtain ⟨a, e1, e2, e3, e4⟩ := q
      have z : a ≠ p := fun z => hs i j u hs' (by rw [e1, z])
      exact ⟨a, e1, by rw [upd_ne z]; exact e2, e3.mono (Le.new hn) rfl, e4⟩
  sep := k.sep
  frame := k.frame
  dom := k.dom
  news := fun a q => by
    by_cases z : a = p
    · subst z; exact .inr h0
    · rw [upd_ne z] at q; exact k.news a q
  par := k.par
  hid := fun a u q => ⟨(k.hid a u q).1, by
    rw [upd_ne (ne_of_none q hz)]
    exact (k.hid a u q).2⟩
  hids := k.hids
/-- a slot is filled with data -/
theorem StOk.setF (k : StOk C Z Hs e σ H) {i : Nat} {d : Dv} {v : V} (r : Rep C.K C.sc Hs d v) : StOk C Z Hs (e.set i (.fz d)) (σ.set i (some v)) H where
  len := by rw [List.length_set, List.length_set]; exact k.len
  le := k.le
  slot := fun i' s hs => by
    by_cases z : i = i'
    · subst z
      have hi : i < e.length := by
        have := (List.getElem?_eq_some_iff.mp hs).1; rw [List.length_set] at this; exact this
      rw [List.getElem?_set_self hi] at hs
      cases hs
      rw [List.getElem?_set_self (by rw [k.len]; exact hi)]
      exact ⟨v, rfl, r⟩
    · rw [List.getElem?_set_ne z] at hs ⊢
      exact k.slot i' s hs
  sep := fun a b j j' o o' p h1 h2 h3 h4 => by
    have f : ∀ {c : Nat} {j o}, (e.set i (.fz d))[c]? = some (Slt.ow j o) → c ≠ i := fun {c j o} h z => by
      subst z
      have hi : c < e.length := by
        have := (List.getElem?_eq_some_iff.mp h).1; rw [List.length_set] at this; exact this
      rw [List.getElem?_set_self hi] at h; cases h
    have z1 := f h1; have z2 := f h2
    rw [List.getElem?_set_ne (Ne.symm z1)] at h1 h3
    rw [List.getElem?_set_ne (Ne.symm z2)] at h2 h4
    exact k.sep a b j j' o o' p h1 h2 h3 h4
  frame := k.frame
  dom := k.dom
  news := k.news
  par := k.par
  hid := k.hid
  hids := fun c j o p h h' => by
    have z : c ≠ i := fun z => by
      subst z
      have hi : c < e.length := by
        have := (List.getElem?_eq_some_iff.mp h).1; rw [List.length_set] at this; exact this
      rw [List.getElem?_set_self hi] at h; cases h
    rw [List.getElem?_set_ne (Ne.symm z)] at h h'
    exact k.hids c j o p h h'
/-- a slot is emptied -/
theorem StOk.setU (k : StOk C Z Hs e σ H) {i : Nat} {x : Option V} : StOk C Z Hs (e.set i .un) (σ.set i x) H where
  len := by rw [List.length_set, List.length_set]; exact k.len
  le := k.le
  slot := fun i' s hs => by
    by_cases z : i = i'
    · subst z
      have hi : i < e.length := by
        have := (List.getElem?_eq_some_iff.mp hs).1; rw [List.length_set] at this; exact this
      rw [List.getElem?_set_self hi] at hs
      cases hs
      trivial
    · rw [List.getElem?_set_ne z] at hs ⊢
      exact k.slot i' s hs
  sep := fun a b j j' o o' p h1 h2 h3 h4 => by
    have f : ∀ {c : Nat} {j o}, (e.set i .un)[c]? = some (Slt.ow j o) → c ≠ i := fun {c j o} h z => by
      subst z
      have hi : c < e.length := by
        have := (List.getElem?_eq_some_iff.mp h).1; rw [List.length_set] at this; exact this
      rw [List.getElem?_set_self hi] at h; cases h
    have z1 := f h1; have z2 := f h2
    rw [List.getElem?_set_ne (Ne.symm z1)] at h1 h3
    rw [List.getElem?_set_ne (Ne.symm z2)] at h2 h4
    exact k.sep a b j j' o o' p h1 h2 h3 h4
  frame := k.frame
  dom := k.dom
  news := k.news
  par := k.par
  hid := k.hid
  hids := fun c j o p h h' => by
    have z : c ≠ i := fun z => by
      subst z
      have hi : c < e.length := by
        have := (List.getElem?_eq_some_iff.mp h).1; rw [List.length_set] at this; exact this
      rw [List.getElem?_set_self hi] at h; cases h
    rw [List.getElem?_set_ne (Ne.symm z)] at h h'
    exact k.hids c j o p h h'
/-- a slot is given an object of its own -/
theorem StOk.setO (k : StOk C Z Hs e σ H) {i : Nat} {p : Addr} {o : Ob} (h0 : C.H0 p = none) (hz : Z p = none) (hn : Hs p = none) (ho : OwnAt C.K C.sc Hs H p o) (hs : ∀ (i : Nat) j u, e[i]? = some (.ow j u) → σ[i]? ≠ some (some (.ref p))) :
    StOk C Z Hs (e.set i (.ow none o)) (σ.set i (some (.ref p))) H where
  len := by rw [List.length_set, List.length_set]; exact k.len
  le := k.le
  slot := fun i' s hs' => by
    by_cases z : i = i'
    · subst z
      have hi : i < e.length := by
        have := (List.getElem?_eq_some_iff.mp hs').1; rw [List.length_set] at this; exact this
      rw [List.getElem?_set_self hi] at hs'
      cases hs'
      rw [List.getElem?_set_self (by rw [k.len]; exact hi)]
      exact ⟨p, rfl, hn, ho, h0⟩
    · rw [List.getElem?_set_ne z] at hs' ⊢
      exact k.slot i' s hs'
  sep := fun a b j j' u u' q h1 h2 h3 h4 => by
    by_cases z1 : i = a
    · by_cases z2 : i = b
      · exact z1.symm.trans z2
      · rw [List.getElem?_set_ne z2] at h2 h4
        have hi : i < e.length := by
          have := (List.getElem?_eq_some_iff.mp h1).1; rw [List.length_set] at this; omega
        subst z1
        rw [List.getElem?_set_self (by rw [k.len]; exact hi)] at h3
        cases h3
        exact absurd h4 (hs b j' u' h2)
    · rw [List.getElem?_set_ne z1] at h1 h3
      by_cases z2 : i = b
      · have hi : i < e.length := by
          have := (List.getElem?_eq_some_iff.mp h2).1; rw [List.length_set] at this; omega
        subst z2
        rw [List.getElem?_set_self (by rw [k.len]; exact hi)] at h4
        cases h4
        exact absurd h3 (hs a j u h1)
      · rw [List.getElem?_set_ne z2] at h2 h4
        exact k.sep a b j j' u u' q h1 h2 h3 h4
  frame := k.frame
  dom := k.dom
  news := k.news
  par := k.par
  hid := k.hid
  hids := fun c j u q h h' => by
    by_cases z : i = c
    · have hi : i < e.length := by
        have := (List.getElem?_eq_some_iff.mp h).1; rw [List.length_set] at this; omega
      subst z
      rw [List.getElem?_set_self (by rw [k.len]; exact hi)] at h'
      cases h'
      exact hz
    · rw [List.getElem?_set_ne z] at h h'
      exact k.hids c j u q h h'
/-- an owned object is changed -/
theorem StOk.mut (k : StOk C Z Hs e σ H) {i : Nat} {j : Option Nat} {o o' : Ob} {p : Addr} {u : HO} (he : e[i]? = some (.ow j o)) (hp : σ[i]? = some (some (.ref p))) (ho : OwnAt C.K C.sc Hs (upd H p u) p o') :
    StOk C Z Hs (e.set i (.ow j o')) σ (upd H p u) where
  len := by rw [List.length_set]; exact k.len
  le := fun a v q => by
    obtain ⟨p', e1, e2, _⟩ := k.own he
    rw [hp] at e1; cases e1
    rw [upd_ne (ne_of_none q e2)]
    exact k.le a v q
  slot := fun i' s hs => by
    obtain ⟨p', e1, e2, e3, e4⟩ := k.own he
    rw [hp] at e1; cases e1
    by_cases z : i = i'
    · subst z
      have hi : i < e.length := (List.getElem?_eq_some_iff.mp he).1
      rw [List.getElem?_set_self hi] at hs
      cases hs
      exact ⟨p, hp, e2, ho, e4⟩
    · rw [List.getElem?_set_ne z] at hs
      have q := k.slot i' s hs
      cases s with
      | un => trivial
      | fz d => exact q
      | ow j' o2 =>
        obtain ⟨p2, f1, f2, f3, f4⟩ := q
        have ne : p2 ≠ p := fun z2 => z (k.sep i i' j j' o o2 p he hs hp (by rw [f1, z2]))
        exact ⟨p2, f1, f2, f3.mono Le.rfl' (upd_ne ne), f4⟩
  sep := fun a b j1 j2 o1 o2 q h1 h2 h3 h4 => by
    have f : ∀ {c : Nat} {j' o''}, (e.set i (.ow j o'))[c]? = some (Slt.ow j' o'') → ∃ j2 o2, e[c]? = some (.ow j2 o2) := fun {c j' o''} h => by
      by_cases z : i = c
      · exact ⟨j, o, z ▸ he⟩
      · rw [List.getElem?_set_ne z] at h; exact ⟨_, _, h⟩
    obtain ⟨_, _, g1⟩ := f h1
    obtain ⟨_, _, g2⟩ := f h2
    exact k.sep a b _ _ _ _ q g1 g2 h3 h4
  frame := fun a v h h' => by
    have ne : a ≠ p := fun z => h' (z ▸ k.unframed he hp v (z ▸ h))
    rw [upd_ne ne]
    exact k.frame a v h h'
  dom := fun a h => dom_upd a (k.dom a h)
  news := k.news
  par := k.par
  hid := fun a v q => by
    have ne : a ≠ p := ne_of_none q (k.hids i j o p he hp)
    rw [upd_ne ne]
    exact k.hid a v q
  hids := fun c j1 o1 q h h' => by
    by_cases z : i = c
    · subst z
      rw [hp] at h'; cases h'
      exact k.hids i j o p he hp
    · rw [List.getElem?_set_ne z] at h
      exact k.hids c j1 o1 q h h'
/-- less is hidden -/
theorem StOk.zle {Z1 : Hp} (k : StOk C Z Hs e σ H) (h : Le Z1 Z) : StOk C Z1 Hs e σ H :=
  ⟨k.len, k.le, k.slot, k.sep, k.frame, k.dom, k.news, k.par, fun a o q => k.hid a o (h a o q), fun i j o p h1 h2 => le_none h (k.hids i j o p h1 h2)⟩
/-- an object that no slot owns is hidden -/
theorem StOk.hide (k : StOk C Z Hs e σ H) {p : Addr} {o : HO} (h : H p = some o) (hn : Hs p = none) (hs : ∀ (i : Nat) j u, e[i]? = some (.ow j u) → σ[i]? ≠ some (some (.ref p))) : StOk C (upd Z p o) Hs e σ H :=
  ⟨k.len, k.le, k.slot, k.sep, k.frame, k.dom, k.news, k.par, fun a u q => by
    by_cases z : a = p
    · subst z; rw [upd_same] at q; cases q; exact ⟨h, hn⟩
    · rw [upd_ne z] at q; exact k.hid a u q, fun i j u q h1 h2 => by
    have z : q ≠ p := fun z => hs i j u h1 (z ▸ h2)
    rw [upd_ne z]
    exact k.hids i j u q h1 h2⟩
/-- a hidden object is changed -/
theorem StOk.hmut {D : Addr} {o o' : HO} (k : StOk C (upd Z D o) Hs e σ H) (h0 : C.H0 D = none) : StOk C (upd Z D o') Hs e σ (upd H D o') where
  len := k.len
  le := fun a v q => by
    have ne : a ≠ D := ne_of_none q (k.hid D o upd_same).2
    rw [upd_ne ne]; exact k.le a v q
  slot := fun i s hs => by
    have q := k.slot i s hs
    cases s with
    | un => trivial
    | fz d => exact q
    | ow j u =>
      obtain ⟨p, e1, e2, e3, e4⟩ := q
      have ne : p ≠ D := fun z => by
        have := k.hids i j u p hs e1
        rw [z, upd_same] at this; cases this
      exact ⟨p, e1, e2, e3.mono Le.rfl' (upd_ne ne), e4⟩
  sep := k.sep
  frame := fun a v h h' => by
    rw [upd_ne (ne_of_none h h0)]; exact k.frame a v h h'
  dom := fun a h => dom_upd a (k.dom a h)
  news := k.news
  par := k.par
  hid := fun a v q => by
    by_cases z : a = D
    · subst z; rw [upd_same] at q ⊢; exact ⟨q, (k.hid a o upd_same).2⟩
    · rw [upd_ne z] at q ⊢
      exact k.hid a v (by rw [upd_ne z]; exact q)
  hids := fun i j u p h1 h2 => by
    have q := k.hids i j u p h1 h2
    by_cases z : p = D
    · subst z; rw [upd_same] at q; cases q
    · rw [upd_ne z] at q ⊢; exact q
theorem StOk.fresh (k : StOk C Z Hs e σ H) {p : Addr} (h : H p = none) : ∀ (i : Nat) j u, e[i]? = some (.ow j u) → σ[i]? ≠ some (some (.ref p)) := fun i j u he hp => by
  obtain ⟨p', e1, _, e3, _⟩ := k.own he
  rw [hp] at e1; cases e1
  exact e3.some h
end

/-! ### what is wanted of what an expression comes to -/
def WE {α β : Type} (C : Cc) (Z : Hp) (σ : L2.St) (Hs H : Hp) (rel : α → Loc → β → Hp → Hp → Prop) (r : Rs α) (Q : β → Hp → Prop) : Prop := match r with
  | .ok a e' => ∀ b Hs' H', Post Hs H Hs' H' → StOk C Z Hs' e' σ H' → rel a e' b Hs' H' → Q b H'
  | .er x e' => ∀ Hs' H' c od, Post Hs H Hs' H' → StOk C Z Hs' e' σ H' → C.RE x c od Hs' H' → C.E c od σ H'
  | .ud => False
theorem we_mono {α β : Type} {C : Cc} {Z : Hp} {σ : L2.St} {Hs H Hs1 H1 : Hp} {rel : α → Loc → β → Hp → Hp → Prop} {r : Rs α} {Q : β → Hp → Prop} (p : Post Hs H Hs1 H1) (h : WE C Z σ Hs H rel r Q) : WE C Z σ Hs1 H1 rel r Q := by
  cases r with
  | ok a e' => exact fun b Hs' H' p' => h b Hs' H' (p.trans p')
  | er x e' => exact fun Hs' H' c od p' => h Hs' H' c od (p.trans p')
  | ud => exact h
theorem we_bind {α β γ δ : Type} {C : Cc} {Z : Hp} {σ : L2.St} {Hs H : Hp} {r1 : α → Loc → β → Hp → Hp → Prop} {r2 : γ → Loc → δ → Hp → Hp → Prop} {r : Rs α} {f : α → Loc → Rs γ} {Q : δ → Hp → Prop} {R : β → Hp → Prop}
    (k : ∀ a e1 b Hs1 H1, Post Hs H Hs1 H1 → StOk C Z Hs1 e1 σ H1 → r1 a e1 b Hs1 H1 → WE C Z σ Hs1 H1 r2 (f a e1) Q → R b H1) (h : WE C Z σ Hs H r2 (r.bind f) Q) : WE C Z σ Hs H r1 r R := by
  cases r with
  | ok a e' => exact fun b Hs' H' p' s q => k a e' b Hs' H' p' s q (we_mono p' h)
  | er x e' => exact h
  | ud => exact h
theorem we_of {α β : Type} {C : Cc} {Z : Hp} {σ : L2.St} {Hs H : Hp} {rel : α → Loc → β → Hp → Hp → Prop} {o : Option α} {e : Loc} {Q : β → Hp → Prop} (h : WE C Z σ Hs H rel (Rs.of o e) Q) : ∃ a, o = some a ∧ WE C Z σ Hs H rel (.ok a e) Q := by
  cases o with
  | none => exact h.elim
  | some a => exact ⟨a, rfl, h⟩

def rD (C : Cc) : Dv → Loc → V → Hp → Hp → Prop := fun d _ v Hs' _ => Rep C.K C.sc Hs' d v
def rDs (C : Cc) : List Dv → Loc → List V → Hp → Hp → Prop := fun d _ v Hs' _ => Reps C.K C.sc Hs' d v
def rB : Bool → Loc → Bool → Hp → Hp → Prop := fun b _ b' _ _ => b = b'
def rO (C : Cc) (Z : Hp) (σ : L2.St) : Ob → Loc → V → Hp → Hp → Prop := fun o e v Hs' H' => ∃ p, v = .ref p ∧ Hs' p = none ∧ (C.H0 p = none ∧ Z p = none) ∧ OwnAt C.K C.sc Hs' H' p o ∧ ∀ (i : Nat) j u, e[i]? = some (.ow j u) → σ[i]? ≠ some (some (.ref p))

/-- the reading t is at least the mirror m -/
def SE (C : Cc) (t : TE) (m : ME Dv) : Prop := ∀ Z Hs e σ H, StOk C Z Hs e σ H → ∀ Q, WE C Z σ Hs H (rD C) (m e) Q → t σ H Q
def SEO (C : Cc) (t : TE) (m : ME Ob) : Prop := ∀ Z Hs e σ H, StOk C Z Hs e σ H → ∀ Q, WE C Z σ Hs H (rO C Z σ) (m e) Q → t σ H Q
def ST (C : Cc) (t : TT) (m : ME Bool) : Prop := ∀ Z Hs e σ H, StOk C Z Hs e σ H → ∀ Q, WE C Z σ Hs H rB (m e) Q → t σ H Q
def SA (C : Cc) (t : TA) (m : ME (List Dv)) : Prop := ∀ Z Hs e σ H, StOk C Z Hs e σ H → ∀ Q, WE C Z σ Hs H (rDs C) (m e) Q → t σ H Q

theorem we_ok {α β : Type} {C : Cc} {Z : Hp} {σ : L2.St} {Hs H : Hp} {rel : α → Loc → β → Hp → Hp → Prop} {a : α} {e : Loc} {Q : β → Hp → Prop} (h : WE C Z σ Hs H rel (.ok a e) Q) {b : β} (k : StOk C Z Hs e σ H) (r : rel a e b Hs H) : Q b H := h b Hs H Post.refl k r
/-- a new thing is laid -/
theorem we_new {α : Type} {C : Cc} {Z : Hp} {σ : L2.St} {Hs H : Hp} {rel : α → Loc → V → Hp → Hp → Prop} {a : α} {e : Loc} {Q : V → Hp → Prop} (h : WE C Z σ Hs H rel (.ok a e) Q) (k : StOk C Z Hs e σ H) {p : Addr} {o : HO} (hp : H p = none)
    (r : rel a e (.ref p) (upd Hs p o) (upd H p o)) : Q (.ref p) (upd H p o) := h _ _ _ (Post.new (k.hs_none hp)) (k.new hp) r
/-- a new list of one's own -/
theorem we_newO {C : Cc} {Z : Hp} {σ : L2.St} {Hs H : Hp} {ds : List Dv} {xs : List V} {e : Loc} {Q : V → Hp → Prop} (h : WE C Z σ Hs H (rO C Z σ) (.ok (.lst ds) e) Q) (k : StOk C Z Hs e σ H) {p : Addr} (hp : H p = none) (r : Reps C.K C.sc Hs ds xs) : Q (.ref p) (upd H p (.lst xs)) :=
  h _ _ _ Post.newO (k.newO hp) ⟨p, rfl, k.hs_none hp, ⟨k.h0_none hp, k.z_none hp⟩, ⟨xs, upd_same, r⟩, k.fresh hp⟩
end Ml

set_option linter.all false
set_option maxRecDepth 100000
set_option maxHeartbeats 1000000
namespace Ml
open L2
open PySem (Addr Str sizeLine)
section
variable {C : Cc}

theorem slen (s : List Nat) : (sOf s).length = s.length := by simp [Str.length]
theorem lim_line {n : Nat} (h : n ≤ lim) : n ≤ sizeLine := Nat.le_trans h (by decide)
theorem lim_lt {n : Nat} (h : n < lim) : n < sizeLine := Nat.lt_of_lt_of_le h (by decide)
theorem sapp (a b : List Nat) : sOf a ++ sOf b = sOf (a ++ b) := TL.ext_tl (by rw [TL.tl_append])

/-! ### names and constants -/
theorem se_var {i : Nat} : SE C (tVar i) (mVar i) := fun Z Hs e σ H k Q w => by
  unfold mVar at w
  split at w
  · rename_i d hd
    obtain ⟨v, e1, r⟩ := k.fz hd
    exact ⟨v, e1, we_ok w k r⟩
  · exact w.elim
theorem se_k {v : V} {d : Dv} (h : ∀ Hs, Rep C.K C.sc Hs d v) : SE C (tC v) (mC d) := fun Z Hs e σ H k Q w => we_ok w k (h Hs)
theorem se_i {i : Int} : SE C (tC (.int i)) (mC (.int i)) := se_k fun _ => by simp only [Rep]
theorem se_b {b : Bool} : SE C (tC (.bl b)) (mC (.bl b)) := se_k fun _ => by simp only [Rep]
theorem se_n : SE C (tC .non) (mC .non) := se_k fun _ => by simp only [Rep]
theorem se_s {x : Str} {s : List Nat} (h : x = sOf s) : SE C (tC (.str x)) (mC (.str s)) := se_k fun _ => by simp only [Rep]; rw [h]

/-! ### operations -/
def R1 (C : Cc) (r : V → Hp → VK → Prop) (f : Dv → Option Dv) : Prop := ∀ Z Hs e σ H, StOk C Z Hs e σ H → ∀ x a c Q, Rep C.K C.sc Hs a x → f a = some c → WE C Z σ Hs H (rD C) (.ok c e) Q → r x H Q
def RV (C : Cc) (r : L2.R2) (f : Dv → Dv → Option Dv) : Prop := ∀ Z Hs e σ H, StOk C Z Hs e σ H → ∀ x y a b c Q, Rep C.K C.sc Hs a x → Rep C.K C.sc Hs b y → f a b = some c → WE C Z σ Hs H (rD C) (.ok c e) Q → r x y H Q
/-- the first operand a list that may be changed -/
def RW (C : Cc) (r : L2.R2) (f : List Dv → Dv → Option Dv) : Prop := ∀ Z Hs e σ H, StOk C Z Hs e σ H → ∀ p xs ds y b c Q, H p = some (.lst xs) → Reps C.K C.sc Hs ds xs → Rep C.K C.sc Hs b y → f ds b = some c → WE C Z σ Hs H (rD C) (.ok c e) Q → r (.ref p) y H Q
def RW1 (C : Cc) (r : V → Hp → VK → Prop) (f : List Dv → Option Dv) : Prop := ∀ Z Hs e σ H, StOk C Z Hs e σ H → ∀ p xs ds c Q, H p = some (.lst xs) → Reps C.K C.sc Hs ds xs → f ds = some c → WE C Z σ Hs H (rD C) (.ok c e) Q → r (.ref p) H Q
def RC1 (C : Cc) (r : List V → Hp → VK → Prop) (f : Dv → Option Dv) : Prop := R1 C (fun x => r [x]) f
def RCW (C : Cc) (r : List V → Hp → VK → Prop) (f : List Dv → Option Dv) : Prop := RW1 C (fun x => r [x]) f
def RN1 (C : Cc) (r : V → Hp → VK → Prop) (f : Dv → Option (List Dv)) : Prop := ∀ Z Hs e σ H, StOk C Z Hs e σ H → ∀ x a c Q, Rep C.K C.sc Hs a x → f a = some c → WE C Z σ Hs H (rO C Z σ) (.ok (.lst c) e) Q → r x H Q
def RCN (C : Cc) (r : List V → Hp → VK → Prop) (f : Dv → Option (List Dv)) : Prop := RN1 C (fun x => r [x]) f
def RN2 (C : Cc) (r : L2.R2) (f : Dv → Dv → Option (List Dv)) : Prop := ∀ Z Hs e σ H, StOk C Z Hs e σ H → ∀ x y a b c Q, Rep C.K C.sc Hs a x → Rep C.K C.sc Hs b y → f a b = some c → WE C Z σ Hs H (rO C Z σ) (.ok (.lst c) e) Q → r x y H Q

variable {ta tb te : TE} {ma mb me : ME Dv}
theorem se_op1 {r : V → Hp → VK → Prop} {f : Dv → Option Dv} (hr : R1 C r f) (ha : SE C ta ma) : SE C (tUn r ta) (mO1 f ma) := fun Z Hs e σ H k Q w =>
  ha Z Hs e σ H k _ (we_bind (fun a e1 x Hs1 H1 _ k1 r1 w1 => by
    obtain ⟨c, hc, w2⟩ := we_of w1
    exact hr Z Hs1 e1 σ H1 k1 x a c Q r1 hc w2) w)
theorem se_op {r : L2.R2} {f : Dv → Dv → Option Dv} (hr : RV C r f) (ha : SE C ta ma) (hb : SE C tb mb) : SE C (tOp r ta tb) (mO2 f ma mb) := fun Z Hs e σ H k Q w =>
  ha Z Hs e σ H k _ (we_bind (fun a e1 x Hs1 H1 _ k1 r1 w1 => hb Z Hs1 e1 σ H1 k1 _ (we_bind (fun b e2 y Hs2 H2 p2 k2 r2 w2 => by
    obtain ⟨c, hc, w3⟩ := we_of w2
    exact hr Z Hs2 e2 σ H2 k2 x y a b c Q (rep_le p2.le r1) r2 hc w3) w1)) w)
theorem seo_op {r : L2.R2} {f : Dv → Dv → Option (List Dv)} (hr : RN2 C r f) (ha : SE C ta ma) (hb : SE C tb mb) : SEO C (tOp r ta tb) (mN2 f ma mb) := fun Z Hs e σ H k Q w =>
  ha Z Hs e σ H k _ (we_bind (fun a e1 x Hs1 H1 _ k1 r1 w1 => hb Z Hs1 e1 σ H1 k1 _ (we_bind (fun b e2 y Hs2 H2 p2 k2 r2 w2 => by
    obtain ⟨o, ho, w3⟩ := we_of w2
    obtain ⟨c, hc, rfl⟩ := Option.map_eq_some_iff.mp ho
    exact hr Z Hs2 e2 σ H2 k2 x y a b c Q (rep_le p2.le r1) r2 hc w3) w1)) w)

/-- the first operand an owned list's name -/
theorem se_opO {r : L2.R2} {f : List Dv → Dv → Option Dv} {i : Nat} (hr : RW C r f) (hb : SE C tb mb) : SE C (tOp r (tVar i) tb) (mOwn2 i f mb) := fun Z Hs e σ H k Q w => by
  unfold mOwn2 at w
  split at w
  · rename_i j o he
    obtain ⟨p, e1, _⟩ := k.own he
    refine ⟨_, e1, hb Z Hs e σ H k _ (we_bind (fun b e2 y Hs2 H2 p2 k2 r2 w2 => ?_) w)⟩
    unfold mOwn at w2
    split at w2
    · rename_i j2 ds he2
      obtain ⟨p', e1', _, ⟨xs, hx, rx⟩, _⟩ := k2.own he2
      rw [e1] at e1'; cases e1'
      obtain ⟨c, hc, w3⟩ := we_of w2
      exact hr Z Hs2 e2 σ H2 k2 p xs ds y b c Q hx rx r2 hc w3
    · exact w2.elim
  · exact w.elim
theorem we_mown {Z : Hp} {σ : L2.St} {Hs H : Hp} {e : Loc} {i : Nat} {f : List Dv → Option Dv} {Q : V → Hp → Prop} (k : StOk C Z Hs e σ H) (w : WE C Z σ Hs H (rD C) (mOwn i f e) Q) :
    ∃ p xs ds c, σ[i]? = some (some (.ref p)) ∧ H p = some (.lst xs) ∧ Reps C.K C.sc Hs ds xs ∧ f ds = some c ∧ WE C Z σ Hs H (rD C) (.ok c e) Q := by
  unfold mOwn at w
  split at w
  · rename_i j ds he
    obtain ⟨p, e1, _, ⟨xs, hx, rx⟩, _⟩ := k.own he
    obtain ⟨c, hc, w3⟩ := we_of w
    exact ⟨p, xs, ds, c, e1, hx, rx, hc, w3⟩
  · exact w.elim
/-- a call of a builtin with one value -/
theorem se_cb1 {r : List V → Hp → VK → Prop} {f : Dv → Option Dv} (hr : RC1 C r f) (ha : SE C ta ma) : SE C (tCB r (tCons ta tNil)) (mO1 f ma) := fun Z Hs e σ H k Q w =>
  ha Z Hs e σ H k _ (we_bind (fun a e1 x Hs1 H1 _ k1 r1 w1 => by
    obtain ⟨c, hc, w2⟩ := we_of w1
    exact hr Z Hs1 e1 σ H1 k1 x a c Q r1 hc w2) w)
theorem se_cb1O {r : List V → Hp → VK → Prop} {f : List Dv → Option Dv} {i : Nat} (hr : RCW C r f) : SE C (tCB r (tCons (tVar i) tNil)) (mOwn i f) := fun Z Hs e σ H k Q w => by
  obtain ⟨p, xs, ds, c, e1, hx, rx, hc, w3⟩ := we_mown k w
  exact ⟨_, e1, hr Z Hs e σ H k p xs ds c Q hx rx hc w3⟩
theorem seo_cb1 {r : List V → Hp → VK → Prop} {f : Dv → Option (List Dv)} (hr : RCN C r f) (ha : SE C ta ma) : SEO C (tCB r (tCons ta tNil)) (mN1 f ma) := fun Z Hs e σ H k Q w =>
  ha Z Hs e σ H k _ (we_bind (fun a e1 x Hs1 H1 _ k1 r1 w1 => by
    obtain ⟨o, ho, w2⟩ := we_of w1
    obtain ⟨c, hc, rfl⟩ := Option.map_eq_some_iff.mp ho
    exact hr Z Hs1 e1 σ H1 k1 x a c Q r1 hc w2) w)
theorem se_cb2 {r : List V → Hp → VK → Prop} {f : Dv → Dv → Option Dv} (hr : RV C (fun x y => r [x, y]) f) (ha : SE C ta ma) (hb : SE C tb mb) : SE C (tCB r (tCons ta (tCons tb tNil))) (mO2 f ma mb) := fun Z Hs e σ H k Q w =>
  ha Z Hs e σ H k _ (we_bind (fun a e1 x Hs1 H1 _ k1 r1 w1 => hb Z Hs1 e1 σ H1 k1 _ (we_bind (fun b e2 y Hs2 H2 p2 k2 r2 w2 => by
    obtain ⟨c, hc, w3⟩ := we_of w2
    exact hr Z Hs2 e2 σ H2 k2 x y a b c Q (rep_le p2.le r1) r2 hc w3) w1)) w)

/-! ### new things -/
theorem se_fz {t : TE} {m : ME Ob} (h : SEO C t m) : SE C t (mFz m) := fun Z Hs e σ H k Q w =>
  h Z Hs e σ H k _ (we_bind (fun o e1 v Hs1 H1 _ k1 r1 w1 => by
    obtain ⟨p, rfl, h1, ⟨h2, hz⟩, ho, hf⟩ := r1
    cases o with
    | lst ds =>
      obtain ⟨xs, hx, rx⟩ := ho
      refine w1 _ (upd Hs1 p (.lst xs)) H1 ⟨Le.new h1, fun _ z => z⟩ (k1.freeze hx h2 h1 hz hf) ?_
      show Rep C.K C.sc _ (.lst ds) _
      simp only [Rep]
      exact ⟨p, xs, rfl, upd_same, reps_le (Le.new h1) rx⟩) w)
theorem sa_nil : SA C tNil (mArgs []) := fun Z Hs e σ H k Q w => we_ok w k reps_nil
theorem sa_cons {tr : TA} {ms : List (ME Dv)} (ha : SE C ta ma) (hr : SA C tr (mArgs ms)) : SA C (tCons ta tr) (mArgs (ma :: ms)) := fun Z Hs e σ H k Q w =>
  ha Z Hs e σ H k _ (we_bind (fun a e1 x Hs1 H1 _ k1 r1 w1 => hr Z Hs1 e1 σ H1 k1 _ (we_bind (fun b e2 y Hs2 H2 p2 k2 r2 w2 => we_ok w2 k2 (reps_cons (rep_le p2.le r1) r2)) w1)) w)

theorem se_tup {t : TA} {ms : List (ME Dv)} (h : SA C t (mArgs ms)) : SE C (tTup t) (mTup ms) := fun Z Hs e σ H k Q w =>
  h Z Hs e σ H k _ (we_bind (fun ds e1 xs Hs1 H1 _ k1 r1 w1 => by
    split at w1
    · rename_i hl
      refine ⟨by rw [reps_len r1]; exact Nat.le_trans hl (by decide), fun p hp => we_new w1 k1 hp ?_⟩
      show Rep C.K C.sc _ (.tup ds) _
      simp only [Rep]
      exact ⟨p, xs, rfl, SqT.of upd_same, reps_le (Le.new (k1.hs_none hp)) r1⟩
    · exact w1.elim) w)
theorem seo_lst {t : TA} {ms : List (ME Dv)} (h : SA C t (mArgs ms)) : SEO C (tLst t) (mLst ms) := fun Z Hs e σ H k Q w =>
  h Z Hs e σ H k _ (we_bind (fun ds e1 xs Hs1 H1 _ k1 r1 w1 => by
    split at w1
    · rename_i hl
      exact ⟨by rw [reps_len r1]; exact Nat.le_trans hl (by decide), fun p hp => we_newO w1 k1 hp r1⟩
    · exact w1.elim) w)

/-! ### tests -/
theorem st_test (h : SE C te me) : ST C (tTest te) (mTest me) := fun Z Hs e σ H k Q w =>
  h Z Hs e σ H k _ (we_bind (fun a e1 x Hs1 H1 _ k1 r1 w1 => by
    cases a with
    | bl b =>
      have r : x = .bl b := by simpa only [rD, Rep] using r1
      subst r
      exact ⟨b, rfl, we_ok w1 k1 rfl⟩
    | _ => exact w1.elim) w)
theorem st_B (h : SE C te me) : ST C (tB te) (mTest me) := st_test h
variable {tt tu : TT} {mt mu : ME Bool}
theorem st_and (h : ST C tt mt) (h' : ST C tu mu) : ST C (tAnd tt tu) (mAnd mt mu) := fun Z Hs e σ H k Q w =>
  h Z Hs e σ H k _ (we_bind (fun a e1 x Hs1 H1 _ k1 r1 w1 => by
    have r1 : a = x := r1
    subst r1
    cases a with
    | true => exact h' Z Hs1 e1 σ H1 k1 Q w1
    | false => exact we_ok w1 k1 rfl) w)
theorem st_or (h : ST C tt mt) (h' : ST C tu mu) : ST C (tOr tt tu) (mOr mt mu) := fun Z Hs e σ H k Q w =>
  h Z Hs e σ H k _ (we_bind (fun a e1 x Hs1 H1 _ k1 r1 w1 => by
    have r1 : a = x := r1
    subst r1
    cases a with
    | true => exact we_ok w1 k1 rfl
    | false => exact h' Z Hs1 e1 σ H1 k1 Q w1) w)
theorem st_not (h : ST C tt mt) : ST C (tNot tt) (mNot mt) := fun Z Hs e σ H k Q w =>
  h Z Hs e σ H k _ (we_bind (fun a e1 x Hs1 H1 _ k1 r1 w1 => by
    have r1 : a = x := r1
    subst r1
    exact we_ok w1 k1 rfl) w)
theorem st_yes : ST C tYes mYes := fun Z Hs e σ H k Q w => we_ok w k rfl
theorem se_andV (ha : SE C ta ma) (hb : SE C tb mb) : SE C (tAndV ta tb) (mAndV ma mb) := fun Z Hs e σ H k Q w =>
  ha Z Hs e σ H k _ (we_bind (r2 := rB) (fun a e1 x Hs1 H1 _ k1 r1 w1 => by
    cases a with
    | bl b =>
      have r : x = .bl b := by simpa only [rD, Rep] using r1
      subst r
      have w2 := w1 b Hs1 H1 Post.refl k1 rfl
      exact ⟨b, rfl, w2⟩
    | _ => exact w1.elim) (Q := fun b H1 => if b = true then tb σ H1 Q else Q (.bl false) H1) (we_bind (r1 := rB) (r2 := rD C) (fun x e1 y Hs1 H1 _ k1 r1 w1 => by
    have r1 : x = y := r1
    subst r1
    cases x with
    | true => exact hb Z Hs1 e1 σ H1 k1 Q w1
    | false => exact we_ok w1 k1 (show Rep C.K C.sc _ (.bl false) _ by simp only [Rep])) w))
theorem se_orV (ha : SE C ta ma) (hb : SE C tb mb) : SE C (tOrV ta tb) (mOrV ma mb) := fun Z Hs e σ H k Q w =>
  ha Z Hs e σ H k _ (we_bind (r2 := rB) (fun a e1 x Hs1 H1 _ k1 r1 w1 => by
    cases a with
    | bl b =>
      have r : x = .bl b := by simpa only [rD, Rep] using r1
      subst r
      have w2 := w1 b Hs1 H1 Post.refl k1 rfl
      exact ⟨b, rfl, w2⟩
    | _ => exact w1.elim) (Q := fun b H1 => if b = true then Q (.bl true) H1 else tb σ H1 Q) (we_bind (r1 := rB) (r2 := rD C) (fun x e1 y Hs1 H1 _ k1 r1 w1 => by
    have r1 : x = y := r1
    subst r1
    cases x with
    | true => exact we_ok w1 k1 (show Rep C.K C.sc _ (.bl true) _ by simp only [Rep])
    | false => exact hb Z Hs1 e1 σ H1 k1 Q w1) w))
theorem se_notV (ha : SE C ta ma) : SE C (tNotV ta) (mNotV ma) := fun Z Hs e σ H k Q w =>
  ha Z Hs e σ H k _ (we_bind (r2 := rB) (fun a e1 x Hs1 H1 _ k1 r1 w1 => by
    cases a with
    | bl b =>
      have r : x = .bl b := by simpa only [rD, Rep] using r1
      subst r
      have w2 := w1 b Hs1 H1 Post.refl k1 rfl
      exact ⟨b, rfl, w2⟩
    | _ => exact w1.elim) (Q := fun b H1 => Q (.bl (!b)) H1) (we_bind (r1 := rB) (r2 := rD C) (fun x e1 y Hs1 H1 _ k1 r1 w1 => by
    have r1 : x = y := r1
    subst r1
    exact we_ok w1 k1 (show Rep C.K C.sc _ (.bl (!x)) _ by simp only [Rep])) w))
theorem se_ite (h : ST C tt mt) (ha : SE C ta ma) (hb : SE C tb mb) : SE C (tIf tt ta tb) (mIte mt ma mb) := fun Z Hs e σ H k Q w =>
  h Z Hs e σ H k _ (we_bind (fun a e1 x Hs1 H1 _ k1 r1 w1 => by
    have r1 : a = x := r1
    subst r1
    cases a with
    | true => exact ha Z Hs1 e1 σ H1 k1 Q w1
    | false => exact hb Z Hs1 e1 σ H1 k1 Q w1) w)
theorem truv {K : PySem.W.Frag} {sc : Sc} {Hs H : Hp} {d : Dv} {x : V} {b : Bool} (l : Le Hs H) (r : Rep K sc Hs d x) (h : truthD d = some b) : TruV K x H b := by
  cases d with
  | bl c => simp only [Rep] at r; subst r; cases h; rfl
  | non => simp only [Rep] at r; subst r; cases h; rfl
  | int i => simp only [Rep] at r; subst r; cases h; rfl
  | str s =>
    simp only [Rep] at r; subst r
    simp only [truthD] at h
    split at h
    · rename_i hl
      cases h
      refine ⟨by rw [slen]; exact lim_line hl, ?_⟩
      rw [slen]
      cases s <;> simp <;> omega
    · cases h
  | tup ds =>
    simp only [Rep] at r
    obtain ⟨a, xs, rfl, hq, rs⟩ := r
    cases h
    refine .inr (.inl ⟨xs, sqt_le l hq, ?_⟩)
    have := reps_len rs
    cases ds <;> cases xs <;> simp_all
  | lst ds =>
    simp only [Rep] at r
    obtain ⟨a, xs, rfl, hq, rs⟩ := r
    cases h
    refine .inl ⟨xs, SqL.of (l _ _ hq), ?_⟩
    have := reps_len rs
    cases ds <;> cases xs <;> simp_all
  | scr ns => cases h
  | dct ks vs => cases h
  | exc c f d => cases h
theorem st_truth {K : PySem.W.Frag} (hK : C.K = K) (h : SE C te me) : ST C (fun σ H Q => te σ H fun x H' => ∃ k, TruV K x H' k ∧ Q k H') (mTruth me) := fun Z Hs e σ H k Q w =>
  h Z Hs e σ H k _ (we_bind (fun a e1 x Hs1 H1 _ k1 r1 w1 => by
    subst hK
    obtain ⟨b, hb, w2⟩ := we_of w1
    exact ⟨b, truv k1.le r1 hb, we_ok w2 k1 rfl⟩) w)
theorem st_truthO {K : PySem.W.Frag} {i : Nat} : ST C (fun σ H Q => tVar i σ H fun x H' => ∃ k, TruV K x H' k ∧ Q k H') (mOwnTruth i) := fun Z Hs e σ H k Q w => by
  unfold mOwnTruth at w
  split at w
  · rename_i j ds he
    obtain ⟨p, e1, _, ⟨xs, hx, rx⟩, _⟩ := k.own he
    refine ⟨_, e1, !ds.isEmpty, .inl ⟨xs, SqL.of hx, ?_⟩, we_ok w k rfl⟩
    have := reps_len rx
    cases ds <;> cases xs <;> simp_all
  · exact w.elim
end
end Ml

set_option linter.all false
set_option maxRecDepth 100000
set_option maxHeartbeats 1000000
namespace Ml
open L2
open PySem (Addr Str sizeLine)

/-- the slots that a statement does not store to -/
def Kp (A : List Nat) (σ σ' : L2.St) : Prop := σ'.length = σ.length ∧ ∀ j, j ∉ A → σ'[j]? = σ[j]?
theorem Kp.refl {A : List Nat} {σ : L2.St} : Kp A σ σ := ⟨rfl, fun _ _ => rfl⟩
theorem Kp.trans {A B : List Nat} {σ σ1 σ2 : L2.St} (a : Kp A σ σ1) (b : Kp B σ1 σ2) : Kp (A ++ B) σ σ2 := ⟨b.1.trans a.1, fun j h =>
  (b.2 j fun z => h (List.mem_append_right _ z)).trans (a.2 j fun z => h (List.mem_append_left _ z))⟩
theorem Kp.sub {A B : List Nat} {σ σ' : L2.St} (h : Kp A σ σ') (s : ∀ j, j ∈ A → j ∈ B) : Kp B σ σ' := ⟨h.1, fun j z => h.2 j fun q => z (s j q)⟩

def RetOk (C : Cc) (Hs H : Hp) : Slt → V → Prop
  | .fz d, v => Rep C.K C.sc Hs d v
  | .ow none o, v => ∃ p, v = .ref p ∧ Hs p = none ∧ C.H0 p = none ∧ OwnAt C.K C.sc Hs H p o
  | _, _ => False
def WS (C : Cc) (Z : Hp) (A : List Nat) (σ : L2.St) (Hs H : Hp) (r : Sr) (Dn : Ends) : Prop := match r with
  | .nx e' => ∀ Hs' σ' H', Post Hs H Hs' H' → StOk C Z Hs' e' σ' H' → Kp A σ σ' → Dn.nx σ' H'
  | .ct e' => ∀ Hs' σ' H', Post Hs H Hs' H' → StOk C Z Hs' e' σ' H' → Kp A σ σ' → Dn.ct σ' H'
  | .bk e' => ∀ Hs' σ' H', Post Hs H Hs' H' → StOk C Z Hs' e' σ' H' → Kp A σ σ' → Dn.bk σ' H'
  | .rt s e' => ∀ v Hs' σ' H', Post Hs H Hs' H' → StOk C Z Hs' e' σ' H' → RetOk C Hs' H' s v → Dn.rt v H'
  | .er x e' => ∀ Hs' σ' H' c od, Post Hs H Hs' H' → StOk C Z Hs' e' σ' H' → C.RE x c od Hs' H' → C.E c od σ' H'
  | .ud => False
def SS (C : Cc) (A : List Nat) (t : TS) (m : MS) : Prop := ∀ Z Hs e σ H, StOk C Z Hs e σ H → ∀ Dn, WS C Z A σ Hs H (m e) Dn → t Dn σ H

theorem ws_step {C : Cc} {Z : Hp} {A B : List Nat} {σ σ1 : L2.St} {Hs H Hs1 H1 : Hp} {r : Sr} {Dn : Ends} (p : Post Hs H Hs1 H1) (kp : ∀ σ2, Kp B σ1 σ2 → Kp A σ σ2) (h : WS C Z A σ Hs H r Dn) : WS C Z B σ1 Hs1 H1 r Dn := by
  cases r with
  | nx e => exact fun Hs' σ' H' p' k q => h Hs' σ' H' (p.trans p') k (kp _ q)
  | ct e => exact fun Hs' σ' H' p' k q => h Hs' σ' H' (p.trans p') k (kp _ q)
  | bk e => exact fun Hs' σ' H' p' k q => h Hs' σ' H' (p.trans p') k (kp _ q)
  | rt s e => exact fun v Hs' σ' H' p' k q => h v Hs' σ' H' (p.trans p') k q
  | er x e => exact fun Hs' σ' H' c od p' k q => h Hs' σ' H' c od (p.trans p') k q
  | ud => exact h
theorem we_go {α β : Type} {C : Cc} {Z : Hp} {A : List Nat} {σ : L2.St} {Hs H : Hp} {rel : α → Loc → β → Hp → Hp → Prop} {r : Rs α} {f : α → Loc → Sr} {Dn : Ends} {P : β → Hp → Prop}
    (k : ∀ a e1 b Hs1 H1, Post Hs H Hs1 H1 → StOk C Z Hs1 e1 σ H1 → rel a e1 b Hs1 H1 → WS C Z A σ Hs1 H1 (f a e1) Dn → P b H1) (h : WS C Z A σ Hs H (r.go f) Dn) : WE C Z σ Hs H rel r P := by
  cases r with
  | ok a e' => exact fun b Hs' H' p' s q => k a e' b Hs' H' p' s q (ws_step p' (fun _ z => z) h)
  | er x e' => exact fun Hs' H' c od p' s q => h Hs' σ H' c od p' s q
  | ud => exact h

section
variable {C : Cc} {A B : List Nat} {t u : TS} {m n : MS} {te ti : TE} {me mi : ME Dv}
theorem ss_mono (h : SS C A t m) (s : ∀ j, j ∈ A → j ∈ B) : SS C B t m := fun Z Hs e σ H k Dn w => h Z Hs e σ H k Dn (ws_step Post.refl (fun _ z => z.sub s) w)
theorem ss_nil : SS C [] tNext sNil := fun Z Hs e σ H k Dn w => w Hs σ H Post.refl k Kp.refl
theorem ss_brk : SS C [] tBreak sBrk := fun Z Hs e σ H k Dn w => w Hs σ H Post.refl k Kp.refl
theorem ss_cnt : SS C [] tCont sCnt := fun Z Hs e σ H k Dn w => w Hs σ H Post.refl k Kp.refl
theorem ss_seq (h : SS C A t m) (h' : SS C B u n) : SS C (A ++ B) (tSeq t u) (sSeq m n) := fun Z Hs e σ H k Dn w => by
  refine h Z Hs e σ H k { Dn with nx := u Dn } ?_
  have w : WS C Z (A ++ B) σ Hs H ((m e).then n) Dn := w
  cases q : m e with
  | nx e1 =>
    rw [q] at w
    exact fun Hs' σ' H' p' k' kp => h' Z Hs' e1 σ' H' k' Dn (ws_step p' (fun _ z => kp.trans z) w)
  | ct e1 => rw [q] at w; exact ws_step Post.refl (fun _ z => z.sub fun j => List.mem_append_left _) w
  | bk e1 => rw [q] at w; exact ws_step Post.refl (fun _ z => z.sub fun j => List.mem_append_left _) w
  | rt s e1 => rw [q] at w; exact w
  | er x e1 => rw [q] at w; exact w
  | ud => rw [q] at w; exact w
theorem ss_if {tt : TT} {mt : ME Bool} (hc : ST C tt mt) (h : SS C A t m) (h' : SS C B u n) : SS C (A ++ B) (tIfS tt t u) (sIf mt m n) := fun Z Hs e σ H k Dn w =>
  hc Z Hs e σ H k _ (we_go (fun a e1 x Hs1 H1 p1 k1 r1 w1 => by
    have r1 : a = x := r1
    subst r1
    cases a with
    | true => exact h Z Hs1 e1 σ H1 k1 Dn (ws_step Post.refl (fun _ z => z.sub fun j => List.mem_append_left _) w1)
    | false => exact h' Z Hs1 e1 σ H1 k1 Dn (ws_step Post.refl (fun _ z => z.sub fun j => List.mem_append_right _) w1)) w)

/-! ### targets -/
def SG (C : Cc) (A : List Nat) (g : TG) (mg : MG) : Prop := ∀ Z Hs e σ H, StOk C Z Hs e σ H → ∀ d v e', Rep C.K C.sc Hs d v → mg d e = some e' → ∀ Q, (∀ σ', StOk C Z Hs e' σ' H → Kp A σ σ' → Q σ' H) → g v σ H Q
def SGs (C : Cc) (A : List Nat) (g : TGs) (mg : List MG) : Prop := ∀ Z Hs e σ H, StOk C Z Hs e σ H → ∀ ds vs e', Reps C.K C.sc Hs ds vs → gTs mg ds e = some e' → ∀ Q, (∀ σ', StOk C Z Hs e' σ' H → Kp A σ σ' → Q σ' H) → g vs σ H Q
theorem kp_set {σ : L2.St} {i : Nat} {x : Option V} : Kp [i] σ (σ.set i x) := ⟨List.length_set .., fun j h => by
  rw [List.getElem?_set_ne (fun z => h (by rw [z]; exact List.mem_singleton.mpr rfl))]⟩
theorem sg_name {i : Nat} : SG C [i] (gName i) (gN i) := fun Z Hs e σ H k d v e' r h Q q => by
  unfold gN at h
  split at h
  · cases h
    exact q _ (k.setF r) kp_set
  · cases h
theorem sgs_nil : SGs C [] gNil [] := fun Z Hs e σ H k ds vs e' r h Q q => by
  cases ds with
  | nil => simp only [Reps] at r; subst r; cases h; exact ⟨rfl, q σ k Kp.refl⟩
  | cons d ds => cases h
theorem sgs_cons {g : TG} {mg : MG} {gs : TGs} {mgs : List MG} (h : SG C A g mg) (hs : SGs C B gs mgs) : SGs C (A ++ B) (gCons g gs) (mg :: mgs) := fun Z Hs e σ H k ds vs e' r hm Q q => by
  cases ds with
  | nil => cases hm
  | cons d ds =>
    simp only [Reps] at r
    obtain ⟨v, vr, rfl, r1, r2⟩ := r
    obtain ⟨e1, h1, h2⟩ := Option.bind_eq_some_iff.mp hm
    exact ⟨v, vr, rfl, h Z Hs e σ H k d v e1 r1 h1 _ fun σ1 k1 kp1 => hs Z Hs e1 σ1 H k1 ds vr e' r2 h2 Q fun σ2 k2 kp2 => q σ2 k2 (kp1.trans kp2)⟩
theorem gts_len : ∀ {mgs : List MG} {ds : List Dv} {e e' : Loc}, gTs mgs ds e = some e' → ds.length = mgs.length
  | [], [], _, _, _ => rfl
  | [], _ :: _, _, _, h => by cases h
  | _ :: _, [], _, _, h => by cases h
  | g :: gs, d :: ds, e, e', h => by
    obtain ⟨e1, h1, h2⟩ := Option.bind_eq_some_iff.mp h
    simp [gts_len h2]
theorem sg_tup {gs : TGs} {mgs : List MG} {N : Nat} (h : SGs C A gs mgs) (hn : N = mgs.length := by rfl) : SG C A (gTup C.K N gs) (gT mgs) := fun Z Hs e σ H k d v e' r hm Q q => by
  cases d with
  | tup ds =>
    simp only [Rep] at r
    obtain ⟨a, xs, rfl, hq, rs⟩ := r
    exact ⟨a, xs, rfl, sqt_le k.le hq, by rw [reps_len rs, gts_len hm, hn], h Z Hs e σ H k ds xs e' rs hm Q q⟩
  | _ => cases hm
theorem ss_set {g : TG} {mg : MG} (h : SE C te me) (hg : SG C A g mg) : SS C A (tAsg te g) (sSet me mg) := fun Z Hs e σ H k Dn w =>
  h Z Hs e σ H k _ (we_go (fun d e1 v Hs1 H1 p1 k1 r1 w1 => by
    cases q : mg d e1 with
    | none => rw [q] at w1; exact w1.elim
    | some e2 => rw [q] at w1; exact hg Z Hs1 e1 σ H1 k1 d v e2 r1 q _ fun σ' k' kp => w1 Hs1 σ' H1 Post.refl k' kp) w)
theorem ss_setO {i : Nat} {mo : ME Ob} (h : SEO C te mo) : SS C [i] (tAsg te (gName i)) (sSetO i mo) := fun Z Hs e σ H k Dn w =>
  h Z Hs e σ H k _ (we_go (fun o e1 v Hs1 H1 p1 k1 r1 w1 => by
    obtain ⟨p, rfl, h1, ⟨h2, hz⟩, ho, hf⟩ := r1
    split at w1
    · exact w1 Hs1 _ H1 Post.refl (k1.setO h2 hz h1 ho hf) kp_set
    · exact w1.elim) w)
theorem ss_aug {i : Nat} {ip : TIp} {f : Dv → Dv → Option Dv} (hr : RV C ip f) (h : SE C te me) : SS C [i] (tAug i te ip) (sAug i f me) := fun Z Hs e σ H k Dn w => by
  unfold sAug at w
  split at w
  · rename_i d hd
    obtain ⟨x, e1, r⟩ := k.fz hd
    refine ⟨x, e1, h Z Hs e σ H k _ (we_go (fun b e1 y Hs1 H1 p1 k1 r1 w1 => ?_) w)⟩
    split at w1
    · rename_i c hc
      exact hr Z Hs1 e1 σ H1 k1 x y d b c _ (rep_le p1.le r) r1 hc fun z Hs' H' p' k' r' => w1 Hs' _ H' p' (k'.setF r') kp_set
    · exact w1.elim
  · exact w.elim
theorem ss_drop (h : SE C te me) : SS C [] (tDrop te) (sDrop me) := fun Z Hs e σ H k Dn w =>
  h Z Hs e σ H k _ (we_go (A := []) (f := fun _ e => .nx e) (Dn := Dn) (fun d e1 v Hs1 H1 p1 k1 r1 w1 => w1 Hs1 σ H1 Post.refl k1 Kp.refl) w)
theorem ow_of {x : Option Slt} (h : isOw x = true) : ∃ j o, x = some (.ow j o) := by
  cases x with
  | none => cases h
  | some s => cases s with
    | ow j o => exact ⟨j, o, rfl⟩
    | un => cases h
    | fz d => cases h
theorem ss_app {i : Nat} {K : PySem.W.Frag} (h : SE C te me) : SS C [] (tDrop (tBM K "list" rAppend (tVar i) (tCons te tNil))) (sApp i me) := fun Z Hs e σ H k Dn w => by
  unfold sApp at w
  split at w
  · rename_i ho
    obtain ⟨j, o, he⟩ := ow_of ho
    obtain ⟨p, e1, hn, own, _⟩ := k.own he
    cases o with
    | lst ds0 =>
    obtain ⟨xs0, hx0, _⟩ := own
    refine ⟨_, e1, .inl ⟨rfl, xs0, SqL.of hx0⟩, h Z Hs e σ H k _ (we_go (fun d e2 v Hs2 H2 p2 k2 r2 w2 => ?_) w)⟩
    split at w2
    · rename_i j2 ds he2
      obtain ⟨p', e1', _, ⟨xs, hx, rx⟩, _⟩ := k2.own he2
      rw [e1] at e1'; cases e1'
      split at w2
      · rename_i hl
        refine ⟨p, xs, v, rfl, rfl, hx, by rw [reps_len rx]; exact lim_lt hl, w2 Hs2 σ _ Post.newO (k2.mut he2 e1 ⟨_, upd_same, reps_app rx (reps_cons r2 reps_nil)⟩) Kp.refl⟩
      · exact w2.elim
    · exact w2.elim
  · exact w.elim
theorem ixn_eq (n : Nat) (i : Int) : ixn n i = ixN n i := rfl
theorem ss_put {i : Nat} (h : SE C te me) (hi : SE C ti mi) : SS C [] (tAsg te (gSub (tVar i) ti rSetL)) (sPut i mi me) := fun Z Hs e σ H k Dn w =>
  h Z Hs e σ H k _ (we_go (fun d e1 v Hs1 H1 p1 k1 r1 w1 => by
    split at w1
    · rename_i ho
      obtain ⟨j, o, he⟩ := ow_of ho
      obtain ⟨p, s1, hn, own, _⟩ := k1.own he
      refine ⟨_, s1, hi Z Hs1 e1 σ H1 k1 _ (we_go (fun b e2 y Hs2 H2 p2 k2 r2 w2 => ?_) w1)⟩
      split at w2
      · rename_i j2 ds kk he2
        obtain ⟨p', s1', _, ⟨xs, hx, rx⟩, _⟩ := k2.own he2
        rw [s1] at s1'; cases s1'
        have r2 : y = .int kk := by simpa only [rD, Rep] using r2
        subst r2
        split at w2
        · rename_i n hn2
          refine ⟨p, xs, kk, n, rfl, rfl, hx, by rw [reps_len rx]; exact hn2, ?_⟩
          exact w2 Hs2 σ _ Post.newO (k2.mut he2 s1 ⟨_, upd_same, reps_set rx (rep_le p2.le r1)⟩) Kp.refl
        · exact w2.elim
      · exact w2.elim
    · exact w1.elim) w)
theorem getI_at {ds : List Dv} {k : Int} {a : Dv} {Hs : Hp} {xs : List V} (h : getI ds k = some a) (r : Reps C.K C.sc Hs ds xs) : ∃ v, atI xs k = some v ∧ Rep C.K C.sc Hs a v := by
  unfold getI at h
  obtain ⟨n, h1, h2⟩ := Option.bind_eq_some_iff.mp h
  obtain ⟨v, e1, e2⟩ := reps_get r h2
  refine ⟨v, ?_, e2⟩
  unfold atI
  rw [reps_len r, ← ixn_eq, h1]
  exact e1
theorem ss_putAug {i : Nat} {ip : TIp} {f : Dv → Dv → Option Dv} {K : PySem.W.Frag} (hi : SE C ti mi) (hr : RV C ip f) (h : SE C te me) : SS C [] (tAugS (tVar i) ti te (rIxL K) ip rSetL) (sPutAug i mi f me) := fun Z Hs e σ H k Dn w => by
  unfold sPutAug at w
  split at w
  · rename_i ho
    obtain ⟨j, o, he⟩ := ow_of ho
    obtain ⟨p, s1, hn, own, _⟩ := k.own he
    refine ⟨_, s1, hi Z Hs e σ H k _ (we_go (fun b e2 y Hs2 H2 p2 k2 r2 w2 => ?_) w)⟩
    split at w2
    · rename_i j2 ds kk he2
      obtain ⟨p', s1', _, ⟨xs, hx, rx⟩, _⟩ := k2.own he2
      rw [s1] at s1'; cases s1'
      have r2 : y = .int kk := by simpa only [rD, Rep] using r2
      subst r2
      split at w2
      · rename_i a ha
        obtain ⟨va, ha1, ha2⟩ := getI_at ha rx
        refine ⟨p, xs, kk, va, rfl, rfl, SqL.of hx, ha1, h Z Hs2 e2 σ H2 k2 _ (we_go (fun b e3 z Hs3 H3 p3 k3 r3 w3 => ?_) w2)⟩
        split at w3
        · rename_i c j3 ds3 hc he3
          split at w3
          · rename_i n hn3
            refine hr Z Hs3 e3 σ H3 k3 va z a b c _ (rep_le p3.le ha2) r3 hc fun x5 Hs5 H5 p5 k5 r5 => ?_
            obtain ⟨p5', s5, _, ⟨xs5, hx5, rx5⟩, _⟩ := k5.own he3
            rw [s1] at s5; cases s5
            refine ⟨p, xs5, kk, n, rfl, rfl, hx5, by rw [reps_len rx5]; exact hn3, ?_⟩
            exact w3 Hs5 σ _ (p5.trans Post.newO) (k5.mut he3 s1 ⟨_, upd_same, reps_set rx5 r5⟩) Kp.refl
          · exact w3.elim
        · exact w3.elim
      · exact w2.elim
    · exact w2.elim
  · exact w.elim
theorem ss_ret (h : SE C te me) : SS C [] (tRet te) (sRet me) := fun Z Hs e σ H k Dn w =>
  h Z Hs e σ H k _ (we_go (A := []) (f := fun d e => .rt (.fz d) e) (Dn := Dn) (fun d e1 v Hs1 H1 p1 k1 r1 w1 => w1 v Hs1 σ H1 Post.refl k1 r1) w)
theorem ss_retO {mo : ME Ob} (h : SEO C te mo) : SS C [] (tRet te) (sRetO mo) := fun Z Hs e σ H k Dn w =>
  h Z Hs e σ H k _ (we_go (fun o e1 v Hs1 H1 p1 k1 r1 w1 => by
    obtain ⟨p, rfl, h1, ⟨h2, hz⟩, ho, hf⟩ := r1
    exact w1 _ Hs1 σ H1 Post.refl k1 ⟨p, rfl, h1, h2, ho⟩) w)
theorem ss_retN : SS C [] tRetN (sRet (mC .non)) := fun Z Hs e σ H k Dn w => w _ Hs σ H Post.refl k (by show Rep C.K C.sc Hs .non _; simp only [Rep])
theorem ss_retV {i : Nat} : SS C [] (tRet (tVar i)) (sRetV i) := fun Z Hs e σ H k Dn w => by
  unfold sRetV at w
  split at w
  · rename_i o he
    obtain ⟨p, s1, hn, own, h0⟩ := k.own he
    exact ⟨_, s1, w _ Hs σ H Post.refl k ⟨p, rfl, hn, h0, own⟩⟩
  · exact w.elim

/-! ### for -/
def IterOk (C : Cc) (J : It) (Hs0 : Hp) (ds : List Dv) : Prop := ∀ (k : Nat) Z Hs1 e1 σ1 H1, StOk C Z Hs1 e1 σ1 H1 → Le Hs0 Hs1 →
  (∀ d, ds[k]? = some d → J.go k H1 ∧ ∀ x H2, J.yld k H1 x H2 → ∃ Hs2, Post Hs1 H1 Hs2 H2 ∧ StOk C Z Hs2 e1 σ1 H2 ∧ Rep C.K C.sc Hs2 d x) ∧ (ds.length ≤ k → J.stop k H1)
def rI (C : Cc) : List Dv → Loc → It → Hp → Hp → Prop := fun ds _ J Hs' _ => IterOk C J Hs' ds
def SI (C : Cc) (wi : TI) (mi : ME (List Dv)) : Prop := ∀ Z Hs e σ H, StOk C Z Hs e σ H → ∀ R, WE C Z σ Hs H (rI C) (mi e) R → wi σ H R
theorem drop_cons {α : Type} {ds : List α} {i : Nat} (h : i < ds.length) : ∃ d, ds[i]? = some d ∧ ds.drop i = d :: ds.drop (i + 1) :=
  ⟨ds[i], List.getElem?_eq_getElem h, List.drop_eq_getElem_cons h⟩
theorem ss_for {wi : TI} {mi : ME (List Dv)} {g : TG} {mg : MG} (hi : SI C wi mi) (hg : SG C A g mg) (hb : SS C B t m) : SS C (A ++ B) (tFor wi g t) (sFor mi mg m) := fun Z Hs e σ H k Dn w =>
  hi Z Hs e σ H k _ (we_go (fun ds e1 J Hs1 H1 p1 k1 it w1 => by
    refine ⟨fun i mm σ' H' => mm = ds.length - i ∧ i ≤ ds.length ∧ ∃ Hs' e', Post Hs1 H1 Hs' H' ∧ StOk C Z Hs' e' σ' H' ∧ WS C Z (A ++ B) σ' Hs' H' (loop mg m (ds.drop i) e') Dn,
      ⟨ds.length, rfl, Nat.zero_le _, Hs1, e1, Post.refl, k1, w1⟩, ?_⟩
    rintro i mm σ' H' ⟨rfl, hle, Hs', e', p', k', w'⟩
    obtain ⟨itg, its⟩ := it i Z Hs' e' σ' H' k' p'.le
    by_cases hlt : i < ds.length
    · obtain ⟨d, hd, hdr⟩ := drop_cons hlt
      obtain ⟨go, yl⟩ := itg d hd
      rw [hdr] at w'
      refine .inr ⟨go, fun σ3 H3 => ∃ Hs3 e3, Post Hs1 H1 Hs3 H3 ∧ StOk C Z Hs3 e3 σ3 H3 ∧ WS C Z (A ++ B) σ3 Hs3 H3 (loop mg m (ds.drop (i + 1)) e3) Dn, fun σ3 H3 h3 => ⟨ds.length - (i + 1), by omega, rfl, hlt, h3⟩, fun x H2 hy => ?_⟩
      obtain ⟨Hs2, p2, k2, r2⟩ := yl x H2 hy
      have w2 : WS C Z (A ++ B) σ' Hs' H' (match mg d e' with
        | none => .ud
        | some e => match m e with
          | .nx e => loop mg m (ds.drop (i + 1)) e
          | .ct e => loop mg m (ds.drop (i + 1)) e
          | .bk e => .nx e
          | r => r) Dn := w'
      cases q : mg d e' with
      | none => rw [q] at w2; exact w2.elim
      | some e2 =>
        rw [q] at w2
        refine hg Z Hs2 e' σ' H2 k2 d x e2 r2 q _ fun σ2 k3 kp3 => ?_
        refine hb Z Hs2 e2 σ2 H2 k3 _ ?_
        have cvt : ∀ {σ4 : L2.St} {r : Sr} {Hs4 H4 : Hp} {D2 : Ends}, Post Hs2 H2 Hs4 H4 → Kp B σ2 σ4 → WS C Z (A ++ B) σ' Hs' H' r D2 → WS C Z (A ++ B) σ4 Hs4 H4 r D2 := fun {σ4 r Hs4 H4 D2} p4 kp4 h4 =>
          ws_step (p2.trans p4) (fun _ z => ⟨z.1.trans (kp4.1.trans kp3.1), fun j hj => ((z.2 j hj).trans (kp4.2 j fun q => hj (List.mem_append_right _ q))).trans (kp3.2 j fun q => hj (List.mem_append_left _ q))⟩) h4
        cases q2 : m e2 with
        | nx e3 => simp only [q2] at w2; exact fun Hs4 σ4 H4 p4 k4 kp4 => ⟨Hs4, e3, (p'.trans p2).trans p4, k4, cvt p4 kp4 w2⟩
        | ct e3 => simp only [q2] at w2; exact fun Hs4 σ4 H4 p4 k4 kp4 => ⟨Hs4, e3, (p'.trans p2).trans p4, k4, cvt p4 kp4 w2⟩
        | bk e3 => simp only [q2] at w2; exact fun Hs4 σ4 H4 p4 k4 kp4 => w2 Hs4 σ4 H4 (p2.trans p4) k4 (kp3.trans kp4)
        | rt s e3 => simp only [q2] at w2; exact fun v Hs4 σ4 H4 p4 k4 r4 => w2 v Hs4 σ4 H4 (p2.trans p4) k4 r4
        | er x e3 => simp only [q2] at w2; exact fun Hs4 σ4 H4 c od p4 k4 r4 => w2 Hs4 σ4 H4 c od (p2.trans p4) k4 r4
        | ud => simp only [q2] at w2; exact w2.elim
    · have e0 : ds.drop i = [] := List.drop_eq_nil_of_le (by omega)
      rw [e0] at w'
      exact .inl ⟨its (by omega), w' Hs' σ' H' Post.refl k' Kp.refl⟩) w)
end
end Ml

set_option linter.all false
set_option maxRecDepth 100000
set_option maxHeartbeats 1000000
namespace Ml
open L2
open PySem (Addr Str sizeLine)
section
variable {C : Cc} {te ta tb : TE} {me ma mb : ME Dv}

/-! ### what is walked -/
theorem iter_same {J : It} {Hs0 : Hp} {ds : List Dv} (h : ∀ (k : Nat) Z Hs1 e1 σ1 H1, StOk C Z Hs1 e1 σ1 H1 → Le Hs0 Hs1 → (∀ d, ds[k]? = some d → J.go k H1 ∧ ∀ x H2, J.yld k H1 x H2 → H2 = H1 ∧ Rep C.K C.sc Hs1 d x) ∧ (ds.length ≤ k → J.stop k H1)) : IterOk C J Hs0 ds := fun k Z Hs1 e1 σ1 H1 k1 l =>
  ⟨fun d hd => ⟨((h k Z Hs1 e1 σ1 H1 k1 l).1 d hd).1, fun x H2 hy => by
    obtain ⟨rfl, r⟩ := ((h k Z Hs1 e1 σ1 H1 k1 l).1 d hd).2 x H2 hy
    exact ⟨Hs1, Post.refl, k1, r⟩⟩, (h k Z Hs1 e1 σ1 H1 k1 l).2⟩
theorem iter_list {Hs0 : Hp} {a : Addr} {xs : List V} {ds : List Dv} (h : Hs0 a = some (.lst xs)) (r : Reps C.K C.sc Hs0 ds xs) : IterOk C (Itl C.K a) Hs0 ds := iter_same fun k Z Hs1 e1 σ1 H1 k1 l => by
  have h1 : SqL C.K H1 a xs := SqL.of (k1.le _ _ (l _ _ h))
  refine ⟨fun d hd => ?_, fun hk => ⟨xs, h1, by rw [reps_len r]; exact hk⟩⟩
  obtain ⟨v, e1, e2⟩ := reps_get r hd
  refine ⟨⟨xs, v, h1, e1⟩, fun x H2 hy => ⟨hy.1, ?_⟩⟩
  have := hy.2 xs h1
  rw [e1] at this; cases this
  exact rep_le l e2
theorem iter_tup {Hs0 : Hp} {a : Addr} {xs : List V} {ds : List Dv} (h : SqT C.K Hs0 a xs) (r : Reps C.K C.sc Hs0 ds xs) : IterOk C (Itt C.K a) Hs0 ds := iter_same fun k Z Hs1 e1 σ1 H1 k1 l => by
  have h1 : SqT C.K H1 a xs := sqt_le k1.le (sqt_le l h)
  refine ⟨fun d hd => ?_, fun hk => ⟨xs, h1, by rw [reps_len r]; exact hk⟩⟩
  obtain ⟨v, e1, e2⟩ := reps_get r hd
  refine ⟨⟨xs, v, h1, e1⟩, fun x H2 hy => ⟨hy.1, ?_⟩⟩
  have := hy.2 xs h1
  rw [e1] at this; cases this
  exact rep_le l e2
theorem si_list {K : PySem.W.Frag} (hK : C.K = K) (h : SE C te me) : SI C (iList K te) (mIt itL me) := fun Z Hs e σ H k R w =>
  h Z Hs e σ H k _ (we_bind (fun a e1 x Hs1 H1 _ k1 r1 w1 => by
    subst hK
    obtain ⟨ds, hd, w2⟩ := we_of w1
    cases a with
    | lst ds' =>
      cases hd
      simp only [rD, Rep] at r1
      obtain ⟨p, xs, rfl, hx, rx⟩ := r1
      exact ⟨p, rfl, ⟨xs, SqL.of (k1.le _ _ hx)⟩, we_ok w2 k1 (iter_list hx rx)⟩
    | _ => cases hd) w)
theorem si_tup {K : PySem.W.Frag} (hK : C.K = K) (h : SE C te me) : SI C (iTup K te) (mIt itT me) := fun Z Hs e σ H k R w =>
  h Z Hs e σ H k _ (we_bind (fun a e1 x Hs1 H1 _ k1 r1 w1 => by
    subst hK
    obtain ⟨ds, hd, w2⟩ := we_of w1
    cases a with
    | tup ds' =>
      cases hd
      simp only [rD, Rep] at r1
      obtain ⟨p, xs, rfl, hx, rx⟩ := r1
      exact ⟨p, rfl, ⟨xs, sqt_le k1.le hx⟩, we_ok w2 k1 (iter_tup hx rx)⟩
    | _ => cases hd) w)
theorem si_str (h : SE C te me) : SI C (iStr te) (mIt itS me) := fun Z Hs e σ H k R w =>
  h Z Hs e σ H k _ (we_bind (fun a e1 x Hs1 H1 _ k1 r1 w1 => by
    obtain ⟨ds, hd, w2⟩ := we_of w1
    cases a with
    | str s =>
      cases hd
      have r1 : x = .str (sOf s) := by simpa only [rD, Rep] using r1
      subst r1
      refine ⟨sOf s, rfl, we_ok w2 k1 (iter_same fun k Z Hs1 e1 σ1 H1 k1 l => ?_)⟩
      have es : (sOf s).cps.size = s.length := by simp
      refine ⟨fun d hd => ?_, fun hk => ?_⟩
      · rw [List.getElem?_map] at hd
        obtain ⟨c, hc, rfl⟩ := Option.map_eq_some_iff.mp hd
        refine ⟨by show k < (sOf s).cps.size; rw [es]; exact (List.getElem?_eq_some_iff.mp hc).1, fun x H2 hy => ⟨hy.1, ?_⟩⟩
        obtain ⟨c', h1, h2⟩ := hy.2
        have : (sOf s).cps[k]? = s[k]? := by simp
        rw [this, hc] at h1; cases h1
        simp only [Rep]; exact h2
      · show (sOf s).cps.size ≤ k
        rw [es]; simpa using hk
    | _ => cases hd) w)
theorem iter_rng {Hs0 : Hp} {lo : Int} {n : Nat} : IterOk C (Itr lo n) Hs0 ((List.range n).map fun (k : Nat) => Dv.int (lo + (k : Int))) := iter_same fun k Z Hs1 e1 σ1 H1 k1 l => by
  refine ⟨fun d hd => ?_, fun hk => by show n ≤ k; simpa using hk⟩
  rw [List.getElem?_map] at hd
  obtain ⟨c, hc, rfl⟩ := Option.map_eq_some_iff.mp hd
  have hlt : k < n := by simpa using (List.getElem?_eq_some_iff.mp hc).1
  rw [List.getElem?_range hlt] at hc; cases hc
  exact ⟨hlt, fun x H2 hy => ⟨hy.1, by simp only [Rep]; exact hy.2⟩⟩
theorem itR_some {lo hi : Int} {ds : List Dv} (h : itR lo hi = some ds) : (-big ≤ lo ∧ lo ≤ big ∧ -big ≤ hi ∧ hi ≤ big) ∧ ds = (List.range (hi - lo).toNat).map fun (k : Nat) => Dv.int (lo + (k : Int)) := by
  unfold itR at h
  split at h
  · rename_i hc; cases h; exact ⟨hc, rfl⟩
  · cases h
theorem si_rng1 (h : SE C te me) : SI C (iRng1 (tCons te tNil)) (mRg1 me) := fun Z Hs e σ H k R w =>
  h Z Hs e σ H k _ (we_bind (fun a e1 x Hs1 H1 _ k1 r1 w1 => by
    cases a with
    | int n =>
      have r1 : x = .int n := by simpa only [rD, Rep] using r1
      subst r1
      obtain ⟨ds, hd, w2⟩ := we_of w1
      obtain ⟨⟨b1, b2, b3, b4⟩, rfl⟩ := itR_some hd
      unfold big at b3 b4
      refine ⟨n, rfl, by omega, by omega, we_ok w2 k1 ?_⟩
      have := iter_rng (C := C) (Hs0 := Hs1) (lo := 0) (n := n.toNat)
      rwa [Int.sub_zero]
    | _ => exact w1.elim) w)
theorem si_rng2 (h : SE C ta ma) (h' : SE C tb mb) : SI C (iRng2 (tCons ta (tCons tb tNil))) (mRg2 ma mb) := fun Z Hs e σ H k R w =>
  h Z Hs e σ H k _ (we_bind (fun a e1 x Hs1 H1 _ k1 r1 w1 => h' Z Hs1 e1 σ H1 k1 _ (we_bind (fun b e2 y Hs2 H2 p2 k2 r2 w2 => by
    cases a with
    | int n =>
      cases b with
      | int m =>
        have r1 : x = .int n := by simpa only [rD, Rep] using r1
        have r2 : y = .int m := by simpa only [rD, Rep] using r2
        subst r1; subst r2
        obtain ⟨ds, hd, w3⟩ := we_of w2
        obtain ⟨⟨b1, b2, b3, b4⟩, rfl⟩ := itR_some hd
        unfold big at b1 b2 b3 b4
        exact ⟨n, m, rfl, ⟨by omega, by omega, by omega, by omega⟩, we_ok w3 k2 iter_rng⟩
      | _ => exact w2.elim
    | _ => exact w2.elim) w1)) w)
theorem si_own {K : PySem.W.Frag} (hK : C.K = K) {i : Nat} : SI C (iList K (tVar i)) (mItF i) := fun Z Hs e σ H k R w => by
  subst hK
  unfold mItF at w
  split at w
  · rename_i ds he
    obtain ⟨p, e1, hn, ⟨xs, hx, rx⟩, h0⟩ := k.own he
    refine ⟨_, e1, p, rfl, ⟨xs, SqL.of hx⟩, ?_⟩
    have hi : i < e.length := (List.getElem?_eq_some_iff.mp he).1
    have hn' : ∀ (i' : Nat) j u, (e.set i .un)[i']? = some (.ow j u) → (σ.set i (some (V.ref p)))[i']? ≠ some (some (.ref p)) := fun i' j u h1 h2 => by
      have z : i ≠ i' := fun z => by subst z; rw [List.getElem?_set_self hi] at h1; cases h1
      rw [List.getElem?_set_ne z] at h1 h2
      exact z (k.sep i i' none j _ u p he h1 e1 h2)
    have k1 := (k.setU (i := i) (x := some (V.ref p))).freeze hx h0 hn (k.hids i none (.lst ds) p he e1) hn'
    have es : σ.set i (some (V.ref p)) = σ := by
      apply List.ext_getElem?
      intro j
      by_cases z : i = j
      · subst z; rw [List.getElem?_set_self (by rw [k.len]; exact hi)]; exact e1.symm
      · rw [List.getElem?_set_ne z]
    have r : Rep C.K C.sc (upd Hs p (.lst xs)) (.lst ds) (.ref p) := by
      simp only [Rep]
      exact ⟨p, xs, rfl, upd_same, reps_le (Le.new hn) rx⟩
    have k2 := k1.setF (i := i) r
    rw [List.set_set, List.set_set, es] at k2
    exact w _ _ H ⟨Le.new hn, fun _ z => z⟩ k2 (iter_list upd_same (reps_le (Le.new hn) rx))
  · exact w.elim

/-! ### comprehensions -/
theorem stok_wipe {Z Hs : Hp} {e : Loc} {σ : L2.St} {H : Hp} (k : StOk C Z Hs e σ H) : ∀ vs : List Nat, StOk C Z Hs (wipeE e vs) (wipe σ vs) H
  | [] => k
  | v :: vs => (stok_wipe k vs).setU
theorem wipe_get {σ : L2.St} : ∀ {vs : List Nat} {j : Nat}, j ∉ vs → (wipe σ vs)[j]? = σ[j]?
  | [], _, _ => rfl
  | v :: vs, j, h => by
    unfold wipe
    rw [List.getElem?_set_ne (fun z => h (by rw [z]; exact List.mem_cons_self)), wipe_get fun z => h (List.mem_cons_of_mem _ z)]
theorem backE_len (e0 e : Loc) : ∀ vs : List Nat, (backE e0 e vs).length = e.length
  | [] => rfl
  | v :: vs => by unfold backE; rw [List.length_set, backE_len e0 e vs]
theorem backE_out {e0 e : Loc} : ∀ {vs : List Nat} {j : Nat}, j ∉ vs → (backE e0 e vs)[j]? = e[j]?
  | [], _, _ => rfl
  | v :: vs, j, h => by
    unfold backE
    rw [List.getElem?_set_ne (fun z => h (by rw [z]; exact List.mem_cons_self)), backE_out fun z => h (List.mem_cons_of_mem _ z)]
theorem backE_in {e0 e : Loc} : ∀ {vs : List Nat} {j : Nat} {s : Slt}, j ∈ vs → (backE e0 e vs)[j]? = some s → s = e0[j]?.getD .un
  | [], _, _, h, _ => absurd h List.not_mem_nil
  | v :: vs, j, s, h, q => by
    unfold backE at q
    by_cases z : v = j
    · subst z
      have hl : v < (backE e0 e vs).length := by
        have := (List.getElem?_eq_some_iff.mp q).1; rw [List.length_set] at this; exact this
      rw [List.getElem?_set_self hl] at q
      exact (Option.some.inj q).symm
    · rw [List.getElem?_set_ne z] at q
      exact backE_in ((List.mem_cons.mp h).resolve_left (Ne.symm z)) q
theorem noOw_at {e : Loc} {vs : List Nat} (h : noOw e vs = true) {j : Nat} (hj : j ∈ vs) : e[j]? = some .un ∨ ∃ d, e[j]? = some (.fz d) := by
  have q := List.all_eq_true.mp h j hj
  split at q
  · exact .inl (by assumption)
  · exact .inr ⟨_, by assumption⟩
  · cases q
theorem stok_back {Z Hs1 Hs2 : Hp} {e1 e2 : Loc} {σ : L2.St} {H1 H2 : Hp} {vs : List Nat} (k1 : StOk C Z Hs1 e1 σ H1) (l : Le Hs1 Hs2) (k2 : StOk C Z Hs2 e2 (wipe σ vs) H2) (hn : noOw e1 vs = true) : StOk C Z Hs2 (backE e1 e2 vs) σ H2 := by
  have notow : ∀ {j j' o}, (backE e1 e2 vs)[j]? = some (Slt.ow j' o) → j ∉ vs := fun {j j' o} h hj => by
    have q := backE_in hj h
    rcases noOw_at hn hj with z | ⟨d, z⟩ <;> (rw [z] at q; cases q)
  refine ⟨?_, k2.le, fun i s hs => ?_, fun a b j j' o o' p h1 h2 h3 h4 => ?_, k2.frame, k2.dom, k2.news, k2.par, k2.hid, fun i j o p h1 h2 => ?_⟩
  · have := k2.len
    rw [wipe_length] at this
    rw [backE_len]; exact this
  · by_cases hi : i ∈ vs
    · have q := backE_in hi hs
      rcases noOw_at hn hi with z | ⟨d, z⟩
      · rw [z] at q; subst q; trivial
      · rw [z] at q
        have q : s = .fz d := q
        subst q
        obtain ⟨v, a1, a2⟩ := k1.fz z
        exact ⟨v, a1, rep_le l a2⟩
    · rw [backE_out hi] at hs
      have q := k2.slot i s hs
      rw [wipe_get hi] at q
      exact q
  · have n1 := notow h1
    have n2 := notow h2
    rw [backE_out n1] at h1
    rw [backE_out n2] at h2
    exact k2.sep a b j j' o o' p h1 h2 (by rw [wipe_get n1]; exact h3) (by rw [wipe_get n2]; exact h4)
  · have n1 := notow h1
    rw [backE_out n1] at h1
    exact k2.hids i j o p h1 (by rw [wipe_get n1]; exact h2)
theorem wipe_idem {σ σ2 : L2.St} {vs : List Nat} (h : Kp vs (wipe σ vs) σ2) (hl : σ2.length = σ.length) : wipe σ2 vs = wipe σ vs := by
  apply List.ext_getElem?
  intro j
  by_cases hj : j ∈ vs
  · have aux : ∀ {τ : L2.St} {vs : List Nat} {j : Nat}, j ∈ vs → (wipe τ vs)[j]? = if j < τ.length then some none else none := by
      intro τ vs
      induction vs with
      | nil => intro j h; cases h
      | cons v vs ih =>
        intro j h
        unfold wipe
        by_cases z : v = j
        · subst z
          by_cases hl : v < τ.length
          · rw [List.getElem?_set_self (by rw [wipe_length]; exact hl), if_pos hl]
          · rw [if_neg hl]
            apply List.getElem?_eq_none
            rw [List.length_set, wipe_length]; omega
        · rw [List.getElem?_set_ne z]
          exact ih ((List.mem_cons.mp h).resolve_left (Ne.symm z))
    rw [aux hj, aux hj, hl]
  · rw [wipe_get hj, wipe_get hj]
    have := h.2 j hj
    rw [wipe_get hj] at this
    exact this
theorem stok_zr {Z Hs H : Hp} {e : Loc} {σ σ' : L2.St} (k : StOk C Z Hs e σ H) (h : σ = σ') : StOk C Z Hs e σ' H := h ▸ k
theorem seo_lc {wi : TI} {mi : ME (List Dv)} {g : TG} {mg : MG} {tt : TT} {mt : ME Bool} {A : List Nat} {vs : List Nat} (hi : SI C wi mi) (hg : SG C A g mg) (ht : ST C tt mt) (h : SE C te me) (hA : ∀ j, j ∈ A → j ∈ vs := by decide) :
    SEO C (tLc wi g tt te vs) (mLc mi mg mt me vs) := fun Z Hs e σ H k Q w =>
  hi Z Hs e σ H k _ (we_bind (fun ds e1 J Hs1 H1 p1 k1 it w1 => by
    split at w1
    · rename_i hno
      split at w1
      · rename_i accF eF hF
        intro D hD
        have h0 : C.H0 D = none := k1.h0_none hD
        have hzD : Z D = none := k1.z_none hD
        have kD : StOk C (upd Z D (.lst [])) Hs1 (wipeE e1 vs) (wipe σ vs) (upd H1 D (.lst [])) := ((stok_wipe k1 vs).newO hD).hide upd_same (k1.hs_none hD) ((stok_wipe k1 vs).fresh hD)
        refine ⟨fun i mm H' => mm = ds.length - i ∧ i ≤ ds.length ∧ ∃ Hs' e' acc xs, Post Hs1 H1 Hs' H' ∧ StOk C (upd Z D (.lst xs)) Hs' e' (wipe σ vs) H' ∧ Reps C.K C.sc Hs' acc xs ∧ lcGo mg mt me vs (ds.drop i) acc e' = some (accF, eF),
          ⟨ds.length, rfl, Nat.zero_le _, Hs1, wipeE e1 vs, [], [], Post.newO, kD, reps_nil, hF⟩, ?_⟩
        rintro i mm H' ⟨rfl, hle, Hs', e', acc, xs, p', k', rx, hgo⟩
        obtain ⟨itg, its⟩ := it i _ Hs' e' _ H' k' p'.le
        by_cases hlt : i < ds.length
        · obtain ⟨d, hd, hdr⟩ := drop_cons hlt
          obtain ⟨go, yl⟩ := itg d hd
          rw [hdr] at hgo
          refine .inr ⟨go, fun H3 => ∃ Hs' e' acc xs, Post Hs1 H1 Hs' H3 ∧ StOk C (upd Z D (.lst xs)) Hs' e' (wipe σ vs) H3 ∧ Reps C.K C.sc Hs' acc xs ∧ lcGo mg mt me vs (ds.drop (i + 1)) acc e' = some (accF, eF), fun H3 h3 => ⟨ds.length - (i + 1), by omega, rfl, hlt, h3⟩, fun x H2 hy => ?_⟩
          obtain ⟨Hs2, p2, k2, r2⟩ := yl x H2 hy
          unfold lcGo at hgo
          cases qg : mg d e' with
          | none => simp only [qg] at hgo; cases hgo
          | some e2 =>
            simp only [qg] at hgo
            refine hg _ Hs2 e' _ H2 k2 d x e2 r2 qg _ fun σ2 k3 kp3 => ?_
            have hw : wipe σ2 vs = wipe σ vs := wipe_idem (kp3.sub hA) (by rw [kp3.1, wipe_length])
            refine ⟨hw, ht _ Hs2 e2 σ2 H2 k3 _ ?_⟩
            cases qt : mt e2 with
            | ud => simp only [qt] at hgo; cases hgo
            | er x e => simp only [qt] at hgo; cases hgo
            | ok b e3 =>
              intro b' Hs3 H3 p3 k3' rb
              have rb : b = b' := rb
              subst rb
              cases b with
              | false =>
                simp only [qt] at hgo
                exact ⟨Hs3, wipeE e3 vs, acc, xs, (p'.trans p2).trans p3, stok_zr (stok_wipe k3' vs) hw, reps_le (p2.trans p3).le rx, hgo⟩
              | true =>
                simp only [qt] at hgo
                refine h _ Hs3 e3 σ2 H3 k3' _ ?_
                cases qm : me e3 with
                | ud => simp only [qm] at hgo; cases hgo
                | er x e => simp only [qm] at hgo; cases hgo
                | ok y e4 =>
                  simp only [qm] at hgo
                  intro v Hs4 H4 p4 k4 r4
                  split at hgo
                  · rename_i hlen
                    have rx4 := reps_le ((p2.trans p3).trans p4).le rx
                    refine ⟨xs, (k4.hid D _ upd_same).1, by rw [reps_len rx]; exact lim_lt hlen, Hs4, wipeE e4 vs, acc ++ [y], xs ++ [v], ((p'.trans p2).trans (p3.trans p4)).trans Post.newO, stok_zr ((stok_wipe k4 vs).hmut h0) hw, reps_app rx4 (reps_cons r4 reps_nil), hgo⟩
                  · cases hgo
        · have e0 : ds.drop i = [] := List.drop_eq_nil_of_le (by omega)
          rw [e0] at hgo
          cases hgo
          obtain ⟨hx, hn⟩ := k'.hid D _ upd_same
          refine .inl ⟨its (by omega), w1 _ Hs' H' p' (stok_back k1 p'.le (k'.zle (Le.new hzD)) hno) ⟨D, rfl, hn, ⟨h0, hzD⟩, ⟨xs, hx, rx⟩, fun i j u h1 h2 => ?_⟩⟩
          have hi' : i ∉ vs := fun hi => by
            have q := backE_in hi h1
            rcases noOw_at hno hi with z | ⟨d, z⟩ <;> (rw [z] at q; cases q)
          rw [backE_out hi'] at h1
          have q := k'.hids i j u D h1 (by rw [wipe_get hi']; exact h2)
          rw [upd_same] at q; cases q
      · exact w1.elim
    · exact w1.elim) w)
end
end Ml

set_option linter.all false
set_option maxRecDepth 100000
set_option maxHeartbeats 1000000
namespace Ml
open L2
open PySem (Addr Str sizeLine)

/-! ### what a def promises: its mirror -/
def AOk (K : PySem.W.Frag) (sc : Sc) (Hs H : Hp) : List Slt → List V → List Addr → Prop
  | [], [], [] => True
  | .fz d :: as, v :: vs, ps => Rep K sc Hs d v ∧ AOk K sc Hs H as vs ps
  | .ow none o :: as, v :: vs, p :: ps => v = .ref p ∧ Hs p = none ∧ OwnAt K sc Hs H p o ∧ AOk K sc Hs H as vs ps
  | _, _, _ => False
def OOk (K : PySem.W.Frag) (sc : Sc) (Hs H : Hp) : List Addr → List Ob → Prop
  | [], [] => True
  | p :: ps, o :: os => OwnAt K sc Hs H p o ∧ OOk K sc Hs H ps os
  | _, _ => False
def RetC (K : PySem.W.Frag) (sc : Sc) (Hs H H' : Hp) : Slt → V → Prop
  | .fz d, v => Rep K sc Hs d v
  | .ow none o, v => ∃ p, v = .ref p ∧ Hs p = none ∧ H p = none ∧ OwnAt K sc Hs H' p o
  | _, _ => False
structure FPost (Hs H : Hp) (ps : List Addr) (Hs' H' : Hp) : Prop where
  ext : Le Hs Hs'
  le : Le Hs' H'
  frame : ∀ a o, H a = some o → a ∉ ps → H' a = some o
  dom : ∀ a, H a ≠ none → H' a ≠ none
  news : ∀ a, Hs' a ≠ none → Hs a ≠ none ∨ H a = none
def FW (K : PySem.W.Frag) (sc : Sc) (RE : Err → PySem.Value → Option Addr → Hp → Hp → Prop) (Hs H : Hp) (ps : List Addr) (Q : VK) (E : XK) : Fres → Prop
  | .ok s outs => ∀ v Hs' H', FPost Hs H ps Hs' H' → OOk K sc Hs' H' ps outs → RetC K sc Hs' H H' s v → Q v H'
  | .er x outs => ∀ Hs' H' c od, FPost Hs H ps Hs' H' → OOk K sc Hs' H' ps outs → RE x c od Hs' H' → E c od H'
  | .ud => False
def spM (K : PySem.W.Frag) (RE : Err → PySem.Value → Option Addr → Hp → Hp → Prop) (F : Fn) : Sp := fun vs H Q E => ∃ sc Hs as ps, Le Hs H ∧ AOk K sc Hs H as vs ps ∧ ps.Nodup ∧ FW K sc RE Hs H ps Q E (F as)

section
variable {C : Cc} {Z : Hp}
def rAV (C : Cc) (σ : L2.St) (Hs : Hp) : List AV → List V → Prop
  | [], [] => True
  | .val d :: as, v :: vs => Rep C.K C.sc Hs d v ∧ rAV C σ Hs as vs
  | .own i :: as, v :: vs => σ[i]? = some (some v) ∧ rAV C σ Hs as vs
  | _, _ => False
theorem rAV_le {σ : L2.St} {Hs Hs' : Hp} (l : Le Hs Hs') : ∀ {as : List AV} {vs : List V}, rAV C σ Hs as vs → rAV C σ Hs' as vs
  | [], [], _ => trivial
  | .val d :: as, v :: vs, h => ⟨rep_le l h.1, rAV_le l h.2⟩
  | .own i :: as, v :: vs, h => ⟨h.1, rAV_le l h.2⟩
  | [], _ :: _, h => h.elim
  | .val _ :: _, [], h => h.elim
  | .own _ :: _, [], h => h.elim
def rA (C : Cc) (σ : L2.St) : List AV → Loc → List V → Hp → Hp → Prop := fun as _ vs Hs' _ => rAV C σ Hs' as vs
def SM (C : Cc) (t : TA) (ms : List MA) : Prop := ∀ Z Hs e σ H, StOk C Z Hs e σ H → ∀ Q, WE C Z σ Hs H (rA C σ) (mAs ms e) Q → t σ H Q
theorem sm_nil : SM C tNil [] := fun Z Hs e σ H k Q w => we_ok w k trivial
theorem sm_val {te : TE} {me : ME Dv} {t : TA} {ms : List MA} (h : SE C te me) (hr : SM C t ms) : SM C (tCons te t) (.val me :: ms) := fun Z Hs e σ H k Q w =>
  h Z Hs e σ H k _ (we_bind (fun a e1 x Hs1 H1 _ k1 r1 w1 => hr Z Hs1 e1 σ H1 k1 _ (we_bind (fun b e2 y Hs2 H2 p2 k2 r2 w2 => we_ok w2 k2 ⟨rep_le p2.le r1, r2⟩) w1)) w)
theorem sm_own {i : Nat} {t : TA} {ms : List MA} (hr : SM C t ms) : SM C (tCons (tVar i) t) (.own i :: ms) := fun Z Hs e σ H k Q w => by
  unfold mAs at w
  split at w
  · rename_i ho
    obtain ⟨j, o, he⟩ := ow_of ho
    obtain ⟨p, e1, _⟩ := k.own he
    exact ⟨_, e1, hr Z Hs e σ H k _ (we_bind (fun b e2 y Hs2 H2 p2 k2 r2 w2 => we_ok w2 k2 ⟨e1, r2⟩) w)⟩
  · exact w.elim

def OA (σ : L2.St) (e : Loc) : List Nat → List Addr → Prop
  | [], [] => True
  | i :: is, p :: ps => σ[i]? = some (some (.ref p)) ∧ (∃ j o, e[i]? = some (.ow j o)) ∧ OA σ e is ps
  | _, _ => False
theorem oa_mem {σ : L2.St} {e : Loc} : ∀ {is : List Nat} {ps : List Addr} {p : Addr}, OA σ e is ps → p ∈ ps → ∃ i, i ∈ is ∧ σ[i]? = some (some (.ref p)) ∧ ∃ j o, e[i]? = some (.ow j o)
  | [], [], _, _, h => by cases h
  | i :: is, q :: ps, p, h, hp => by
    rcases List.mem_cons.mp hp with rfl | hp
    · exact ⟨i, List.mem_cons_self, h.1, h.2.1⟩
    · obtain ⟨i', a, b⟩ := oa_mem h.2.2 hp
      exact ⟨i', List.mem_cons_of_mem _ a, b⟩
  | [], _ :: _, _, h, _ => h.elim
  | _ :: _, [], _, h, _ => h.elim
theorem oa_nodup {σ : L2.St} {e : Loc} {Hs H : Hp} (k : StOk C Z Hs e σ H) : ∀ {is : List Nat} {ps : List Addr}, OA σ e is ps → is.Nodup → ps.Nodup
  | [], [], _, _ => List.nodup_nil
  | i :: is, p :: ps, h, hn => by
    obtain ⟨h1, h2⟩ := List.nodup_cons.mp hn
    refine List.nodup_cons.mpr ⟨fun hp => ?_, oa_nodup k h.2.2 h2⟩
    obtain ⟨i', a, b, j', o', c⟩ := oa_mem h.2.2 hp
    obtain ⟨j, o, d⟩ := h.2.1
    have := k.sep i i' j j' o o' p d c h.1 b
    exact h1 (this ▸ a)
  | [], _ :: _, h, _ => h.elim
  | _ :: _, [], h, _ => h.elim
theorem resolve_ok {σ : L2.St} {e : Loc} {Hs H : Hp} (k : StOk C Z Hs e σ H) : ∀ {as : List AV} {vs : List V} {ss : List Slt}, rAV C σ Hs as vs → resolve as e = some ss → ∃ ps, AOk C.K C.sc Hs H ss vs ps ∧ OA σ e (owns as) ps
  | [], [], ss, _, h => by cases h; exact ⟨[], trivial, trivial⟩
  | .val d :: as, v :: vs, ss, r, h => by
    obtain ⟨r', h', rfl⟩ := Option.map_eq_some_iff.mp h
    obtain ⟨ps, a, b⟩ := resolve_ok k r.2 h'
    exact ⟨ps, ⟨r.1, a⟩, b⟩
  | .own i :: as, v :: vs, ss, r, h => by
    unfold resolve at h
    split at h
    · rename_i j o he
      obtain ⟨r', h', rfl⟩ := Option.map_eq_some_iff.mp h
      obtain ⟨ps, a, b⟩ := resolve_ok k r.2 h'
      obtain ⟨p, e1, e2, e3, _⟩ := k.own he
      have ev : V.ref p = v := Option.some.inj (Option.some.inj (e1.symm.trans r.1))
      exact ⟨p :: ps, ⟨ev.symm, e2, e3, a⟩, e1, ⟨j, o, he⟩, b⟩
    · cases h
  | [], _ :: _, _, r, _ => r.elim
  | .val _ :: _, [], _, r, _ => r.elim
  | .own _ :: _, [], _, r, _ => r.elim
theorem oa_set {σ : L2.St} {e : Loc} {i : Nat} {s : Slt} : ∀ {is : List Nat} {ps : List Addr}, i ∉ is → OA σ e is ps → OA σ (e.set i s) is ps
  | [], [], _, _ => trivial
  | a :: is, p :: ps, hi, h => by
    refine ⟨h.1, ?_, oa_set (fun z => hi (List.mem_cons_of_mem _ z)) h.2.2⟩
    rw [List.getElem?_set_ne (fun z => hi (by rw [z]; exact List.mem_cons_self))]
    exact h.2.1
  | [], _ :: _, _, h => h.elim
  | _ :: _, [], _, h => h.elim
theorem wback_at {K : PySem.W.Frag} {sc : Sc} {Hs H : Hp} {σ : L2.St} : ∀ {is : List Nat} {ps : List Addr} {os : List Ob} {e e' : Loc}, OA σ e is ps → OOk K sc Hs H ps os → is.Nodup → wback is os e = some e' →
    e'.length = e.length ∧ ∀ i', (i' ∉ is → e'[i']? = e[i']?) ∧ (i' ∈ is → ∃ j o o' p, e[i']? = some (.ow j o) ∧ e'[i']? = some (.ow j o') ∧ σ[i']? = some (some (.ref p)) ∧ p ∈ ps ∧ OwnAt K sc Hs H p o')
  | [], [], [], e, e', _, _, _, h => by
    cases h
    exact ⟨rfl, fun i' => ⟨fun _ => rfl, fun z => by cases z⟩⟩
  | i :: is, p :: ps, o :: os, e, e', ha, ho, hn, h => by
    obtain ⟨n1, n2⟩ := List.nodup_cons.mp hn
    obtain ⟨j, u, hu⟩ := ha.2.1
    have hl : i < e.length := (List.getElem?_eq_some_iff.mp hu).1
    have h : wback is os (e.set i (putO e[i]? o)) = some e' := h
    obtain ⟨l, w⟩ := wback_at (oa_set (s := putO e[i]? o) n1 ha.2.2) ho.2 n2 h
    refine ⟨by rw [l, List.length_set], fun i' => ⟨fun hi => ?_, fun hi => ?_⟩⟩
    · rw [(w i').1 fun z => hi (List.mem_cons_of_mem _ z), List.getElem?_set_ne (fun z => hi (by rw [z]; exact List.mem_cons_self))]
    · by_cases z : i = i'
      · subst z
        refine ⟨j, u, o, p, hu, ?_, ha.1, List.mem_cons_self, ho.1⟩
        rw [(w i).1 n1, List.getElem?_set_self hl, hu]
        rfl
      · have hi2 : i' ∈ is := (List.mem_cons.mp hi).resolve_left (Ne.symm z)
        obtain ⟨j2, o2, o3, p2, a, b, c, d, f⟩ := (w i').2 hi2
        rw [List.getElem?_set_ne z] at a
        exact ⟨j2, o2, o3, p2, a, b, c, List.mem_cons_of_mem _ d, f⟩
  | [], [], _ :: _, _, _, _, ho, _, _ => ho.elim
  | [], _ :: _, _, _, _, ha, _, _, _ => ha.elim
  | _ :: _, [], _, _, _, ha, _, _, _ => ha.elim
  | _ :: _, _ :: _, [], _, _, _, ho, _, _ => ho.elim
theorem stok_call {σ : L2.St} {e e' : Loc} {Hs H Hs' H' : Hp} {is : List Nat} {ps : List Addr} {os : List Ob} (k : StOk C Z Hs e σ H) (f : FPost Hs H ps Hs' H') (ha : OA σ e is ps) (ho : OOk C.K C.sc Hs' H' ps os) (hn : is.Nodup) (hw : wback is os e = some e') :
    StOk C Z Hs' e' σ H' ∧ ∀ (i : Nat) j u, e'[i]? = some (.ow j u) → ∃ u', e[i]? = some (.ow j u') := by
  obtain ⟨hl, w⟩ := wback_at ha ho hn hw
  have back : ∀ (i : Nat) j u, e'[i]? = some (.ow j u) → ∃ u', e[i]? = some (.ow j u') := fun i j u h => by
    by_cases hi : i ∈ is
    · obtain ⟨j2, o2, o3, p2, a, b, _⟩ := (w i).2 hi
      rw [b] at h; cases h
      exact ⟨_, a⟩
    · rw [(w i).1 hi] at h; exact ⟨u, h⟩
  have hsn : ∀ p, Hs p = none → H p ≠ none → Hs' p = none := fun p h1 h2 => by
    cases z : Hs' p with
    | none => rfl
    | some u =>
      rcases f.news p (by rw [z]; exact fun q => nomatch q) with h | h
      · exact absurd h1 h
      · exact absurd h h2
  refine ⟨⟨by rw [hl]; exact k.len, f.le, fun i s hs => ?_, fun a b j j' o o' p h1 h2 h3 h4 => ?_, fun a o h h' => ?_, fun a h => f.dom a (k.dom a h), fun a h => ?_, k.par, fun a o h => ?_, fun i j o p h1 h2 => ?_⟩, back⟩
  · by_cases hi : i ∈ is
    · obtain ⟨j2, o2, o3, p2, a, b, c, d, g⟩ := (w i).2 hi
      rw [b] at hs; cases hs
      obtain ⟨p3, e1, e2, e3, e4⟩ := k.own a
      rw [c] at e1; cases e1
      exact ⟨p2, c, hsn p2 e2 e3.some, g, e4⟩
    · rw [(w i).1 hi] at hs
      have q := k.slot i s hs
      cases s with
      | un => trivial
      | fz d => obtain ⟨v, e1, r⟩ := q; exact ⟨v, e1, rep_le f.ext r⟩
      | ow j o =>
        obtain ⟨p, e1, e2, e3, e4⟩ := q
        have np : p ∉ ps := fun hp => by
          obtain ⟨i2, a, b, j2, o2, c⟩ := oa_mem ha hp
          have := k.sep i i2 j j2 o o2 p hs c e1 b
          exact hi (this ▸ a)
        refine ⟨p, e1, hsn p e2 e3.some, e3.mono f.ext ?_, e4⟩
        cases z : H p with
        | none => exact absurd z e3.some
        | some u => exact f.frame p u z np
  · obtain ⟨u1, g1⟩ := back a j o h1
    obtain ⟨u2, g2⟩ := back b j' o' h2
    exact k.sep a b j j' u1 u2 p g1 g2 h3 h4
  · refine f.frame a o (k.frame a o h h') fun hp => h' ?_
    obtain ⟨i, _, b, j, o2, c⟩ := oa_mem ha hp
    exact k.unframed c b o h
  · rcases f.news a h with h | h
    · exact k.news a h
    · exact .inr (k.h0_none h)
  · obtain ⟨h1, h2⟩ := k.hid a o h
    refine ⟨f.frame a o h1 fun hp => ?_, hsn a h2 (by rw [h1]; exact fun q => nomatch q)⟩
    obtain ⟨i, _, b, j, o2, c⟩ := oa_mem ha hp
    rw [k.hids i j o2 a c b] at h; cases h
  · obtain ⟨u, g⟩ := back i j o h1
    exact k.hids i j u p g h2
/-- a result: data, or a new object of one's own -/
def rS (C : Cc) (Z : Hp) (σ : L2.St) : Slt → Loc → V → Hp → Hp → Prop
  | .fz d, _, v, Hs', _ => Rep C.K C.sc Hs' d v
  | .ow none o, e, v, Hs', H' => rO C Z σ o e v Hs' H'
  | _, _, _, _, _ => False
theorem se_callS {F : Fn} {t : TA} {ms : List MA} (h : SM C t ms) : ∀ Z Hs e σ H, StOk C Z Hs e σ H → ∀ Q, WE C Z σ Hs H (rS C Z σ) (mCall F ms e) Q → tCallS (spM C.K C.RE F) (L2.WE C.E) t σ H Q := fun Z Hs e σ H k Q w =>
  h Z Hs e σ H k _ (we_bind (fun as e1 vs Hs1 H1 p1 k1 r1 w1 => by
    split at w1
    · rename_i hnd
      split at w1
      · exact w1.elim
      · rename_i ss hss
        obtain ⟨ps, a1, a2⟩ := resolve_ok k1 r1 hss
        have pn := oa_nodup k1 a2 hnd
        show spM C.K C.RE F vs H1 Q (L2.WE C.E σ)
        refine ⟨C.sc, Hs1, ss, ps, k1.le, a1, pn, ?_⟩
        split at w1
        · rename_i s outs hF
          rw [hF]
          intro v Hs' H' fp oo rc
          cases hw : wback (owns as) outs e1 with
          | none => rw [hw] at w1; exact w1.elim
          | some e2 =>
            rw [hw] at w1
            obtain ⟨k2, back⟩ := stok_call k1 fp a2 oo hnd hw
            refine w1 v Hs' H' ⟨fp.ext, fp.dom⟩ k2 ?_
            cases s with
            | un => exact rc.elim
            | fz d => exact rc
            | ow j o =>
              cases j with
              | some n => exact rc.elim
              | none =>
                obtain ⟨p, rfl, c1, c2, c3⟩ := rc
                refine ⟨p, rfl, c1, ⟨k1.h0_none c2, k1.z_none c2⟩, c3, fun i j u h1 => ?_⟩
                obtain ⟨u', g⟩ := back i j u h1
                exact k1.fresh c2 i j u' g
        · rename_i x outs hF
          rw [hF]
          intro Hs' H' c od fp oo re
          cases hw : wback (owns as) outs e1 with
          | none => rw [hw] at w1; exact w1.elim
          | some e2 =>
            rw [hw] at w1
            obtain ⟨k2, back⟩ := stok_call k1 fp a2 oo hnd hw
            exact w1 Hs' H' c od ⟨fp.ext, fp.dom⟩ k2 re
        · exact w1.elim
    · exact w1.elim) w)
theorem se_call {F : Fn} {t : TA} {ms : List MA} (h : SM C t ms) : SE C (tCallS (spM C.K C.RE F) (L2.WE C.E) t) (mCallD F ms) := fun Z Hs e σ H k Q w =>
  se_callS h Z Hs e σ H k Q (by
    have w' : WE C Z σ Hs H (rD C) ((mCall F ms e).bind fun s e => match s with
      | .fz d => .ok d e
      | _ => .ud) Q := w
    refine we_bind (r2 := rD C) (fun s e1 v Hs1 H1 p1 k1 r1 w1 => ?_) w'
    cases s with
    | fz d => exact we_ok w1 k1 r1
    | un => exact w1.elim
    | ow j o => exact w1.elim)
theorem seo_call {F : Fn} {t : TA} {ms : List MA} (h : SM C t ms) : SEO C (tCallS (spM C.K C.RE F) (L2.WE C.E) t) (mCallO F ms) := fun Z Hs e σ H k Q w =>
  se_callS h Z Hs e σ H k Q (by
    have w' : WE C Z σ Hs H (rO C Z σ) ((mCall F ms e).bind fun s e => match s with
      | .ow none o => .ok o e
      | _ => .ud) Q := w
    refine we_bind (r2 := rO C Z σ) (fun s e1 v Hs1 H1 p1 k1 r1 w1 => ?_) w'
    cases s with
    | fz d => exact w1.elim
    | un => exact w1.elim
    | ow j o =>
      cases j with
      | none => exact we_ok w1 k1 r1
      | some n => exact w1.elim)
end

/-! ### a def keeps its promise -/
section
variable {K : PySem.W.Frag} {sc : Sc} {RE : Err → PySem.Value → Option Addr → Hp → Hp → Prop}
theorem aok_len : ∀ {as : List Slt} {vs : List V} {ps : List Addr} {Hs H : Hp}, AOk K sc Hs H as vs ps → vs.length = as.length
  | [], [], [], _, _, _ => rfl
  | .fz _ :: _, _ :: _, _, _, _, h => by simp [aok_len h.2]
  | .ow none _ :: _, _ :: _, _ :: _, _, _, h => by simp [aok_len h.2.2.2]
  | [], [], _ :: _, _, _, h => h.elim
  | [], _ :: _, _, _, _, h => h.elim
  | .fz _ :: _, [], _, _, _, h => h.elim
  | .un :: _, _, _, _, _, h => h.elim
  | .ow none _ :: _, [], _, _, _, h => h.elim
  | .ow none _ :: _, _ :: _, [], _, _, h => h.elim
  | .ow (some _) _ :: _, _, _, _, _, h => h.elim
theorem spM_len {F : Fn} {np nl : Nat} {m : MS} (hF : F = mkFn np nl m) {vs : List V} {H : Hp} {Q : VK} {E : XK} (h : spM K RE F vs H Q E) : vs.length = np := by
  obtain ⟨sc, Hs, as, ps, _, a, _, fw⟩ := h
  rw [hF] at fw
  unfold mkFn at fw
  split at fw
  · rename_i hc
    rw [aok_len a, hc.1]
  · exact fw.elim
theorem initE_len : ∀ {as : List Slt} {k : Nat}, (initE k as).length = as.length
  | [], _ => rfl
  | .ow _ _ :: r, k => by simp [initE, initE_len]
  | .un :: r, k => by simp [initE, initE_len]
  | .fz _ :: r, k => by simp [initE, initE_len]
/-- the slots at a def's entry -/
theorem init_slot {Hs H : Hp} {P : List Addr} : ∀ {as : List Slt} {vs : List V} {ps : List Addr} {k : Nat}, AOk K sc Hs H as vs ps → (∀ n p, ps[n]? = some p → P[k + n]? = some p) →
    ∀ (i : Nat) s, (initE k as)[i]? = some s → (∃ d v, s = .fz d ∧ vs[i]? = some v ∧ Rep K sc Hs d v) ∨ (∃ n o p, s = .ow (some n) o ∧ vs[i]? = some (.ref p) ∧ Hs p = none ∧ OwnAt K sc Hs H p o ∧ P[n]? = some p ∧ k ≤ n ∧ n < k + ps.length)
  | [], [], [], _, _, _, i, s, h => by simp [initE] at h
  | .fz d :: as, v :: vs, ps, k, a, hP, i, s, h => by
    cases i with
    | zero => simp [initE] at h; exact .inl ⟨d, v, h.symm, rfl, a.1⟩
    | succ i =>
      have h : (initE k as)[i]? = some s := by simpa [initE] using h
      exact init_slot a.2 hP i s h
  | .ow none o :: as, v :: vs, p :: ps, k, a, hP, i, s, h => by
    cases i with
    | zero =>
      simp [initE] at h
      have e := hP 0 p rfl
      exact .inr ⟨k, o, p, h.symm, by rw [a.1]; rfl, a.2.1, a.2.2.1, by simpa using e, Nat.le_refl _, by simp⟩
    | succ i =>
      have h : (initE (k + 1) as)[i]? = some s := by simpa [initE] using h
      rcases init_slot (k := k + 1) a.2.2.2 (fun n q e => by have := hP (n + 1) q (by simpa using e); rw [show k + 1 + n = k + (n + 1) by omega]; exact this) i s h with z | ⟨n, o', p', a1, a2, a3, a4, a5, a6, a7⟩
      · exact .inl z
      · exact .inr ⟨n, o', p', a1, a2, a3, a4, a5, by omega, by simp; omega⟩
  | [], [], _ :: _, _, h, _, _, _, _ => h.elim
  | [], _ :: _, _, _, h, _, _, _, _ => h.elim
  | .fz _ :: _, [], _, _, h, _, _, _, _ => h.elim
  | .un :: _, _, _, _, h, _, _, _, _ => h.elim
  | .ow none _ :: _, [], _, _, h, _, _, _, _ => h.elim
  | .ow none _ :: _, _ :: _, [], _, h, _, _, _, _ => h.elim
  | .ow (some _) _ :: _, _, _, _, h, _, _, _, _ => h.elim
theorem init_low {Hs H : Hp} : ∀ {as : List Slt} {vs : List V} {ps : List Addr} {k : Nat}, AOk K sc Hs H as vs ps → ∀ (i n : Nat) (o : Ob), (initE k as)[i]? = some (.ow (some n) o) → k ≤ n
  | [], [], [], _, _, i, n, o, h => by simp [initE] at h
  | .fz d :: as, v :: vs, ps, k, a, i, n, o, h => by
    cases i with
    | zero => simp [initE] at h
    | succ i => exact init_low a.2 i n o (by simpa [initE] using h)
  | .ow none u :: as, v :: vs, p :: ps, k, a, i, n, o, h => by
    cases i with
    | zero => simp [initE] at h; omega
    | succ i => have := init_low (k := k + 1) a.2.2.2 i n o (by simpa [initE] using h); omega
  | [], [], _ :: _, _, h, _, _, _, _ => h.elim
  | [], _ :: _, _, _, h, _, _, _, _ => h.elim
  | .fz _ :: _, [], _, _, h, _, _, _, _ => h.elim
  | .un :: _, _, _, _, h, _, _, _, _ => h.elim
  | .ow none _ :: _, [], _, _, h, _, _, _, _ => h.elim
  | .ow none _ :: _, _ :: _, [], _, h, _, _, _, _ => h.elim
  | .ow (some _) _ :: _, _, _, _, h, _, _, _, _ => h.elim
theorem init_uniq {Hs H : Hp} : ∀ {as : List Slt} {vs : List V} {ps : List Addr} {k : Nat}, AOk K sc Hs H as vs ps → ∀ (i i' n : Nat) (o o' : Ob), (initE k as)[i]? = some (.ow (some n) o) → (initE k as)[i']? = some (.ow (some n) o') → i = i'
  | [], [], [], _, _, i, i', n, o, o', h, _ => by simp [initE] at h
  | .fz d :: as, v :: vs, ps, k, a, i, i', n, o, o', h, h' => by
    cases i with
    | zero => simp [initE] at h
    | succ i =>
      cases i' with
      | zero => simp [initE] at h'
      | succ i' => rw [init_uniq a.2 i i' n o o' (by simpa [initE] using h) (by simpa [initE] using h')]
  | .ow none u :: as, v :: vs, p :: ps, k, a, i, i', n, o, o', h, h' => by
    cases i with
    | zero =>
      cases i' with
      | zero => rfl
      | succ i' =>
        simp [initE] at h
        have := init_low (k := k + 1) a.2.2.2 i' n o' (by simpa [initE] using h')
        omega
    | succ i =>
      cases i' with
      | zero =>
        simp [initE] at h'
        have := init_low (k := k + 1) a.2.2.2 i n o (by simpa [initE] using h)
        omega
      | succ i' => rw [init_uniq (k := k + 1) a.2.2.2 i i' n o o' (by simpa [initE] using h) (by simpa [initE] using h')]
  | [], [], _ :: _, _, h, _, _, _, _, _, _, _ => h.elim
  | [], _ :: _, _, _, h, _, _, _, _, _, _, _ => h.elim
  | .fz _ :: _, [], _, _, h, _, _, _, _, _, _, _ => h.elim
  | .un :: _, _, _, _, h, _, _, _, _, _, _, _ => h.elim
  | .ow none _ :: _, [], _, _, h, _, _, _, _, _, _, _ => h.elim
  | .ow none _ :: _, _ :: _, [], _, h, _, _, _, _, _, _, _ => h.elim
  | .ow (some _) _ :: _, _, _, _, h, _, _, _, _, _, _, _ => h.elim
theorem aok_some : ∀ {as : List Slt} {vs : List V} {ps : List Addr} {Hs H : Hp}, AOk K sc Hs H as vs ps → ∀ p, p ∈ ps → H p ≠ none
  | [], [], [], _, _, _, _, h => by cases h
  | .fz _ :: _, _ :: _, _, _, _, h, p, hp => aok_some h.2 p hp
  | .ow none _ :: _, _ :: _, q :: _, _, _, h, p, hp => by
    rcases List.mem_cons.mp hp with rfl | hp
    · exact h.2.2.1.some
    · exact aok_some h.2.2.2 p hp
  | [], [], _ :: _, _, _, h, _, _ => h.elim
  | [], _ :: _, _, _, _, h, _, _ => h.elim
  | .fz _ :: _, [], _, _, _, h, _, _ => h.elim
  | .un :: _, _, _, _, _, h, _, _ => h.elim
  | .ow none _ :: _, [], _, _, _, h, _, _ => h.elim
  | .ow none _ :: _, _ :: _, [], _, _, h, _, _ => h.elim
  | .ow (some _) _ :: _, _, _, _, _, h, _, _ => h.elim
/-- the lists that were handed over, at the end -/
theorem outs_ok {C : Cc} {Z Hs H : Hp} {σ : L2.St} {e : Loc} (k : StOk C Z Hs e σ H) : ∀ {as : List Slt} {vs : List V} {ps : List Addr} {n : Nat} {e' : Loc} {os : List Ob} {Hs0 H0 : Hp}, AOk C.K C.sc Hs0 H0 as vs ps → (∀ m p, ps[m]? = some p → C.P[n + m]? = some p) →
    (∀ (i : Nat) (s : Slt), e'[i]? = some s → ∃ i' : Nat, e[i']? = some s) → outsE n as e' = some os → OOk C.K C.sc Hs H ps os
  | [], [], [], _, _, os, _, _, _, _, _, h => by cases h; trivial
  | .fz d :: as, v :: vs, ps, n, e', os, _, _, a, hP, he, h => by
    cases e' with
    | nil => cases h
    | cons s e' => exact outs_ok k a.2 hP (fun i s' hs => he (i + 1) s' (by simpa using hs)) h
  | .ow none o :: as, v :: vs, p :: ps, n, e', os, _, _, a, hP, he, h => by
    cases e' with
    | nil => cases h
    | cons s e' =>
      cases s with
      | un => cases h
      | fz d => cases h
      | ow j u =>
        cases j with
        | none => cases h
        | some n' =>
          unfold outsE at h
          split at h
          · rename_i hn
            subst hn
            obtain ⟨os', h', rfl⟩ := Option.map_eq_some_iff.mp h
            obtain ⟨i', hi'⟩ := he 0 _ rfl
            obtain ⟨q, e1, e2, e3, e4⟩ := k.own hi'
            have e4 : C.P[n]? = some q := e4
            have e5 := hP 0 p rfl
            rw [Nat.add_zero, e4] at e5
            cases e5
            exact ⟨e3, outs_ok k a.2.2.2 (fun m r hr => by have := hP (m + 1) r (by simpa using hr); rw [show n + 1 + m = n + (m + 1) by omega]; exact this) (fun i s' hs => he (i + 1) s' (by simpa using hs)) h'⟩
          · cases h
  | [], [], _ :: _, _, _, _, _, _, h, _, _, _ => h.elim
  | [], _ :: _, _, _, _, _, _, _, h, _, _, _ => h.elim
  | .fz _ :: _, [], _, _, _, _, _, _, h, _, _, _ => h.elim
  | .un :: _, _, _, _, _, _, _, _, h, _, _, _ => h.elim
  | .ow none _ :: _, [], _, _, _, _, _, _, h, _, _, _ => h.elim
  | .ow none _ :: _, _ :: _, [], _, _, _, _, _, h, _, _, _ => h.elim
  | .ow (some _) _ :: _, _, _, _, _, _, _, _, h, _, _, _ => h.elim
theorem fn_redS {sc : Sc} {F : Fn} {np nl : Nat} {A : List Nat} {t : TS} {m : MS} {N : List Str} (hF : F = mkFn np nl m) (hN : N.length = np + nl) {vs : List V} {H : Hp} {Q : VK} {E : XK} (hlen : vs.length = np) (hsp : ∃ Hs as ps, Le Hs H ∧ AOk K sc Hs H as vs ps ∧ ps.Nodup ∧ FW K sc RE Hs H ps Q E (F as))
    (h : ∀ Hs ps, SS ⟨K, sc, H, ps, Hs, fun c od _ H => E c od H, RE⟩ A t m) : t { nx := fun _ H' => Q .non H', rt := Q } (start N vs) H := by
  obtain ⟨Hs, as, ps, hle, a, hnd, fw⟩ := hsp
  rw [hF] at fw
  unfold mkFn at fw
  split at fw
  · rename_i hc
    have hal : as.length = np := hc.1
    have e0 : ∀ m p, ps[m]? = some p → ps[0 + m]? = some p := fun m p q => by rw [Nat.zero_add]; exact q
    have sl : ∀ (i : Nat) s, (initE 0 as ++ List.replicate nl .un)[i]? = some s → s = .un ∨ (i < as.length ∧ (initE 0 as)[i]? = some s) := fun i s hs => by
      by_cases hi : i < (initE 0 as).length
      · rw [List.getElem?_append_left hi] at hs
        exact .inr ⟨by rw [initE_len] at hi; exact hi, hs⟩
      · rw [List.getElem?_append_right (by omega), List.getElem?_replicate] at hs
        split at hs
        · exact .inl (Option.some.inj hs).symm
        · cases hs
    have st : ∀ (i : Nat) v, vs[i]? = some v → (start N vs)[i]? = some (some v) := fun i v hv => by
      unfold start
      have hi : i < vs.length := (List.getElem?_eq_some_iff.mp hv).1
      rw [List.getElem?_append_left (by simpa using hi), List.getElem?_map, hv]
      rfl
    have k : StOk ⟨K, sc, H, ps, Hs, fun c od _ H => E c od H, RE⟩ (fun _ => none) Hs (initE 0 as ++ List.replicate nl .un) (start N vs) H := by
      refine ⟨?_, hle, fun i s hs => ?_, fun i i' j j' o o' p h1 h2 h3 h4 => ?_, fun _ _ q _ => q, fun _ q => q, fun _ q => .inl q, aok_some a, fun _ _ q => ?_, fun _ _ _ _ _ _ => rfl⟩
      · unfold start
        rw [List.length_append, List.length_append, List.length_map, List.length_replicate, List.length_replicate, initE_len, hal, hlen, hN]
        omega
      · rcases sl i s hs with rfl | ⟨hi, hs⟩
        · trivial
        · rcases init_slot a e0 i s hs with ⟨d, v, rfl, hv, r⟩ | ⟨n, o, p, rfl, hv, c1, c2, c3, _⟩
          · exact ⟨v, st i v hv, r⟩
          · exact ⟨p, st i _ hv, c1, c2, c3⟩
      · have get : ∀ {i : Nat} {j o}, (initE 0 as ++ List.replicate nl .un)[i]? = some (Slt.ow j o) → (start N vs)[i]? = some (some (.ref p)) → ∃ n, (initE 0 as)[i]? = some (.ow (some n) o) ∧ ps[n]? = some p := fun {i j o} h h' => by
          rcases sl i _ h with z | ⟨hi, hs⟩
          · cases z
          · rcases init_slot a e0 i _ hs with ⟨d, v, z, _⟩ | ⟨n, o2, p2, z, hv, c1, c2, c3, _⟩
            · cases z
            · cases z
              have := st i _ hv
              rw [h'] at this
              cases this
              exact ⟨n, hs, c3⟩
        obtain ⟨n, g1, g2⟩ := get h1 h3
        obtain ⟨n', g3, g4⟩ := get h2 h4
        have en : n = n' := by
          have l1 := (List.getElem?_eq_some_iff.mp g2).1
          exact (List.getElem?_inj l1 hnd).mp (g2.trans g4.symm)
        subst en
        exact init_uniq a i i' n o o' g1 g3
      · exact absurd q (fun z => nomatch z)
    have fin : ∀ {Hs' : Hp} {σ' : L2.St} {H' : Hp} {e' : Loc} {os : List Ob}, StOk ⟨K, sc, H, ps, Hs, fun c od _ H => E c od H, RE⟩ (fun _ => none) Hs' e' σ' H' → Post Hs H Hs' H' → outsE 0 as e' = some os → FPost Hs H ps Hs' H' ∧ OOk K sc Hs' H' ps os := fun {Hs' σ' H' e' os} k' p' ho =>
      ⟨⟨p'.le, k'.le, k'.frame, p'.dom, k'.news⟩, outs_ok (C := ⟨K, sc, H, ps, Hs, fun c od _ H => E c od H, RE⟩) k' a e0 (fun i s hs => ⟨i, hs⟩) ho⟩
    refine h Hs ps _ Hs _ _ H k _ ?_
    cases q : m (initE 0 as ++ List.replicate nl .un) with
    | nx e' =>
      intro Hs' σ' H' p' k' _
      rw [q] at fw
      cases ho : outsE 0 as e' with
      | none => simp only [ho] at fw; exact fw.elim
      | some os =>
        simp only [ho] at fw
        obtain ⟨f1, f2⟩ := fin k' p' ho
        exact fw _ Hs' H' f1 f2 (by show Rep K sc Hs' .non _; simp only [Rep])
    | rt s e' =>
      intro v Hs' σ' H' p' k' ro
      rw [q] at fw
      cases ho : outsE 0 as e' with
      | none => simp only [ho] at fw; exact fw.elim
      | some os =>
        simp only [ho] at fw
        obtain ⟨f1, f2⟩ := fin k' p' ho
        refine fw v Hs' H' f1 f2 ?_
        cases s with
        | un => exact ro.elim
        | fz d => exact ro
        | ow j o =>
          cases j with
          | some n => exact ro.elim
          | none => exact ro
    | er x e' =>
      intro Hs' σ' H' c od p' k' re
      rw [q] at fw
      cases ho : outsE 0 as e' with
      | none => simp only [ho] at fw; exact fw.elim
      | some os =>
        simp only [ho] at fw
        obtain ⟨f1, f2⟩ := fin k' p' ho
        exact fw Hs' H' c od f1 f2 re
    | bk e' => rw [q] at fw; exact fw.elim
    | ct e' => rw [q] at fw; exact fw.elim
    | ud => rw [q] at fw; exact fw.elim
  · exact fw.elim
theorem fn_red {F : Fn} {np nl : Nat} {A : List Nat} {t : TS} {m : MS} {N : List Str} (hF : F = mkFn np nl m) (hN : N.length = np + nl) {vs : List V} {H : Hp} {Q : VK} {E : XK} (hsp : spM K RE F vs H Q E)
    (h : ∀ sc Hs ps, SS ⟨K, sc, H, ps, Hs, fun c od _ H => E c od H, RE⟩ A t m) : t { nx := fun _ H' => Q .non H', rt := Q } (start N vs) H := by
  have hlen := spM_len hF hsp
  obtain ⟨sc, hsp⟩ := hsp
  exact fn_redS hF hN hlen hsp (h sc)
end
end Ml

set_option linter.all false
set_option maxRecDepth 100000
set_option maxHeartbeats 1000000
/-! The operations on data, each with its rule. -/
namespace L2
open PySem PySem.Spec PyProof.Rows
/-- xs[i] by values, for xs[i] op= e -/
theorem get_list {X : Cx} : PGet X (rIxL X.K) := by
  intro pins s σ H x y v u Q I rx ry h
  obtain ⟨p, xs, i, z, rfl, rfl, hq, he, q⟩ := h
  cases rx
  obtain ⟨t, rfl⟩ := ry
  obtain ⟨its, r, pl, hz⟩ := I.list hq
  obtain ⟨j, h1, h2, h3, h4, h5⟩ := atI_get he
  obtain ⟨w, ew, rw'⟩ := r.get h2
  have hl := r.length
  have hn := line63
  have fin : EP X pins σ Q w s := ⟨z, H, I, rw', q⟩
  by_cases h0 : 0 ≤ i
  · have hj : i.toNat = j := by
      rw [seqIndex_of h0 h5] at h1
      exact Option.some.inj h1
    exact wpAny_getItem_list pl.isList h0 (by omega) (by rw [hj]; simpa using ew) fin
  · have hj : (i + (its.toArray.size : Int)).toNat = j := by
      rw [seqIndex_neg (by omega) h4] at h1
      rw [List.size_toArray, ← hl]
      exact Option.some.inj h1
    exact wpAny_getItem_list_neg pl.isList (by omega) (by rw [List.size_toArray] <;> omega) (by omega) (by rw [hj]; simpa using ew) fin
/-- a text, some times -/
theorem op_mul_str {X : Cx} : OpR X (binaryOp .Mult) (fun x y H Q => ∃ a k, x = .str a ∧ y = .int k ∧ k.natAbs < 2 ^ 60 ∧ a.length * k.toNat ≤ 16000000 ∧ Q (.str ⟨(List.replicate k.toNat a.cps.toList).flatten.toArray⟩) H) := by
  intro pins s σ H x y v u Q I rx ry h
  obtain ⟨a, k, rfl, rfl, hk, hl, q⟩ := h
  obtain ⟨t, rfl⟩ := rx
  obtain ⟨t', rfl⟩ := ry
  have hk1 : ¬ k < -(2 ^ 63 : Int) := by omega
  have hk2 : ¬ k ≥ 2 ^ 63 := by omega
  have foldE : ∀ (n : Nat) (c : Array Nat) (acc : Array Nat), (List.replicate n c).foldl (· ++ ·) acc = acc ++ ((List.replicate n c.toList).flatten).toArray := by
    intro n
    induction n with
    | zero => intro c acc; simp
    | succ n ih => intro c acc; rw [List.replicate_succ, List.foldl_cons, ih, List.replicate_succ, List.flatten_cons]; apply Array.ext'; simp
  refine PySem.P.mul_str (by rw [decide_eq_false hk1, decide_eq_false hk2]; rfl) (fun h1 _ => ?_) (fun h1 h2 => ?_) ?_
  · have hk3 : 1 ≤ k := by omega
    obtain ⟨n, rfl⟩ := Int.eq_ofNat_of_zero_le (show 0 ≤ k by omega)
    have h5 : a.length * n ≤ 16000000 := hl
    intro hgt
    have h6 : ((2 ^ 63 - 1 : Int)) / (n : Int) ≥ (a.length : Int) := by
      apply (Int.le_ediv_iff_mul_le (by omega)).mpr
      rw [← Int.natCast_mul]
      generalize a.length * n = m at h5 ⊢
      omega
    omega
  · unfold Builtin.Str.tooLong
    rw [decide_eq_false_iff_not]
    have : sizeLine = 16777216 := rfl
    omega
  · by_cases h1 : k < 1
    · rw [if_pos h1]
      have e : k.toNat = 0 := by omega
      rw [e] at q
      exact ⟨by decide, ⟨.str Str.empty, H, I.tok _, ⟨_, rfl⟩, q⟩⟩
    · rw [if_neg h1]
      by_cases h2 : (k == 1 || a.length == 0) = true
      · rw [if_pos h2]
        have e : (⟨(List.replicate k.toNat a.cps.toList).flatten.toArray⟩ : Str) = a := by
          refine TL.ext_tl ?_
          show (List.replicate k.toNat a.cps.toList).flatten = a.cps.toList
          rcases (Bool.or_eq_true _ _).mp h2 with z | z
          · have z : k = 1 := by simpa using z
            subst z; simp
          · have z : a.cps.toList = [] := by
              have : a.cps.toList.length = 0 := by simpa [Str.length] using z
              exact List.eq_nil_of_length_eq_zero this
            rw [z]; simp
        rw [e] at q
        exact ⟨.str a, H, I, ⟨_, rfl⟩, q⟩
      · rw [if_neg h2]
        refine ⟨?_, ⟨.str _, H, I.tok _, ⟨_, rfl⟩, ?_⟩⟩
        · have e := foldE k.toNat a.cps #[]
          show ((⟨(List.replicate k.toNat a.cps).foldl (· ++ ·) #[]⟩ : Str)).length ≤ sizeLine
          rw [e]
          simp only [Str.length, Array.empty_append, List.size_toArray, List.length_flatten, List.map_replicate, List.sum_replicate_nat, Array.length_toList]
          have : a.length = a.cps.size := rfl
          rw [← this, Nat.mul_comm]
          exact Nat.le_trans hl (by decide)
        · rw [foldE k.toNat a.cps #[]]
          simpa using q
/-- list(a text) -/
theorem call_listS {X : Cx} (hc : X.calm = true) : CallR X (.type "list") (fun xs H Q => ∃ z : Str, xs = [.str z] ∧ z.length ≤ sizeLine ∧ ∀ l, H l = none → Q (.ref l) (upd H l (.lst (z.cps.toList.map fun c => V.str ⟨#[c]⟩)))) := by
  intro pins s σ H xs us Q I r h
  obtain ⟨z, rfl, hz, q⟩ := h
  obtain ⟨u, rfl, t, rfl⟩ := vals1 r
  refine call_list_str (I.ok.hd hc) z t (fun h' tk acc' c' kp e it => ?_) hz
  have hl : acc'.size = z.cps.size := it.1
  have vr : ∀ (l : List Nat) (m : List Value), l.length = m.length → (∀ (j : Nat) w, m[j]? = some w → ∃ c u, l[j]? = some c ∧ w = .str ⟨#[c]⟩ u) → Vals (l.map fun c => V.str ⟨#[c]⟩) m := by
    intro l
    induction l with
    | nil => intro m h _; cases m with
      | nil => exact .nil
      | cons _ _ => cases h
    | cons c l ih =>
      intro m h g
      cases m with
      | nil => cases h
      | cons w m =>
        obtain ⟨c', u, e1, e2⟩ := g 0 w rfl
        cases e1
        exact .cons ⟨u, e2⟩ (ih m (by simpa using h) fun j w' hw => g (j + 1) w' (by simpa using hw))
  have rv : Vals (z.cps.toList.map fun c => V.str ⟨#[c]⟩) acc'.toList := vr _ _ (by simp [hl]) fun j w hw => by
    obtain ⟨c, u, e1, e2⟩ := it.2 j w (by simpa using hw)
    exact ⟨c, u, by simpa using e1, e2⟩
  refine ⟨.ref s.heap.objs.size, _, I.laid (t' := tk) kp (Nat.le_refl _) (show ObjOk X.prog X.w _ h' _ (.lst _) from ⟨by simpa [Str.length] using hz, acc'.toList, c', rv, by simpa using e⟩), rfl, q _ (I.hok.fresh (Nat.le_refl _))⟩
end L2
namespace Ml
open L2
open PySem (Addr Str sizeLine)
section
variable {C : Cc} {K : PySem.W.Frag}

/-! ### ints -/
theorem rv_int {C1 : Int → Int → Prop} {g : Int → Int → V} {f : Dv → Dv → Option Dv} (h : ∀ a b c, f a b = some c → ∃ i j, a = .int i ∧ b = .int j ∧ C1 i j ∧ ∀ Hs, Rep C.K C.sc Hs c (g i j)) : RV C (L2.rI C1 g) f := fun Z Hs e σ H k x y a b c Q ra rb hf w => by
  obtain ⟨i, j, rfl, rfl, hc, hr⟩ := h a b c hf
  simp only [Rep] at ra rb
  subst ra; subst rb
  exact ⟨i, j, rfl, rfl, hc, we_ok w k (hr Hs)⟩
theorem rv_int0 {g : Int → Int → V} {f : Dv → Dv → Option Dv} (h : ∀ a b c, f a b = some c → ∃ i j, a = .int i ∧ b = .int j ∧ ∀ Hs, Rep C.K C.sc Hs c (g i j)) : RV C (rI0 g) f := fun Z Hs e σ H k x y a b c Q ra rb hf w => by
  obtain ⟨i, j, rfl, rfl, hr⟩ := h a b c hf
  simp only [Rep] at ra rb
  subst ra; subst rb
  exact ⟨i, j, rfl, rfl, we_ok w k (hr Hs)⟩
theorem rv_or {r r' : L2.R2} {f f' g : Dv → Dv → Option Dv} (h : RV C r f) (h' : RV C r' f') (hg : ∀ a b c, g a b = some c → f a b = some c ∨ f' a b = some c) : RV C (fun x y H Q => r x y H Q ∨ r' x y H Q) g := fun Z Hs e σ H k x y a b c Q ra rb hf w => by
  rcases hg a b c hf with z | z
  · exact .inl (h Z Hs e σ H k x y a b c Q ra rb z w)
  · exact .inr (h' Z Hs e σ H k x y a b c Q ra rb z w)
theorem rv_addI : RV C (rI0 fun i j => .int (i + j)) (fun a b => match a, b with | .int a, .int b => some (.int (a + b)) | _, _ => none) := rv_int0 fun a b c h => by
  split at h
  · cases h; exact ⟨_, _, rfl, rfl, fun _ => by simp only [Rep]⟩
  · cases h
theorem rv_addS : RV C (fun x y H Q => ∃ i j, x = .str i ∧ y = .str j ∧ i.length + j.length ≤ sizeLine ∧ Q (.str (i ++ j)) H) (fun a b => match a, b with | .str a, .str b => if a.length + b.length ≤ lim then some (.str (a ++ b)) else none | _, _ => none) := fun Z Hs e σ H k x y a b c Q ra rb hf w => by
  dsimp only at hf
  split at hf
  · split at hf
    · rename_i hl
      cases hf
      simp only [Rep] at ra rb
      subst ra; subst rb
      refine ⟨_, _, rfl, rfl, by rw [slen, slen]; exact lim_line hl, ?_⟩
      rw [sapp]
      exact we_ok w k (by simp only [rD, Rep])
    · cases hf
  · cases hf
theorem rv_add : RV C (fun x y H Q => (rI0 fun i j => .int (i + j)) x y H Q ∨ (fun x y H Q => ∃ i j, x = .str i ∧ y = .str j ∧ i.length + j.length ≤ sizeLine ∧ Q (.str (i ++ j)) H) x y H Q) oAdd := rv_or rv_addI rv_addS fun a b c h => by
  unfold oAdd at h
  split at h
  · exact .inl h
  · exact .inr h
  · cases h
theorem rv_sub : RV C (rI0 fun i j => .int (i - j)) oSub := rv_int0 fun a b c h => by
  unfold oSub at h; split at h
  · cases h; exact ⟨_, _, rfl, rfl, fun _ => by simp only [Rep]⟩
  · cases h
theorem rv_mul : RV C (L2.rI CMul fun i j => .int (i * j)) oMul := rv_int fun a b c h => by
  unfold oMul at h; split at h
  · split at h
    · rename_i i j hc
      cases h
      refine ⟨i, j, rfl, rfl, ?_, fun _ => by simp only [Rep]⟩
      unfold CMul
      rcases hc with hc | hc
      · left; omega
      · right; omega
    · cases h
  · cases h
theorem rv_mulS : RV C (fun x y H Q => ∃ a k, x = .str a ∧ y = .int k ∧ k.natAbs < 2 ^ 60 ∧ a.length * k.toNat ≤ 16000000 ∧ Q (.str ⟨(List.replicate k.toNat a.cps.toList).flatten.toArray⟩) H) oRepS := fun Z Hs e σ H k x y a b c Q ra rb hf w => by
  unfold oRepS at hf
  split at hf
  · split at hf
    · rename_i hl
      cases hf
      simp only [Rep] at ra rb
      subst ra; subst rb
      refine ⟨_, _, rfl, rfl, hl.2, by rw [slen]; exact hl.1, ?_⟩
      exact we_ok w k (by simp only [rD, Rep])
    · cases hf
  · cases hf
theorem rv_div : RV C (L2.rI CDivN fun i j => .int (i.fdiv j)) oDiv := rv_int fun a b c h => by
  unfold oDiv at h; split at h
  · split at h
    · rename_i i j hc
      cases h
      exact ⟨i, j, rfl, rfl, hc, fun _ => by simp only [Rep]⟩
    · cases h
  · cases h
theorem rv_mod : RV C (L2.rI (fun _ j => j ≠ 0) fun i j => .int (i.fmod j)) oMod := rv_int fun a b c h => by
  unfold oMod at h; split at h
  · split at h
    · rename_i i j hc
      cases h
      exact ⟨i, j, rfl, rfl, hc, fun _ => by simp only [Rep]⟩
    · cases h
  · cases h
theorem pw_ok {i j : Int} (h : 0 ≤ j ∧ j ≤ 1000000 ∧ i.natAbs < 2 ^ 62) : CPow i j := ⟨h.1, h.2.1, Nat.lt_of_lt_of_le h.2.2 (by decide)⟩
theorem rv_pow : RV C (L2.rI CPow fun i j => .int (i ^ j.toNat)) oPow := rv_int fun a b c h => by
  unfold oPow at h; split at h
  · split at h
    · rename_i i j hc
      cases h
      exact ⟨i, j, rfl, rfl, pw_ok hc, fun _ => by simp only [Rep]⟩
    · cases h
  · cases h
theorem rv_shl : RV C (L2.rI CPow fun i j => .int (i * 2 ^ j.toNat)) oShl := rv_int fun a b c h => by
  unfold oShl at h; split at h
  · split at h
    · rename_i i j hc
      cases h
      exact ⟨i, j, rfl, rfl, pw_ok hc, fun _ => by simp only [Rep]⟩
    · cases h
  · cases h
theorem rv_lt : RV C (rI0 fun i j => .bl (decide (i < j))) oLt := rv_int0 fun a b c h => by
  unfold oLt at h; split at h
  · cases h; exact ⟨_, _, rfl, rfl, fun _ => by simp only [Rep]⟩
  · cases h
theorem rv_le : RV C (rI0 fun i j => .bl (decide (i ≤ j))) oLe := rv_int0 fun a b c h => by
  unfold oLe at h; split at h
  · cases h; exact ⟨_, _, rfl, rfl, fun _ => by simp only [Rep]⟩
  · cases h
theorem rv_gt : RV C (rI0 fun i j => .bl (decide (j < i))) oGt := rv_int0 fun a b c h => by
  unfold oGt at h; split at h
  · cases h; exact ⟨_, _, rfl, rfl, fun _ => by simp only [Rep]⟩
  · cases h
theorem rv_ge : RV C (rI0 fun i j => .bl (decide (j ≤ i))) oGe := rv_int0 fun a b c h => by
  unfold oGe at h; split at h
  · cases h; exact ⟨_, _, rfl, rfl, fun _ => by simp only [Rep]⟩
  · cases h
theorem r1_neg : R1 C (rU fun i => .int (-i)) oNeg := fun Z Hs e σ H k x a c Q ra hf w => by
  unfold oNeg at hf; split at hf
  · cases hf
    simp only [Rep] at ra; subst ra
    exact ⟨_, rfl, we_ok w k (by simp only [rD, Rep])⟩
  · cases hf

/-! ### ==, in -/
theorem sOf_inj {a b : List Nat} : (sOf a = sOf b) = (a = b) := by
  apply propext
  constructor
  · intro h
    have := congrArg (fun z : Str => z.cps.toList) h
    simpa using this
  · rintro rfl; rfl
theorem eqS_ok {Hs : Hp} {a b : Dv} {x y : V} {r : Bool} (h : eqS a b = some r) (ra : Rep C.K C.sc Hs a x) (rb : Rep C.K C.sc Hs b y) : scal x y = true ∧ r = decide (x = y) := by
  unfold eqS at h
  split at h <;> (try cases h) <;> (simp only [Rep] at ra rb; subst ra; subst rb) <;> first
    | exact ⟨rfl, by simp⟩
    | (refine ⟨rfl, ?_⟩; simp only [V.str.injEq, sOf_inj])
theorem rv_eq : RV C rEq oEq := fun Z Hs e σ H k x y a b c Q ra rb hf w => by
  obtain ⟨r, hr, rfl⟩ := Option.map_eq_some_iff.mp hf
  obtain ⟨h1, rfl⟩ := eqS_ok hr ra rb
  exact ⟨h1, we_ok w k (by simp only [rD, Rep])⟩
theorem rv_ne : RV C rNe oNe := fun Z Hs e σ H k x y a b c Q ra rb hf w => by
  obtain ⟨r, hr, rfl⟩ := Option.map_eq_some_iff.mp hf
  obtain ⟨h1, rfl⟩ := eqS_ok hr ra rb
  exact ⟨h1, we_ok w k (by simp only [rD, Rep])⟩
theorem rv_inS : RV C (fun x y H Q => ∃ (c : Nat) (z : Str), x = .str ⟨#[c]⟩ ∧ y = .str z ∧ Q (.bl (decide (c ∈ z.cps.toList))) H) oInS := fun Z Hs e σ H k x y a b c Q ra rb hf w => by
  unfold oInS at hf; split at hf
  · cases hf
    simp only [Rep] at ra rb; subst ra; subst rb
    exact ⟨_, _, rfl, rfl, we_ok w k (by simp only [rD, Rep])⟩
  · cases hf
theorem rv_niS : RV C (fun x y H Q => ∃ (c : Nat) (z : Str), x = .str ⟨#[c]⟩ ∧ y = .str z ∧ Q (.bl (!decide (c ∈ z.cps.toList))) H) oNiS := fun Z Hs e σ H k x y a b c Q ra rb hf w => by
  unfold oNiS at hf; split at hf
  · cases hf
    simp only [Rep] at ra rb; subst ra; subst rb
    exact ⟨_, _, rfl, rfl, we_ok w k (by simp only [rD, Rep])⟩
  · cases hf

/-! ### places -/
theorem getI_eq {α : Type} (xs : List α) (k : Int) : getI xs k = atI xs k := rfl
theorem getI_map {α β : Type} (f : α → β) (xs : List α) (k : Int) : getI (xs.map f) k = (getI xs k).map f := by
  unfold getI
  rw [List.length_map]
  cases ixn xs.length k with
  | none => rfl
  | some n => simp
theorem rv_ixL (hK : C.K = K) : RV C (rIxL K) oIxL := fun Z Hs e σ H k x y a b c Q ra rb hf w => by
  subst hK
  unfold oIxL at hf; split at hf
  · simp only [Rep] at ra rb; subst rb
    obtain ⟨p, xs, rfl, hx, rx⟩ := ra
    obtain ⟨v, e1, e2⟩ := getI_at hf rx
    exact ⟨p, xs, _, v, rfl, rfl, SqL.of (k.le _ _ hx), e1, we_ok w k e2⟩
  · simp only [Rep] at ra rb; subst rb
    obtain ⟨rfl, hx⟩ := ra
    obtain ⟨n, hn, rfl⟩ := Option.map_eq_some_iff.mp hf
    refine ⟨_, _, _, .int n, rfl, rfl, SqL.of (k.le _ _ hx), ?_, we_ok w k (by simp only [rD, Rep])⟩
    rw [← getI_eq, getI_map, hn]; rfl
  · cases hf
theorem rw_ix (hK : C.K = K) : RW C (rIxL K) wIx := fun Z Hs e σ H k p xs ds y b c Q hx rx rb hf w => by
  subst hK
  unfold wIx at hf; split at hf
  · simp only [Rep] at rb; subst rb
    obtain ⟨v, e1, e2⟩ := getI_at hf rx
    exact ⟨p, xs, _, v, rfl, rfl, SqL.of hx, e1, we_ok w k e2⟩
  · cases hf
theorem rv_ixT (hK : C.K = K) : RV C (rIxT K) oIxT := fun Z Hs e σ H k x y a b c Q ra rb hf w => by
  subst hK
  unfold oIxT at hf; split at hf
  · simp only [Rep] at ra rb; subst rb
    obtain ⟨p, xs, rfl, hx, rx⟩ := ra
    obtain ⟨v, e1, e2⟩ := getI_at hf rx
    exact ⟨p, xs, _, v, rfl, rfl, sqt_le k.le hx, e1, we_ok w k e2⟩
  · cases hf
theorem rv_ixS : RV C rIxS oIxS := fun Z Hs e σ H k x y a b c Q ra rb hf w => by
  unfold oIxS at hf; split at hf
  · split at hf
    · rename_i s n hl
      obtain ⟨c', hc, rfl⟩ := Option.map_eq_some_iff.mp hf
      simp only [Rep] at ra rb; subst ra; subst rb
      exact ⟨_, n, c', rfl, rfl, by rw [slen]; exact lim_line hl, by rw [← getI_eq]; simpa using hc, we_ok w k (by simp only [rD, Rep])⟩
    · cases hf
  · cases hf
theorem rv_ix (hK : C.K = K) : RV C (rIx K) oIx := rv_or (rv_ixL hK) (rv_or (g := fun a b => match oIxT a b with | some c => some c | none => oIxS a b) (rv_ixT hK) rv_ixS fun a b c h => by
    cases q : oIxT a b with
    | some d => simp only [q] at h; exact .inl h
    | none => simp only [q] at h; exact .inr h) fun a b c h => by
  unfold oIx at h
  split at h
  · exact .inl h
  · refine .inr ?_
    show (match getI _ _ with | some c => some c | none => none) = some c
    rw [h]
  · exact .inl h
  · exact .inr h
  · cases h
theorem r1_len (hK : C.K = K) : RC1 C (fun xs H Q => ∃ x' n, xs = [x'] ∧ LenV K x' H n ∧ Q (.int n) H) oLen := fun Z Hs e σ H k x a c Q ra hf w => by
  subst hK
  refine ⟨x, ?_⟩
  unfold oLen at hf; split at hf
  · split at hf
    · rename_i s hl
      cases hf
      simp only [Rep] at ra; subst ra
      exact ⟨s.length, rfl, ⟨by rw [slen]; exact lim_line hl, by rw [slen]⟩, we_ok w k (by simp only [rD, Rep])⟩
    · cases hf
  · cases hf
    simp only [Rep] at ra
    obtain ⟨p, xs, rfl, hx, rx⟩ := ra
    exact ⟨_, rfl, .inl ⟨xs, SqL.of (k.le _ _ hx), (reps_len rx).symm⟩, we_ok w k (by simp only [rD, Rep])⟩
  · cases hf
    simp only [Rep] at ra
    obtain ⟨p, xs, rfl, hx, rx⟩ := ra
    exact ⟨_, rfl, .inr ⟨xs, sqt_le k.le hx, (reps_len rx).symm⟩, we_ok w k (by simp only [rD, Rep])⟩
  · rename_i ns'
    cases hf
    simp only [Rep] at ra
    obtain ⟨rfl, hx⟩ := ra
    exact ⟨ns'.length, rfl, .inl ⟨_, SqL.of (k.le _ _ hx), by simp⟩, we_ok w k (by simp only [rD, Rep])⟩
  · cases hf
theorem rw_len (hK : C.K = K) : RCW C (fun xs H Q => ∃ x' n, xs = [x'] ∧ LenV K x' H n ∧ Q (.int n) H) wLen := fun Z Hs e σ H k p xs ds c Q hx rx hf w => by
  subst hK
  cases hf
  exact ⟨_, _, rfl, .inl ⟨xs, SqL.of hx, (reps_len rx).symm⟩, we_ok w k (by simp only [rD, Rep])⟩

/-! ### calls of what is built in -/
theorem r1_abs : RC1 C (fun xs H Q => ∃ i, xs = [V.int i] ∧ Q (.int (if i < 0 then -i else i)) H) oAbs := fun Z Hs e σ H k x a c Q ra hf w => by
  unfold oAbs at hf; split at hf
  · cases hf
    simp only [Rep] at ra; subst ra
    exact ⟨_, rfl, we_ok w k (by simp only [rD, Rep])⟩
  · cases hf
theorem r1_int : RC1 C (fun xs H Q => (∃ i, xs = [V.int i] ∧ Q (.int i) H) ∨ ∃ k, xs = [V.bl k] ∧ Q (.int (if k then 1 else 0)) H) oInt := fun Z Hs e σ H k x a c Q ra hf w => by
  unfold oInt at hf; split at hf
  · cases hf
    simp only [Rep] at ra; subst ra
    exact .inl ⟨_, rfl, we_ok w k (by simp only [rD, Rep])⟩
  · cases hf
    simp only [Rep] at ra; subst ra
    exact .inr ⟨_, rfl, we_ok w k (by simp only [rD, Rep])⟩
  · cases hf
theorem r1_str : RC1 C (fun xs H Q => ∃ i, xs = [V.int i] ∧ i.natAbs.log2 < 1920 ∧ Q (.str (toString i)) H) oStr := fun Z Hs e σ H k x a c Q ra hf w => by
  unfold oStr at hf; split at hf
  · split at hf
    · rename_i i hl
      cases hf
      simp only [Rep] at ra; subst ra
      refine ⟨i, rfl, ?_, we_ok w k ?_⟩
      · by_cases h0 : i.natAbs = 0
        · rw [h0]; decide
        · have := (Nat.log2_lt h0).mpr (Nat.lt_of_lt_of_le hl (Nat.pow_le_pow_right (by decide) (show 900 ≤ 1920 by decide)))
          exact this
      · simp only [rD, Rep]
        congr 1
        exact TL.ext_tl (TL.tl_ofString _)
    · cases hf
  · cases hf
theorem r1_tup (hK : C.K = K) : RC1 C (fun xs H Q => ∃ p ys, xs = [V.ref p] ∧ ((SqL K H p ys ∧ ∀ l, H l = none → Q (.ref l) (upd H l (.tup ys))) ∨ (SqT K H p ys ∧ Q (.ref p) H))) oTup := fun Z Hs e σ H k x a c Q ra hf w => by
  subst hK
  unfold oTup at hf; split at hf
  · cases hf
    simp only [Rep] at ra
    obtain ⟨p, xs, rfl, hx, rx⟩ := ra
    refine ⟨p, xs, rfl, .inl ⟨SqL.of (k.le _ _ hx), fun l hl => we_new w k hl ?_⟩⟩
    simp only [rD, Rep]
    exact ⟨l, xs, rfl, SqT.of upd_same, reps_le (Le.new (k.hs_none hl)) rx⟩
  · cases hf
    simp only [Rep] at ra
    obtain ⟨p, xs, rfl, hx, rx⟩ := ra
    refine ⟨p, xs, rfl, .inr ⟨sqt_le k.le hx, we_ok w k ?_⟩⟩
    simp only [rD, Rep]
    exact ⟨p, xs, rfl, hx, rx⟩
  · cases hf
theorem rw_tup (hK : C.K = K) : RCW C (fun xs H Q => ∃ p ys, xs = [V.ref p] ∧ ((SqL K H p ys ∧ ∀ l, H l = none → Q (.ref l) (upd H l (.tup ys))) ∨ (SqT K H p ys ∧ Q (.ref p) H))) wTup := fun Z Hs e σ H k p xs ds c Q hx rx hf w => by
  subst hK
  cases hf
  refine ⟨p, xs, rfl, .inl ⟨SqL.of hx, fun l hl => we_new w k hl ?_⟩⟩
  simp only [rD, Rep]
  exact ⟨l, xs, rfl, SqT.of upd_same, reps_le (Le.new (k.hs_none hl)) rx⟩
theorem bools_of {Hs : Hp} : ∀ {ds : List Dv} {bs : List Bool} {xs : List V}, boolsOf ds = some bs → Reps C.K C.sc Hs ds xs → xs = bs.map V.bl
  | [], bs, xs, h, r => by cases h; simp only [Reps] at r; rw [r]; rfl
  | .bl b :: ds, bs, xs, h, r => by
    obtain ⟨b', h', rfl⟩ := Option.map_eq_some_iff.mp h
    simp only [Reps] at r
    obtain ⟨v, q, rfl, r1, r2⟩ := r
    simp only [Rep] at r1
    rw [bools_of h' r2, r1]; rfl
  | .non :: _, _, _, h, _ => by cases h
  | .int _ :: _, _, _, h, _ => by cases h
  | .str _ :: _, _, _, h, _ => by cases h
  | .tup _ :: _, _, _, h, _ => by cases h
  | .lst _ :: _, _, _, h, _ => by cases h
  | .scr _ :: _, _, _, h, _ => by cases h
  | .dct _ _ :: _, _, _, h, _ => by cases h
  | .exc _ _ _ :: _, _, _, h, _ => by cases h
theorem r1_all (hK : C.K = K) : RC1 C (rAll K) oAll := fun Z Hs e σ H k x a c Q ra hf w => by
  subst hK
  unfold oAll at hf; split at hf
  · obtain ⟨bs, hb, rfl⟩ := Option.map_eq_some_iff.mp hf
    simp only [Rep] at ra
    obtain ⟨p, xs, rfl, hx, rx⟩ := ra
    have ex := bools_of hb rx
    subst ex
    exact ⟨p, bs, rfl, SqL.of (k.le _ _ hx), we_ok w k (by simp only [rD, Rep])⟩
  · cases hf
theorem strs_of {Hs : Hp} : ∀ {ds : List Dv} {bs : List (List Nat)} {xs : List V}, strsOf ds = some bs → Reps C.K C.sc Hs ds xs → xs = (bs.map sOf).map V.str
  | [], bs, xs, h, r => by cases h; simp only [Reps] at r; rw [r]; rfl
  | .str b :: ds, bs, xs, h, r => by
    obtain ⟨b', h', rfl⟩ := Option.map_eq_some_iff.mp h
    simp only [Reps] at r
    obtain ⟨v, q, rfl, r1, r2⟩ := r
    simp only [Rep] at r1
    rw [strs_of h' r2, r1]; rfl
  | .non :: _, _, _, h, _ => by cases h
  | .int _ :: _, _, _, h, _ => by cases h
  | .bl _ :: _, _, _, h, _ => by cases h
  | .tup _ :: _, _, _, h, _ => by cases h
  | .lst _ :: _, _, _, h, _ => by cases h
  | .scr _ :: _, _, _, h, _ => by cases h
  | .dct _ _ :: _, _, _, h, _ => by cases h
  | .exc _ _ _ :: _, _, _, h, _ => by cases h
theorem join_tl (s : List Nat) : ∀ l : List (List Nat), TL.joinL s l = joinN s l
  | [] => rfl
  | [_] => rfl
  | a :: b :: r => by
    show a ++ (s ++ TL.joinL s (b :: r)) = a ++ (s ++ joinN s (b :: r))
    rw [join_tl s (b :: r)]
/-- a text's method -/
theorem se_m1 {r : V → List V → Hp → VK → Prop} {f : List Nat → Dv → Option Dv} {ta tb : TE} {ma mb : ME Dv} (hr : ∀ Z Hs e σ H, StOk C Z Hs e σ H → ∀ s y b c Q, Rep C.K C.sc Hs b y → f s b = some c → WE C Z σ Hs H (rD C) (.ok c e) Q → r (.str (sOf s)) [y] H Q)
    (ha : SE C ta ma) (hb : SE C tb mb) : SE C (tM1 r ta tb) (mM1 f ma mb) := fun Z Hs e σ H k Q w =>
  ha Z Hs e σ H k _ (we_bind (fun a e1 x Hs1 H1 _ k1 r1 w1 => by
    cases a with
    | str s =>
      have rx : x = .str (sOf s) := by simpa only [rD, Rep] using r1
      subst rx
      refine ⟨⟨_, rfl⟩, hb Z Hs1 e1 σ H1 k1 _ (we_bind (fun b e2 y Hs2 H2 p2 k2 r2 w2 => ?_) w1)⟩
      obtain ⟨c, hc, w3⟩ := we_of w2
      exact hr Z Hs2 e2 σ H2 k2 s y b c Q r2 hc w3
    | _ => exact w1.elim) w)
theorem seo_m1 {r : V → List V → Hp → VK → Prop} {f : List Nat → Dv → Option (List Dv)} {ta tb : TE} {ma mb : ME Dv} (hr : ∀ Z Hs e σ H, StOk C Z Hs e σ H → ∀ s y b c Q, Rep C.K C.sc Hs b y → f s b = some c → WE C Z σ Hs H (rO C Z σ) (.ok (.lst c) e) Q → r (.str (sOf s)) [y] H Q)
    (ha : SE C ta ma) (hb : SE C tb mb) : SEO C (tM1 r ta tb) (mM1N f ma mb) := fun Z Hs e σ H k Q w =>
  ha Z Hs e σ H k _ (we_bind (fun a e1 x Hs1 H1 _ k1 r1 w1 => by
    cases a with
    | str s =>
      have rx : x = .str (sOf s) := by simpa only [rD, Rep] using r1
      subst rx
      refine ⟨⟨_, rfl⟩, hb Z Hs1 e1 σ H1 k1 _ (we_bind (fun b e2 y Hs2 H2 p2 k2 r2 w2 => ?_) w1)⟩
      obtain ⟨o, ho, w3⟩ := we_of w2
      obtain ⟨c, hc, rfl⟩ := Option.map_eq_some_iff.mp ho
      exact hr Z Hs2 e2 σ H2 k2 s y b c Q r2 hc w3
    | _ => exact w1.elim) w)
/-- s.join(list) -/
theorem se_join {ta tb : TE} {ma mb : ME Dv} (hK : C.K = K) (ha : SE C ta ma) (hb : SE C tb mb) : SE C (tM1 (fun x xs H Q => ∃ a p, ∃ ys : List Str, x = .str a ∧ xs = [.ref p] ∧ (SqL K H p (ys.map V.str) ∨ SqT K H p (ys.map V.str)) ∧
      (ys.map (·.length)).sum + ys.length * a.length ≤ 16777216 ∧ Q (.str (PySem.Txt.join a ys)) H) ta tb) (mM1 oJoin ma mb) := se_m1 (fun Z Hs2 e2 σ H2 k2 s y b c Q r2 hc w3 => by
  unfold oJoin at hc
  split at hc
  · rename_i ds
    obtain ⟨xs, hx, hc⟩ := Option.bind_eq_some_iff.mp hc
    split at hc
    · rename_i hl
      cases hc
      simp only [Rep] at r2
      obtain ⟨p, zs, rfl, hz, rz⟩ := r2
      have ez := strs_of hx rz
      subst ez
      refine ⟨sOf s, p, xs.map sOf, rfl, rfl, .inl (SqL.of (k2.le _ _ hz)), ?_, we_ok w3 k2 ?_⟩
      · have e1 : (xs.map sOf).map (·.length) = xs.map List.length := by
          rw [List.map_map]; exact List.map_congr_left fun a _ => slen a
        rw [e1, List.length_map, slen]
        exact Nat.le_trans hl (by decide)
      · simp only [rD, Rep]
        congr 1
        rw [TL.join_eq]
        refine TL.ext_tl ?_
        rw [TL.tl_join]
        have e2 : (xs.map sOf).map TL.tl = xs := by
          rw [List.map_map]
          conv => rhs; rw [← List.map_id xs]
          exact List.map_congr_left fun a _ => rfl
        rw [e2]
        exact join_tl s xs
    · cases hc
  · cases hc) ha hb
theorem spl_one (c : Nat) : ∀ (l acc : List Nat), TL.spl [c] 0 acc l = splitN c acc l
  | [], acc => by rw [TL.spl_nil]; rfl
  | x :: r, acc => by
    unfold splitN
    by_cases h : x = c
    · rw [if_pos h, TL.spl_hit (by subst h; simp [TL.pre])]
      show acc :: TL.spl [c] 0 [] r = _
      rw [spl_one c r []]
    · rw [if_neg h, TL.spl_miss (by simpa [TL.pre] using h), spl_one c r (acc ++ [x])]
/-- s.split(sign) -/
theorem seo_split {ta tb : TE} {ma mb : ME Dv} (ha : SE C ta ma) (hb : SE C tb mb) : SEO C (tM1 (fun x xs H Q => ∃ a b, x = .str a ∧ xs = [.str b] ∧ (b.length == 0) = false ∧ a.length + 2 ≤ sizeLine ∧ rNewStrs (PySem.Txt.split a b) H Q) ta tb) (mM1N oSplit ma mb) := seo_m1 (fun Z Hs2 e2 σ H2 k2 s y b c Q r2 hc w3 => by
  unfold oSplit at hc
  split at hc
  · rename_i ch
    split at hc
    · rename_i hl
      cases hc
      simp only [Rep] at r2
      subst r2
      refine ⟨sOf s, sOf [ch], rfl, rfl, rfl, by rw [slen]; exact lim_line hl.2, fun p hp => ?_⟩
      have es : (PySem.Txt.split (sOf s) (sOf [ch])).map TL.tl = splitN ch [] s := by
        rw [TL.split_spl _ _ (by simp [TL.tl]) (TL.kind_ok (by simp; omega))]
        exact spl_one ch s []
      refine we_newO w3 k2 hp ?_
      rw [← es, List.map_map]
      have : ∀ l : List Str, Reps C.K C.sc Hs2 (l.map (Dv.str ∘ TL.tl)) (l.map V.str) := by
        intro l
        induction l with
        | nil => exact reps_nil
        | cons z l ih => exact reps_cons (by simp only [Function.comp, Rep]) ih
      exact this _
    · cases hc
  · cases hc) ha hb
/-- list(a text) -/
theorem rn_listS : RCN C (fun xs H Q => ∃ z : Str, xs = [V.str z] ∧ z.length ≤ sizeLine ∧ ∀ l, H l = none → Q (.ref l) (upd H l (.lst (z.cps.toList.map fun c => V.str ⟨#[c]⟩)))) listS := fun Z Hs e σ H k x a c Q ra hf w => by
  unfold listS at hf
  split at hf
  · split at hf
    · rename_i s hl
      cases hf
      simp only [Rep] at ra; subst ra
      refine ⟨_, rfl, by rw [slen]; exact lim_line hl, fun l hp => we_newO w k hp ?_⟩
      have : ∀ l : List Nat, Reps C.K C.sc Hs (l.map fun c => Dv.str [c]) (l.map fun c => V.str ⟨#[c]⟩) := by
        intro l
        induction l with
        | nil => exact reps_nil
        | cons z l ih => exact reps_cons (by simp only [Rep]) ih
      exact this s
    · cases hf
  · cases hf
/-! ### slices -/
def SO (C : Cc) (t : TO) (m : ME (Option Int)) : Prop := ∀ Z Hs e σ H, StOk C Z Hs e σ H → ∀ Q, WE C Z σ Hs H (fun o _ o' _ _ => o = o') (m e) Q → t σ H Q
theorem so_none : SO C tNoPart (mPart none) := fun Z Hs e σ H k Q w => we_ok w k rfl
theorem so_some {te : TE} {me : ME Dv} (h : SE C te me) : SO C (tPart te) (mPart (some me)) := fun Z Hs e σ H k Q w =>
  h Z Hs e σ H k _ (we_bind (fun a e1 x Hs1 H1 _ k1 r1 w1 => by
    cases a with
    | int n =>
      have rx : x = .int n := by simpa only [rD, Rep] using r1
      subst rx
      exact ⟨n, rfl, we_ok w1 k1 rfl⟩
    | _ => exact w1.elim) w)
theorem sIx_eq (n d : Nat) (o : Option Int) : sIx n d o = HT.sIx n d o := by
  cases o <;> rfl
theorem se_slS {te : TE} {me : ME Dv} {tl th : TO} {ml mh : Option (ME Dv)} (h : SE C te me) (hl : SO C tl (mPart ml)) (hh : SO C th (mPart mh)) : SE C (tSl rSlS te tl th) (mSl slS me ml mh) := fun Z Hs e σ H k Q w =>
  h Z Hs e σ H k _ (we_bind (fun a e1 x Hs1 H1 p1 k1 r1 w1 => hl Z Hs1 e1 σ H1 k1 _ (we_bind (fun lo e2 lo' Hs2 H2 p2 k2 r2 w2 => hh Z Hs2 e2 σ H2 k2 _ (we_bind (fun hi e3 hi' Hs3 H3 p3 k3 r3 w3 => by
    have r2 : lo = lo' := r2
    have r3 : hi = hi' := r3
    subst r2; subst r3
    obtain ⟨c, hc, w4⟩ := we_of w3
    unfold slS at hc
    split at hc
    · split at hc
      · rename_i hlen
        cases hc
        simp only [rD, Rep] at r1
        subst r1
        refine ⟨_, rfl, by rw [slen]; exact lim_line hlen, we_ok w4 k3 ?_⟩
        simp only [rD, Rep]
        rfl
      · cases hc
    · cases hc) w2)) w1)) w)
/-! ### isinstance -/
theorem r2_isT (hK : C.K = K) {f : Dv → Option Dv} {T : String} (h : ∀ d c, f d = some c → ∃ b, c = .bl b ∧ match d with
    | .tup _ => kitB "tuple" T = some b
    | .lst _ => kitB "list" T = some b
    | .int _ => kitB "int" T = some b
    | .str _ => kitB "str" T = some b
    | .bl _ => kitB "bool" T = some b
    | .non => kitB "NoneType" T = some b
    | .scr _ => False
    | .dct _ _ => False
    | .exc _ _ _ => False) {ta : TE} {ma : ME Dv} (ha : SE C ta ma) : SE C (tCB (rIsi K) (tCons ta (tCons (tC (.ty T)) tNil))) (mO1 f ma) := fun Z Hs e σ H k Q w =>
  ha Z Hs e σ H k _ (we_bind (fun a e1 x Hs1 H1 _ k1 r1 w1 => by
    subst hK
    obtain ⟨c, hc, w2⟩ := we_of w1
    obtain ⟨b, rfl, hb⟩ := h a c hc
    have fin : ∀ (t : PySem.Value), TyX C.K H1 x t → PySem.W.kitOne C.K t (.type T) = some b → (rIsi C.K) [x, .ty T] H1 Q := fun t h1 h2 => ⟨x, .ty T, t, .type T, b, rfl, .ty T, h1, h2, we_ok w2 k1 (by simp only [rD, Rep])⟩
    cases a with
    | tup ds =>
      simp only [rD, Rep] at r1
      obtain ⟨p, xs, rfl, hx, rx⟩ := r1
      have hx := sqt_le k1.le hx
      rcases hx with (hx | ⟨o, hx⟩) | ⟨o, its, n, hk, hcl, _⟩
      · exact fin _ (.base (.tup hx)) (kit_ty hb)
      · exact fin _ (.fTuple hx) (kit_ty hb)
      · exact fin _ (.kTuple hk hcl) (kit_ty hb)
    | lst ds =>
      simp only [rD, Rep] at r1
      obtain ⟨p, xs, rfl, hx, rx⟩ := r1
      exact fin _ (.base (.lst (k1.le _ _ hx))) (kit_ty hb)
    | int i => simp only [rD, Rep] at r1; subst r1; exact fin _ (.base (.int i)) (kit_ty hb)
    | str s => simp only [rD, Rep] at r1; subst r1; exact fin _ (.base (.str _)) (kit_ty hb)
    | bl b' => simp only [rD, Rep] at r1; subst r1; exact fin _ (.base (.bl b')) (kit_ty hb)
    | non => simp only [rD, Rep] at r1; subst r1; exact fin _ (.base .non) (kit_ty hb)
    | scr ns => exact hb.elim
    | dct _ _ => exact hb.elim
    | exc _ _ _ => exact hb.elim) w)
theorem se_isT (hK : C.K = K) {ta : TE} {ma : ME Dv} (ha : SE C ta ma) : SE C (tCB (rIsi K) (tCons ta (tCons (tC (.ty "tuple")) tNil))) (mO1 oIsT ma) := r2_isT hK (fun d c h => match d, h with
  | .tup ds, h => by cases h; exact ⟨_, rfl, (by decide +kernel : kitB "tuple" "tuple" = some true)⟩
  | .lst ds, h => by cases h; exact ⟨_, rfl, (by decide +kernel : kitB "list" "tuple" = some false)⟩
  | .int i, h => by cases h; exact ⟨_, rfl, (by decide +kernel : kitB "int" "tuple" = some false)⟩
  | .str x, h => by cases h; exact ⟨_, rfl, (by decide +kernel : kitB "str" "tuple" = some false)⟩
  | .bl x, h => by cases h; exact ⟨_, rfl, (by decide +kernel : kitB "bool" "tuple" = some false)⟩
  | .non, h => by cases h; exact ⟨_, rfl, (by decide +kernel : kitB "NoneType" "tuple" = some false)⟩
  | .scr ns, h => by cases h
  | .dct _ _, h => by cases h
  | .exc _ _ _, h => by cases h) ha
theorem se_isS (hK : C.K = K) {ta : TE} {ma : ME Dv} (ha : SE C ta ma) : SE C (tCB (rIsi K) (tCons ta (tCons (tC (.ty "str")) tNil))) (mO1 oIsS ma) := r2_isT hK (fun d c h => match d, h with
  | .tup ds, h => by cases h; exact ⟨_, rfl, (by decide +kernel : kitB "tuple" "str" = some false)⟩
  | .lst ds, h => by cases h; exact ⟨_, rfl, (by decide +kernel : kitB "list" "str" = some false)⟩
  | .int i, h => by cases h; exact ⟨_, rfl, (by decide +kernel : kitB "int" "str" = some false)⟩
  | .str x, h => by cases h; exact ⟨_, rfl, (by decide +kernel : kitB "str" "str" = some true)⟩
  | .bl x, h => by cases h; exact ⟨_, rfl, (by decide +kernel : kitB "bool" "str" = some false)⟩
  | .non, h => by cases h; exact ⟨_, rfl, (by decide +kernel : kitB "NoneType" "str" = some false)⟩
  | .scr ns, h => by cases h
  | .dct _ _, h => by cases h
  | .exc _ _ _, h => by cases h) ha
end
end Ml

set_option linter.all false
set_option autoImplicit false
set_option maxRecDepth 100000
set_option maxHeartbeats 1000000
/-! Defs by their names, and the law's own end. -/
namespace Ml
open PySem PySem.Spec PyProof.Rows L2

section
variable {P : Program} {w : World} {K : PySem.W.Frag} {mg : Str → Option Value} {base : Heap}
/-- a def of the text, under its name -/
def DefK (K : PySem.W.Frag) (x : Str) (st : Stmt) : Prop := ∃ f fd, PySem.W.nsIn K mainGlobals x = some (some (.ref f)) ∧ Fun K x x st f fd
theorem defK_mk {x : Str} {st : Stmt} {f : Addr} {oc : Value} {od an : Option Addr} {osl : Array (Option Value)} {kV doc pm cdv ct : Value} (a : PySem.W.nsIn K mainGlobals x = some (some (.ref f)))
    (l : K.lookup f = some ⟨oc, od, .func (PySem.W.fnOf x x (defArgs st) (defBody st) (defScope st) .none kV doc pm an cdv ct), osl⟩) (c : PySem.W.codeIn K cdv x = true) (k : PySem.W.keepIn K (.ref f) = true) : DefK K x st :=
  ⟨f, _, a, fun_mk l c k⟩
abbrev FreeK (K : PySem.W.Frag) (x : Str) : Prop := PySem.W.nsIn K mainGlobals x = some none
def ConK (K : PySem.W.Frag) (x : Str) (v : V) : Prop := ∃ u, PySem.W.nsIn K mainGlobals x = some (some u) ∧ RelV v u
theorem conK_s {x s : Str} {t : Tok} (a : PySem.W.nsIn K mainGlobals x = some (some (.str s t))) : ConK K x (.str s) := ⟨_, a, t, rfl⟩
theorem conK_i {x : Str} {s : Int} {t : Tok} (a : PySem.W.nsIn K mainGlobals x = some (some (.int s t))) : ConK K x (.int s) := ⟨_, a, t, rfl⟩
/-- what the module's names hold -/
structure Mg (K : PySem.W.Frag) (mg : Str → Option Value) : Prop where
  get : ∀ {y u}, PySem.W.nsIn K mainGlobals y = some (some u) → mg y = some u
  none : ∀ {y}, PySem.W.nsIn K mainGlobals y = some none → mg y = none
theorem mg_mk {h : Heap} (X : K.In h) (G : h.Ns mainGlobals mg) : Mg K mg := ⟨fun a => PySem.W.mg_of X G a, fun a => PySem.W.mg_none_of X G a⟩
theorem Mg.con {x : Str} {v : V} (M : Mg K mg) (c : ConK K x v) : ∃ u, mg x = some u ∧ RelV v u := let ⟨u, a, r⟩ := c; ⟨u, M.get a, r⟩
theorem Mg.free {x : Str} (M : Mg K mg) (c : FreeK K x) : mg x = Option.none := M.none c

/-- a def that may be called by its name -/
structure Kept (P : Program) (w : World) (K : PySem.W.Frag) (mg : Str → Option Value) (base : Heap) (CX : CXT) (k : Nat) (x : Str) (sp : Sp) : Prop where
  ex : ∃ (f : Addr) (fd : FuncData) (ps : List Str), FnOk P w K mg base CX k f fd ps sp ∧ mg x = some (.ref f) ∧ PySem.W.keepIn K (.ref f) = true ∧ Binds K fd ps []
theorem pass00 {X : Cx} {E : XK} : Passes CX0 X E := fun _ _ _ _ _ _ _ h => h.elim
/-- a def keeps its mirror -/
theorem cl_of {x : Str} {st : Stmt} {N ps : List Str} {k : Nat} {RE : Err → Value → Option Addr → Hp → Hp → Prop} {F : Fn} {np nl : Nat} {m : MS} (D : DefK K x st) (M : Mg K mg)
    (hb : ∀ (kV doc pm : Value) (an : Option Addr) (cdv ct : Value) (us : List Value), us.length = ps.length → bindArgs (PySem.W.fnOf x x (defArgs st) (defBody st) (defScope st) .none kV doc pm an cdv ct) ⟨us, []⟩ = pure (ps.zip us))
    (S : FnScope N ps (defScope st)) (hF : F = mkFn np nl m) (hN : N.length = np + nl) (hp : ps.length = np)
    (hbody : ∀ (f : Addr) (cdv : Value) (A' : Around) (outer : List Env) (s : Shared) (H : Hp) (E : XK), Room k (A'.deeper (envOfC x (defScope st) s.heap.objs.size f cdv)) →
      ∃ A t, PSs (cxOf CX0 P w K mg base N x (defScope st) f cdv A' outer s H E).nox (defBody st) t ∧ ∀ sc Hs Ps, SS ⟨K, sc, H, Ps, Hs, fun c od _ H => E c od H, RE⟩ A t m) : Kept P w K mg base CX0 (k + 1) x (spM K RE F) := by
  obtain ⟨f, fd, hn, Fd⟩ := D
  refine ⟨f, fd, ps, ?_, M.get hn, Fd.kp, Fd.binds hb⟩
  refine Fd.ok S (fun vs H Q E h => by rw [spM_len hF h, hp]) fun cdv A' outer s H vs Q E hr h => ?_
  obtain ⟨A, t, h1, h2⟩ := hbody f cdv A' outer s H E hr
  exact ⟨t, h1, fn_red hF hN h fun sc Hs Ps => h2 sc Hs Ps⟩
/-- .., a def that may raise -/
theorem cl_ofX {x : Str} {st : Stmt} {N ps : List Str} {k : Nat} {RE : Err → Value → Option Addr → Hp → Hp → Prop} {F : Fn} {np nl : Nat} {m : MS} (D : DefK K x st) (M : Mg K mg)
    (hb : ∀ (kV doc pm : Value) (an : Option Addr) (cdv ct : Value) (us : List Value), us.length = ps.length → bindArgs (PySem.W.fnOf x x (defArgs st) (defBody st) (defScope st) .none kV doc pm an cdv ct) ⟨us, []⟩ = pure (ps.zip us))
    (S : FnScope N ps (defScope st)) (hF : F = mkFn np nl m) (hN : N.length = np + nl) (hp : ps.length = np)
    (hbody : ∀ (f : Addr) (cdv : Value) (A' : Around) (outer : List Env) (s : Shared) (H : Hp) (E : XK), Room k (A'.deeper (envOfC x (defScope st) s.heap.objs.size f cdv)) →
      Takes (cxOf (L2.CX P w) P w K mg base N x (defScope st) f cdv A' outer s H E) (fun c od _ H => E c od H) → PassesOwn (model P w) (cxOf (L2.CX P w) P w K mg base N x (defScope st) f cdv A' outer s H E).A (cxOf (L2.CX P w) P w K mg base N x (defScope st) f cdv A' outer s H E).env (cxOf (L2.CX P w) P w K mg base N x (defScope st) f cdv A' outer s H E).xe →
      ∃ A t, PSs (cxOf (L2.CX P w) P w K mg base N x (defScope st) f cdv A' outer s H E) (defBody st) t ∧ ∀ sc Hs Ps, SS ⟨K, sc, H, Ps, Hs, fun c od _ H => E c od H, RE⟩ A t m) : Kept P w K mg base (L2.CX P w) (k + 1) x (spM K RE F) := by
  obtain ⟨f, fd, hn, Fd⟩ := D
  refine ⟨f, fd, ps, ?_, M.get hn, Fd.kp, Fd.binds hb⟩
  refine Fd.okX S (fun vs H Q E h => by rw [spM_len hF h, hp]) fun cdv A' outer s H vs Q E hr h => ?_
  obtain ⟨A, t, h1, h2⟩ := hbody f cdv A' outer s H E hr (takes_of rfl rfl rfl rfl) (passes_of rfl)
  exact ⟨t, h1, fn_red hF hN h fun sc Hs Ps => h2 sc Hs Ps⟩
end
section
variable {X : Cx} {CX : CXT} {k j : Nat} {x : Str} {sp : Sp} {E : XK} {p pos : Pos} {e : Expr} {es : List Expr} {t : TA}
/-- a def that raises nothing lets nothing out -/
theorem pass0S {X : Cx} {E : L2.St → XK} : ∀ σ, PassesAt CX0 X σ (E σ) := fun _ _ _ _ _ _ _ h => h.elim
theorem pe_callS0 {E : L2.St → XK} {f : Addr} {fd : FuncData} {ps : List Str} (F : FnOk X.prog X.w X.K X.mg X.base CX k f fd ps sp) (hr : Room k X.A) (hg : Gl X x) (hm : X.mg x = some (.ref f)) (hk : PySem.W.keepIn X.K (.ref f) = true) (hb : Binds X.K fd ps []) (hx : ∀ σ, PassesAt CX X σ (E σ))
    (hdb : (x == ("__debug__" : Str)) = false := by decide) : PE X (.Call (.Name x p) [] [] pos) (tCallS sp E tNil) := by
  refine ⟨fun pins s σ H Q I h => ?_⟩
  refine wpAny_Call_Name_kw (ld_glob I hg hm ?_ hdb)
  exact PySem.W.callWith_K0 I.kIn hk (run_fnS (us := []) F hr hb (hx σ) I .nil h)
theorem pe_clS {E : L2.St → XK} (c : Kept X.prog X.w X.K X.mg X.base CX k x sp) (hr : Room j X.A) (hk : k ≤ j) (hg : Gl X x) (hx : ∀ σ, PassesAt CX X σ (E σ)) (ha : PA X (e :: es) t)
    (hdb : (x == ("__debug__" : Str)) = false := by decide) (he : starEach (e :: es) X.env = (false, eval e X.env) :: starEach es X.env := by rfl) (hpl : (backTo pos (starEach es X.env)).any (·.1) = false := by rfl) :
    PE X (.Call (.Name x p) (e :: es) [] pos) (tCallS sp E t) := by
  obtain ⟨f, fd, ps, F, hm, kp, b⟩ := c.ex
  exact pe_callS F (hr.mono hk) hg hm kp b hx ha hdb he hpl
theorem pe_clS0 {E : L2.St → XK} (c : Kept X.prog X.w X.K X.mg X.base CX k x sp) (hr : Room j X.A) (hk : k ≤ j) (hg : Gl X x) (hx : ∀ σ, PassesAt CX X σ (E σ))
    (hdb : (x == ("__debug__" : Str)) = false := by decide) : PE X (.Call (.Name x p) [] [] pos) (tCallS sp E tNil) := by
  obtain ⟨f, fd, ps, F, hm, kp, b⟩ := c.ex
  exact pe_callS0 F (hr.mono hk) hg hm kp b hx hdb
end
/-! ### the readings with the written part by its name -/
abbrev rLenK (K : PySem.W.Frag) : List V → Hp → VK → Prop := fun xs H Q => ∃ x n, xs = [x] ∧ LenV K x H n ∧ Q (.int n) H
abbrev rTupK (K : PySem.W.Frag) : List V → Hp → VK → Prop := fun xs H Q => ∃ p ys, xs = [.ref p] ∧ ((SqL K H p ys ∧ ∀ l, H l = none → Q (.ref l) (upd H l (.tup ys))) ∨ (SqT K H p ys ∧ Q (.ref p) H))
abbrev tTr (K : PySem.W.Frag) (ta : TE) : TT := fun σ H Q => ta σ H fun x H' => ∃ k, TruV K x H' k ∧ Q k H'
section
variable {X : Cx} {K : PySem.W.Frag} {a : Expr} {ta : TE} {pos : Pos}
theorem pt_tr (hK : X.K = K) (ha : PE X a ta) (he : ∀ whole, isTrue a X.env whole = (do let v ← whole; standAt a.pos; holding [v] (truthy v))) : PT X a (tTr K ta) := by
  subst hK; exact pt_truth ha he
theorem pg_tupK (hK : X.K = K) {es : List Expr} {k : Nat} {t : TGs} {n : Nat} (hc : X.calm = true) (h : PGs X es t)
    (hn : (assignEach es X.env).length = n := by rfl) (hst : (assignEach es X.env).findIdx? (·.1) = none := by rfl) : PG X (.Tuple es k pos) (gTup K n t) := by
  subst hK; exact pg_tup hc h hn hst
theorem ixK (hK : X.K = K) : IxR X (rIx K) := by subst hK; exact ix_seq
theorem ixL (hK : X.K = K) : IxR X (rIxL K) := by subst hK; exact ix_list
theorem lenK (hK : X.K = K) : CallR X (.builtin "len") (rLenK K) := by subst hK; exact call_len
theorem tupK (hK : X.K = K) : CallR X (.type "tuple") (rTupK K) := by subst hK; exact call_tuple_of
theorem isiK (hK : X.K = K) : CallR X (.builtin "isinstance") (rIsi K) := by subst hK; exact call_isi
theorem allK (hK : X.K = K) (hc : X.calm = true) : CallR X (.builtin "all") (rAll K) := by subst hK; exact cr_all hc
theorem getK (hK : X.K = K) : PGet X (rIxL K) := by subst hK; exact get_list
end
/-! ### lists put together -/
section
variable {C : Cc}
theorem rv_ipadd : RV C (ipI fun i j => i + j) oAddI := fun Z Hs e σ H k x y a b c Q ra rb hf w => by
  unfold oAddI at hf
  split at hf
  · cases hf
    simp only [Rep] at ra rb; subst ra; subst rb
    exact ⟨_, _, rfl, rfl, we_ok w k (by simp only [rD, Rep])⟩
  · cases hf
theorem rv_ipsub : RV C (ipI fun i j => i - j) oSub := fun Z Hs e σ H k x y a b c Q ra rb hf w => by
  unfold oSub at hf
  split at hf
  · cases hf
    simp only [Rep] at ra rb; subst ra; subst rb
    exact ⟨_, _, rfl, rfl, we_ok w k (by simp only [rD, Rep])⟩
  · cases hf
theorem rv_addS0 : RV C (fun x y H Q => ∃ i j, x = .str i ∧ y = .str j ∧ i.length + j.length ≤ sizeLine ∧ Q (.str (i ++ j)) H) oAddS := rv_addS
theorem rn_cat : RN2 C rCat oCat := fun Z Hs e σ H k x y a b c Q ra rb hf w => by
  unfold oCat at hf
  split at hf
  · split at hf
    · rename_i hl
      cases hf
      simp only [Rep] at ra rb
      obtain ⟨p, xs, rfl, hx, rx⟩ := ra
      obtain ⟨q, ys, rfl, hy, ry⟩ := rb
      exact ⟨p, q, xs, ys, rfl, rfl, k.le _ _ hx, k.le _ _ hy, by rw [reps_len rx, reps_len ry]; exact lim_line hl, fun l hl => we_newO w k hl (reps_app rx ry)⟩
    · cases hf
  · cases hf
end

/-! ### the law: what it begins with, and its end -/
def spBegin (K : PySem.W.Frag) : Sp := fun vs H Q _ => ∃ (a : Addr) (ns : List Int), vs = [.ref a] ∧ SqL K H a (ns.map V.int) ∧ ns.length ≤ 63 ∧
  ∀ p sc H', Le H H' → H sc = none → H p = none → p ≠ sc → H' sc = some (.lst (ns.map V.int)) → H' p = some (.lst [.ref sc, .int 0, .int 0, .int 7]) → Q (.ref p) H'
theorem begin_red {K : PySem.W.Frag} {vs : List V} {H : Hp} {Q : VK} {E : XK} (h : spBegin K vs H Q E) :
    (tRet (tLst (tCons (tLc (iList K (tVar 0)) (gName 1) tYes (tCB (fun xs H Q => (∃ i, xs = [.int i] ∧ Q (.int i) H) ∨ ∃ k, xs = [.bl k] ∧ Q (.int (if k then 1 else 0)) H) (tCons (tVar 1) tNil)) [1]) (tCons (tC (.int 0)) (tCons (tC (.int 0)) (tCons (tC (.int 7)) tNil)))))
      { nx := fun _ H' => Q .non H', rt := Q } (L2.start ["_law_script", "_law_cell"] vs) H) := by
  obtain ⟨a, ns, rfl, hS, hl, q⟩ := h
  refine ⟨.ref a, rfl, a, rfl, ⟨_, hS⟩, fun D hD => lc_list (K := K) (a := a) (xs := ns.map V.int) (fun i H' => Le H H' ∧ H' D = some (.lst ((ns.take i).map V.int))) ⟨Le.new hD, by rw [upd_same]; rfl⟩ (fun i H' _ p => Same.seq p.1 hS) (fun i x H' hx p => ?_) fun H' p => ?_⟩
  · rw [List.getElem?_map] at hx
    obtain ⟨n, hn, rfl⟩ := Option.map_eq_some_iff.mp hx
    refine ⟨rfl, .int n, rfl, .inl ⟨n, rfl, _, p.2, ?_, ?_, ?_⟩⟩
    · rw [List.length_map, List.length_take]
      exact Nat.lt_of_le_of_lt (Nat.min_le_right _ _) (small1000 (by omega))
    · exact fun b o e => by rw [upd_ne (ne_of_none e hD)]; exact p.1 b o e
    · rw [upd_same, List.take_add_one, hn, List.map_append]; rfl
  · have e : ns.take (ns.map V.int).length = ns := List.take_of_length_le (by rw [List.length_map]; exact Nat.le_refl _)
    rw [e] at p
    refine ⟨by show 4 ≤ sizeLine; decide, fun l hl' => ?_⟩
    have nd : l ≠ D := fun z => by rw [z, p.2] at hl'; cases hl'
    exact q l D _ (Le.trans p.1 (Le.new hl')) hD (le_none p.1 hl') nd (by rw [upd_ne (Ne.symm nd)]; exact p.2) upd_same
def spLaw (K : PySem.W.Frag) : Sp := fun vs H Q _ => ∃ (a : Addr) (ns : List Int), vs = [.ref a] ∧ SqL K H a (ns.map V.int) ∧ ns.length ≤ 63 ∧ ∀ H', Q (.bl true) H'
theorem law_red {K : PySem.W.Frag} {RE : Err → Value → Option Addr → Hp → Hp → Prop} {N : List Str} {nl : Nat} {A : List Nat} {t : TS} {m : MS} {E' : L2.St → XK} {vs : List V} {H : Hp} {Q : VK} {E : XK} (hN : N.length = 2 + nl)
    (hm : ∀ ns : List Int, ns.length ≤ 63 → ∃ e, m (lawE ns nl) = .rt (.fz (.bl true)) e) (h : ∀ sc Hs Ps H, SS ⟨K, sc, H, Ps, Hs, fun c od _ H => E c od H, RE⟩ A t m) (hs : spLaw K vs H Q E) :
    tSeq (tAsg (tCallS (spBegin K) E' (tCons (tVar 0) tNil)) (gName 1)) t { nx := fun _ H' => Q .non H', rt := Q } (L2.start N vs) H := by
  obtain ⟨a, ns, rfl, hS, hl, q⟩ := hs
  have est : L2.start N [V.ref a] = some (V.ref a) :: none :: List.replicate nl none := by
    unfold L2.start
    rw [hN]
    have : 2 + nl - [V.ref a].length = nl + 1 := by simp; omega
    rw [this]
    rfl
  rw [est]
  refine ⟨.ref a, rfl, a, ns, rfl, hS, hl, fun p sc H' hle h1 h2 hne h3 h4 => ?_⟩
  obtain ⟨e, he⟩ := hm ns hl
  have hsc : ∀ b, (if b = sc then some (HO.lst (ns.map V.int)) else none) ≠ none → b = sc := fun b hb => by
    by_cases z : b = sc
    · exact z
    · rw [if_neg z] at hb; exact absurd rfl hb
  have k : StOk ⟨K, ⟨sc, none⟩, H, [], fun _ => none, fun c od _ H => E c od H, RE⟩ (fun _ => none) (fun b => if b = sc then some (HO.lst (ns.map V.int)) else none) (lawE ns nl) (some (V.ref a) :: some (V.ref p) :: List.replicate nl none) H' := by
    refine ⟨by simp [lawE], fun b o hb => ?_, fun i s hs => ?_, fun i i' j j' o o' q' g1 g2 g3 g4 => ?_, fun b o hb _ => hle b o hb, fun b hb => ?_, fun b hb => ?_, fun b hb => absurd hb List.not_mem_nil, (fun b o hb => nomatch hb), fun _ _ _ _ _ _ => rfl⟩
    · have := hsc b (by rw [hb]; exact fun z => nomatch z)
      subst this
      rw [if_pos rfl] at hb
      rw [h3]; exact hb
    · match i, hs with
      | 0, hs => cases hs; trivial
      | 1, hs =>
        cases hs
        refine ⟨p, rfl, by show (if p = sc then _ else none) = none; rw [if_neg hne], ⟨_, h4, ?_⟩, h2⟩
        refine reps_cons ?_ (reps_cons (by simp only [Rep]) (reps_cons (by simp only [Rep]) (reps_cons (by simp only [Rep]) reps_nil)))
        simp only [Rep]
        exact ⟨trivial, if_pos trivial⟩
      | i + 2, hs =>
        have hs : (List.replicate nl Slt.un)[i]? = some s := hs
        rw [List.getElem?_replicate] at hs
        split at hs
        · cases hs; trivial
        · cases hs
    · have one : ∀ {i : Nat} {j o}, (lawE ns nl)[i]? = some (Slt.ow j o) → i = 1 := fun {i j o} g => by
        match i, g with
        | 0, g => cases g
        | 1, _ => rfl
        | i + 2, g =>
          have g : (List.replicate nl Slt.un)[i]? = some (Slt.ow j o) := g
          rw [List.getElem?_replicate] at g
          split at g <;> cases g
      rw [one g1, one g2]
    · cases z : H b with
      | none => exact absurd z hb
      | some u => rw [hle b u z]; exact fun z => nomatch z
    · have := hsc b hb
      subst this
      exact .inr h1
  show t _ (some (V.ref a) :: some (V.ref p) :: List.replicate nl none) H'
  refine h ⟨sc, none⟩ _ [] H _ _ _ _ H' k _ ?_
  rw [he]
  intro v Hs' σ' H2 _ _ r
  have r : Rep K ⟨sc, none⟩ Hs' (.bl true) v := r
  simp only [Rep] at r
  subst r
  exact q H2
end Ml

set_option linter.all false
set_option autoImplicit false
set_option maxRecDepth 100000
set_option maxHeartbeats 1000000
/-! More operations on data, each with its rule. -/
namespace Ml
open L2
open PySem (Addr Str sizeLine)
section
variable {C : Cc} {K : PySem.W.Frag}
/-! ### x in xs -/
theorem flat_ok {Hs : Hp} {d : Dv} {x : V} (r : Rep C.K C.sc Hs d x) (h : flatD d = true) : flatV x = true := by
  cases d <;> (try simp [flatD] at h) <;> (simp only [Rep] at r; subst r; rfl)
theorem flats_ok {Hs : Hp} : ∀ {ds : List Dv} {xs : List V}, Reps C.K C.sc Hs ds xs → ds.all flatD = true → xs.all flatV = true
  | [], xs, r, h => by simp only [Reps] at r; rw [r]; rfl
  | d :: ds, xs, r, h => by
    simp only [Reps] at r
    obtain ⟨v, q, rfl, r1, r2⟩ := r
    rw [List.all_cons, Bool.and_eq_true] at h ⊢
    exact ⟨flat_ok r1 h.1, flats_ok r2 h.2⟩
theorem sOf_beq (a b : List Nat) : (sOf a == sOf b) = decide (a = b) := by
  by_cases h : a = b
  · subst h; simp
  · have : ¬ sOf a = sOf b := by rw [sOf_inj]; exact h
    simp [h, this]
theorem eqF_ok {Hs : Hp} {a b : Dv} {x y : V} (ra : Rep C.K C.sc Hs a x) (rb : Rep C.K C.sc Hs b y) (fa : flatD a = true) (fb : flatD b = true) : eqV x y = eqF a b := by
  cases a <;> (try simp [flatD] at fa) <;> cases b <;> (try simp [flatD] at fb) <;> (simp only [Rep] at ra rb; subst ra; subst rb) <;> first
    | rfl
    | exact sOf_beq _ _
theorem anyF_ok {Hs : Hp} {b : Dv} {y : V} (rb : Rep C.K C.sc Hs b y) (fb : flatD b = true) : ∀ {ds : List Dv} {xs : List V}, Reps C.K C.sc Hs ds xs → ds.all flatD = true → inV y xs = ds.any fun z => eqF z b
  | [], xs, r, h => by simp only [Reps] at r; rw [r]; rfl
  | d :: ds, xs, r, h => by
    simp only [Reps] at r
    obtain ⟨v, q, rfl, r1, r2⟩ := r
    rw [List.all_cons, Bool.and_eq_true] at h
    have ih := anyF_ok rb fb r2 h.2
    unfold inV at ih ⊢
    rw [List.any_cons, List.any_cons, eqF_ok r1 rb h.1 fb, ih]
theorem seq_rep {Z Hs : Hp} {e : Loc} {σ : L2.St} {H : Hp} (k : StOk C Z Hs e σ H) {b : Dv} {y : V} {ds : List Dv} (h : seqD b = some ds) (rb : Rep C.K C.sc Hs b y) : ∃ p xs, y = .ref p ∧ (SqL C.K H p xs ∨ SqT C.K H p xs) ∧ Reps C.K C.sc Hs ds xs := by
  unfold seqD at h
  split at h
  · cases h
    simp only [Rep] at rb
    obtain ⟨p, xs, rfl, hx, rx⟩ := rb
    exact ⟨p, xs, rfl, .inl (SqL.of (k.le _ _ hx)), rx⟩
  · cases h
    simp only [Rep] at rb
    obtain ⟨p, xs, rfl, hx, rx⟩ := rb
    exact ⟨p, xs, rfl, .inr (sqt_le k.le hx), rx⟩
  · cases h
theorem rv_in (hK : C.K = K) : RV C (rIn K false) oIn := fun Z Hs e σ H k x y a b c Q ra rb hf w => by
  subst hK
  obtain ⟨ds, hs, hf⟩ := Option.bind_eq_some_iff.mp hf
  split at hf
  · rename_i hc
    cases hf
    obtain ⟨p, xs, rfl, hq, rx⟩ := seq_rep k hs rb
    refine ⟨p, xs, rfl, hq, flat_ok ra hc.1, flats_ok rx hc.2, ?_⟩
    rw [if_neg (by decide), anyF_ok ra hc.1 rx hc.2]
    exact we_ok w k (by simp only [rD, Rep])
  · cases hf
theorem rv_ni (hK : C.K = K) : RV C (rIn K true) oNi := fun Z Hs e σ H k x y a b c Q ra rb hf w => by
  subst hK
  obtain ⟨ds, hs, hf⟩ := Option.bind_eq_some_iff.mp hf
  split at hf
  · rename_i hc
    cases hf
    obtain ⟨p, xs, rfl, hq, rx⟩ := seq_rep k hs rb
    refine ⟨p, xs, rfl, hq, flat_ok ra hc.1, flats_ok rx hc.2, ?_⟩
    rw [if_pos rfl, anyF_ok ra hc.1 rx hc.2]
    exact we_ok w k (by simp only [rD, Rep])
  · cases hf
/-! ### == of any data -/
mutual
def toP : Dv → PySem.PyData
  | .non => .none
  | .bl b => .bool b
  | .int i => .int i
  | .str s => .str (sOf s)
  | .tup ds => .tuple (toPs ds)
  | .lst ds => .list (toPs ds)
  | .scr _ => .none
  | .dct _ _ => .none
  | .exc _ _ _ => .none
def toPs : List Dv → List PySem.PyData
  | [] => []
  | d :: ds => toP d :: toPs ds
end
mutual
theorem dp_ok {Hs H : Hp} (l : Le Hs H) : ∀ {n : Nat} {d : Dv} {x : V}, lowD n d = true → Rep C.K C.sc Hs d x → Dp C.K H x (toP d) ∧ (toP d).canLay0 = true ∧ (toP d).depth ≤ n
  | n, .non, x, h, r => by simp only [Rep] at r; subst r; simp only [toP]; exact ⟨.non, rfl, by simp only [PySem.PyData.depth]; omega⟩
  | n, .bl b, x, h, r => by simp only [Rep] at r; subst r; simp only [toP]; exact ⟨.bl b, rfl, by simp only [PySem.PyData.depth]; omega⟩
  | n, .int b, x, h, r => by simp only [Rep] at r; subst r; simp only [toP]; exact ⟨.int b, rfl, by simp only [PySem.PyData.depth]; omega⟩
  | n, .str b, x, h, r => by
    simp only [Rep] at r; subst r; simp only [toP]
    refine ⟨.str _, ?_, by simp only [PySem.PyData.depth]; omega⟩
    have h : (b.all fun c => decide (c < 1114112)) = true := by cases n <;> exact h
    simp only [PySem.PyData.canLay0, PySem.PyData.strOk]
    simpa using h
  | n, .scr _, x, h, r => by cases n <;> simp [lowD] at h
  | n, .dct _ _, x, h, r => by cases n <;> simp [lowD] at h
  | n, .exc _ _ _, x, h, r => by cases n <;> simp [lowD] at h
  | 0, .tup _, x, h, r => by simp [lowD] at h
  | 0, .lst _, x, h, r => by simp [lowD] at h
  | n + 1, .tup ds, x, h, r => by
    simp only [Rep] at r
    obtain ⟨p, xs, rfl, hx, rx⟩ := r
    simp only [lowD] at h
    obtain ⟨h1, h2, h3⟩ := dps_ok l h rx
    simp only [toP]
    exact ⟨.tup (sqt_le l hx) h1, by simp only [PySem.PyData.canLay0]; exact h2, by simp only [PySem.PyData.depth]; omega⟩
  | n + 1, .lst ds, x, h, r => by
    simp only [Rep] at r
    obtain ⟨p, xs, rfl, hx, rx⟩ := r
    simp only [lowD] at h
    obtain ⟨h1, h2, h3⟩ := dps_ok l h rx
    simp only [toP]
    exact ⟨.lst (SqL.of (l _ _ hx)) h1, by simp only [PySem.PyData.canLay0]; exact h2, by simp only [PySem.PyData.depth]; omega⟩
theorem dps_ok {Hs H : Hp} (l : Le Hs H) : ∀ {n : Nat} {ds : List Dv} {xs : List V}, lowDs n ds = true → Reps C.K C.sc Hs ds xs → DpAll C.K H xs (toPs ds) ∧ PySem.PyData.canLayAll0 (toPs ds) = true ∧ PySem.PyData.depthAll (toPs ds) ≤ n
  | n, [], xs, h, r => by simp only [Reps] at r; subst r; simp only [toPs]; exact ⟨.nil, rfl, by simp only [PySem.PyData.depthAll]; omega⟩
  | n, d :: ds, xs, h, r => by
    simp only [Reps] at r
    obtain ⟨v, q, rfl, r1, r2⟩ := r
    simp only [lowDs, Bool.and_eq_true] at h
    obtain ⟨a1, a2, a3⟩ := dp_ok l h.1 r1
    obtain ⟨b1, b2, b3⟩ := dps_ok l h.2 r2
    simp only [toPs]
    refine ⟨.cons a1 b1, ?_, ?_⟩
    · simp only [PySem.PyData.canLayAll0, a2, b2, Bool.and_self]
    · simp only [PySem.PyData.depthAll]; omega
end
mutual
theorem eqD_ok : ∀ {n m : Nat} (a b : Dv), lowD n a = true → lowD m b = true → PySem.PyData.eqv (toP a) (toP b) = eqD a b
  | n, m, .tup a, .tup b, ha, hb => by
    cases n <;> simp [lowD] at ha
    cases m <;> simp [lowD] at hb
    simp only [toP, PySem.PyData.eqv, eqD]; exact eqDs_ok a b ha hb
  | n, m, .lst a, .lst b, ha, hb => by
    cases n <;> simp [lowD] at ha
    cases m <;> simp [lowD] at hb
    simp only [toP, PySem.PyData.eqv, eqD]; exact eqDs_ok a b ha hb
  | n, m, .scr _, _, ha, _ => by cases n <;> simp [lowD] at ha
  | n, m, .dct _ _, _, ha, _ => by cases n <;> simp [lowD] at ha
  | n, m, .exc _ _ _, _, ha, _ => by cases n <;> simp [lowD] at ha
  | n, m, _, .scr _, _, hb => by cases m <;> simp [lowD] at hb
  | n, m, _, .dct _ _, _, hb => by cases m <;> simp [lowD] at hb
  | n, m, _, .exc _ _ _, _, hb => by cases m <;> simp [lowD] at hb
  | _, _, .str a, .str b, _, _ => by simp only [toP, PySem.PyData.eqv, eqD, eqF]; exact sOf_beq a b
  | _, _, .non, .non, _, _ | _, _, .non, .bl _, _, _ | _, _, .non, .int _, _, _ | _, _, .non, .str _, _, _ | _, _, .non, .tup _, _, _ | _, _, .non, .lst _, _, _ => rfl
  | _, _, .bl _, .non, _, _ | _, _, .bl _, .bl _, _, _ | _, _, .bl _, .int _, _, _ | _, _, .bl _, .str _, _, _ | _, _, .bl _, .tup _, _, _ | _, _, .bl _, .lst _, _, _ => rfl
  | _, _, .int _, .non, _, _ | _, _, .int _, .bl _, _, _ | _, _, .int _, .int _, _, _ | _, _, .int _, .str _, _, _ | _, _, .int _, .tup _, _, _ | _, _, .int _, .lst _, _, _ => rfl
  | _, _, .str _, .non, _, _ | _, _, .str _, .bl _, _, _ | _, _, .str _, .int _, _, _ | _, _, .str _, .tup _, _, _ | _, _, .str _, .lst _, _, _ => rfl
  | _, _, .tup _, .non, _, _ | _, _, .tup _, .bl _, _, _ | _, _, .tup _, .int _, _, _ | _, _, .tup _, .str _, _, _ | _, _, .tup _, .lst _, _, _ => rfl
  | _, _, .lst _, .non, _, _ | _, _, .lst _, .bl _, _, _ | _, _, .lst _, .int _, _, _ | _, _, .lst _, .str _, _, _ | _, _, .lst _, .tup _, _, _ => rfl
theorem eqDs_ok : ∀ {n m : Nat} (a b : List Dv), lowDs n a = true → lowDs m b = true → PySem.PyData.eqvAll (toPs a) (toPs b) = eqDs a b
  | _, _, [], [], _, _ => rfl
  | _, _, [], _ :: _, _, _ => rfl
  | _, _, _ :: _, [], _, _ => rfl
  | n, m, x :: xs, y :: ys, ha, hb => by
    simp only [lowDs, Bool.and_eq_true] at ha hb
    simp only [toPs, PySem.PyData.eqvAll, eqDs]
    rw [eqD_ok x y ha.1 hb.1, eqDs_ok xs ys ha.2 hb.2]
end
theorem shaped_ok {n : Nat} {d : PySem.PyData} (h : d.canLay0 = true) (h2 : d.depth ≤ n) (h3 : n ≤ 64) : PySem.SeqAt.shaped d = true := by
  unfold PySem.SeqAt.shaped
  rw [h, Bool.true_and, decide_eq_true_eq]
  omega
theorem rv_eqD (hK : C.K = K) : RV C (rEqD K) oEqD := fun Z Hs e σ H k x y a b c Q ra rb hf w => by
  subst hK
  unfold oEqD at hf
  split at hf
  · rename_i hc
    cases hf
    obtain ⟨a1, a2, a3⟩ := dp_ok k.le hc.1 ra
    obtain ⟨b1, b2, b3⟩ := dp_ok k.le hc.2 rb
    refine ⟨_, _, a1, b1, shaped_ok a2 a3 (by decide), shaped_ok b2 b3 (by decide), ?_⟩
    rw [eqD_ok a b hc.1 hc.2]
    exact we_ok w k (by simp only [rD, Rep])
  · cases hf
theorem rv_neD (hK : C.K = K) : RV C (rNeD K) oNeD := fun Z Hs e σ H k x y a b c Q ra rb hf w => by
  subst hK
  unfold oNeD at hf
  split at hf
  · rename_i hc
    cases hf
    obtain ⟨a1, a2, a3⟩ := dp_ok k.le hc.1 ra
    obtain ⟨b1, b2, b3⟩ := dp_ok k.le hc.2 rb
    refine ⟨_, _, a1, b1, shaped_ok a2 a3 (by decide), shaped_ok b2 b3 (by decide), ?_⟩
    rw [eqD_ok a b hc.1 hc.2]
    exact we_ok w k (by simp only [rD, Rep])
  · cases hf
/-! ### is None -/
theorem non_ok {Hs : Hp} {a : Dv} {x : V} (ra : Rep C.K C.sc Hs a x) : decide (x = .non) = isNon a := by
  cases a <;> simp only [Rep] at ra
  all_goals first
    | (subst ra; simp [isNon])
    | (obtain ⟨p, xs, rfl, _⟩ := ra; simp [isNon])
    | (obtain ⟨rfl, _⟩ := ra; simp [isNon])
    | (obtain ⟨_, _, _, _, _, rfl, _⟩ := ra; simp [isNon])
theorem rv_isN : RV C (fun x y H Q => y = .non ∧ Q (.bl (decide (x = .non))) H) oIsN := fun Z Hs e σ H k x y a b c Q ra rb hf w => by
  unfold oIsN at hf
  split at hf
  · cases hf
    simp only [Rep] at rb; subst rb
    refine ⟨rfl, ?_⟩
    rw [non_ok ra]
    exact we_ok w k (by simp only [rD, Rep])
  · cases hf
theorem rv_noN : RV C (fun x y H Q => y = .non ∧ Q (.bl (!decide (x = .non))) H) oNoN := fun Z Hs e σ H k x y a b c Q ra rb hf w => by
  unfold oNoN at hf
  split at hf
  · cases hf
    simp only [Rep] at rb; subst rb
    refine ⟨rfl, ?_⟩
    rw [non_ok ra]
    exact we_ok w k (by simp only [rD, Rep])
  · cases hf
/-! ### sum, any -/
theorem ints_of {Hs : Hp} : ∀ {ds : List Dv} {bs : List Int} {xs : List V}, intsOf ds = some bs → Reps C.K C.sc Hs ds xs → xs = bs.map V.int
  | [], bs, xs, h, r => by cases h; simp only [Reps] at r; rw [r]; rfl
  | .int b :: ds, bs, xs, h, r => by
    obtain ⟨b', h', rfl⟩ := Option.map_eq_some_iff.mp h
    simp only [Reps] at r
    obtain ⟨v, q, rfl, r1, r2⟩ := r
    simp only [Rep] at r1
    rw [ints_of h' r2, r1]; rfl
  | .non :: _, _, _, h, _ => by cases h
  | .bl _ :: _, _, _, h, _ => by cases h
  | .str _ :: _, _, _, h, _ => by cases h
  | .tup _ :: _, _, _, h, _ => by cases h
  | .lst _ :: _, _, _, h, _ => by cases h
  | .scr _ :: _, _, _, h, _ => by cases h
  | .dct _ _ :: _, _, _, h, _ => by cases h
  | .exc _ _ _ :: _, _, _, h, _ => by cases h
theorem r1_sum (hK : C.K = K) : RC1 C (rSum K) oSum := fun Z Hs e σ H k x a c Q ra hf w => by
  subst hK
  unfold oSum at hf; split at hf
  · obtain ⟨bs, hb, rfl⟩ := Option.map_eq_some_iff.mp hf
    simp only [Rep] at ra
    obtain ⟨p, xs, rfl, hx, rx⟩ := ra
    have ex := ints_of hb rx
    subst ex
    exact ⟨p, bs, rfl, SqL.of (k.le _ _ hx), we_ok w k (by simp only [rD, Rep])⟩
  · cases hf
theorem r1_any (hK : C.K = K) : RC1 C (rAny K) oAny := fun Z Hs e σ H k x a c Q ra hf w => by
  subst hK
  unfold oAny at hf; split at hf
  · obtain ⟨bs, hb, rfl⟩ := Option.map_eq_some_iff.mp hf
    simp only [Rep] at ra
    obtain ⟨p, xs, rfl, hx, rx⟩ := ra
    have ex := bools_of hb rx
    subst ex
    exact ⟨p, bs, rfl, SqL.of (k.le _ _ hx), we_ok w k (by simp only [rD, Rep])⟩
  · cases hf
/-! ### list(xs) -/
theorem rn_listD (hK : C.K = K) : RCN C (fun xs H Q => ∃ p ys, xs = [V.ref p] ∧ (SqL K H p ys ∨ SqT K H p ys) ∧ ∀ l, H l = none → Q (.ref l) (upd H l (.lst ys))) listD := fun Z Hs e σ H k x a c Q ra hf w => by
  subst hK
  unfold listD at hf; split at hf
  · cases hf
    simp only [Rep] at ra
    obtain ⟨p, xs, rfl, hx, rx⟩ := ra
    exact ⟨p, xs, rfl, .inl (SqL.of (k.le _ _ hx)), fun l hl => we_newO w k hl rx⟩
  · cases hf
    simp only [Rep] at ra
    obtain ⟨p, xs, rfl, hx, rx⟩ := ra
    exact ⟨p, xs, rfl, .inr (sqt_le k.le hx), fun l hl => we_newO w k hl rx⟩
  · cases hf
    simp only [Rep] at ra
    obtain ⟨rfl, hx⟩ := ra
    exact ⟨_, _, rfl, .inl (SqL.of (k.le _ _ hx)), fun l hl => we_newO w k hl reps_ints⟩
  · cases hf
/-! ### tuples put together -/
theorem rv_catT (hK : C.K = K) : RV C (rCatT K) oCatT := fun Z Hs e σ H k x y a b c Q ra rb hf w => by
  subst hK
  unfold oCatT at hf
  split at hf
  · split at hf
    · rename_i hc
      cases hf
      simp only [Rep] at ra rb
      obtain ⟨p, xs, rfl, hx, rx⟩ := ra
      obtain ⟨q, ys, rfl, hy, ry⟩ := rb
      refine ⟨p, q, xs, ys, rfl, rfl, sqt_le k.le hx, sqt_le k.le hy, fun z => ?_, by rw [reps_len rx, reps_len ry]; exact lim_line hc.2, fun z => ?_, fun z l hl => ?_⟩
      · subst z
        have := reps_len rx
        exact hc.1 (List.eq_nil_of_length_eq_zero this.symm)
      · subst z
        have := reps_len ry
        have := List.eq_nil_of_length_eq_zero this.symm
        subst this
        rw [List.append_nil] at w
        exact we_ok w k (by simp only [rD, Rep]; exact ⟨p, xs, rfl, hx, rx⟩)
      · refine we_new w k hl ?_
        simp only [rD, Rep]
        exact ⟨l, _, rfl, SqT.of upd_same, reps_le (Le.new (k.hs_none hl)) (reps_app rx ry)⟩
    · cases hf
  · cases hf
/-! ### a op b op c -/
theorem se_chain {f g : Dv → Dv → Option Dv} {r r' : L2.R2} {ta tb tc : TE} {ma mb mc : ME Dv} (hr : RV C r f) (hr' : RV C r' g) (ha : SE C ta ma) (hb : SE C tb mb) (hc : SE C tc mc) : SE C (tChain r r' ta tb tc) (mChain f g ma mb mc) := fun Z Hs e σ H k Q w =>
  ha Z Hs e σ H k _ (we_bind (fun a e1 x Hs1 H1 p1 k1 r1 w1 => hb Z Hs1 e1 σ H1 k1 _ (we_bind (fun b e2 y Hs2 H2 p2 k2 r2 w2 => by
    cases ht : f a b with
    | none => rw [ht] at w2; exact w2.elim
    | some t =>
      rw [ht] at w2
      simp only [Rs.of_some, Rs.bind_ok] at w2
      refine hr Z Hs2 e2 σ H2 k2 x y a b t _ (rep_le p2.le r1) r2 ht (fun v Hs3 H3 p3 k3 r3 => ?_)
      cases t with
      | bl t =>
        simp only [rD, Rep] at r3
        subst r3
        refine ⟨t, rfl, ?_⟩
        cases t with
        | true =>
          refine hc Z Hs3 e2 σ H3 k3 _ (we_bind (fun c e4 z Hs4 H4 p4 k4 r4 w4 => ?_) (we_mono p3 w2))
          obtain ⟨u, hu, w5⟩ := we_of w4
          exact hr' Z Hs4 e4 σ H4 k4 y z b c u Q (rep_le (p3.le.trans p4.le) r2) r4 hu w5
        | false => exact we_ok (we_mono p3 w2) k3 (by simp only [rD, Rep])
      | _ => exact w2.elim) w1)) w)
/-! ### slices -/
theorem cut_map {α β : Type} (f : α → β) (s : List α) (lo hi : Option Int) : cutN (s.map f) lo hi = (cutN s lo hi).map f := by
  simp only [cutN, List.length_map, List.map_take, List.map_drop]
theorem reps_drop {Hs : Hp} : ∀ {n : Nat} {ds : List Dv} {xs : List V}, Reps C.K C.sc Hs ds xs → Reps C.K C.sc Hs (ds.drop n) (xs.drop n)
  | 0, _, _, r => r
  | n + 1, [], xs, r => by simp only [Reps] at r; subst r; simp only [List.drop_nil]; exact reps_nil
  | n + 1, d :: ds, xs, r => by
    simp only [Reps] at r
    obtain ⟨v, q, rfl, r1, r2⟩ := r
    rw [List.drop_succ_cons, List.drop_succ_cons]
    exact reps_drop r2
theorem reps_take {Hs : Hp} : ∀ {n : Nat} {ds : List Dv} {xs : List V}, Reps C.K C.sc Hs ds xs → Reps C.K C.sc Hs (ds.take n) (xs.take n)
  | 0, _, _, r => by simp only [List.take_zero]; exact reps_nil
  | n + 1, [], xs, r => by simp only [Reps] at r; subst r; simp only [List.take_nil]; exact reps_nil
  | n + 1, d :: ds, xs, r => by
    simp only [Reps] at r
    obtain ⟨v, q, rfl, r1, r2⟩ := r
    exact reps_cons r1 (reps_take r2)
theorem cutV_eq (xs : List V) (lo hi : Option Int) : L2.cutV xs lo hi = cutN xs lo hi := by
  unfold L2.cutV cutN
  simp only [sIx_eq]
theorem reps_cut {Hs : Hp} {ds : List Dv} {xs : List V} (r : Reps C.K C.sc Hs ds xs) (lo hi : Option Int) : Reps C.K C.sc Hs (cutN ds lo hi) (cutN xs lo hi) := by
  unfold cutN
  rw [reps_len r]
  exact reps_take (reps_drop r)
theorem cutN_whole {α : Type} {xs : List α} {lo hi : Option Int} (h : sIx xs.length 0 lo = 0 ∧ sIx xs.length xs.length hi = xs.length) : cutN xs lo hi = xs := by
  unfold cutN
  rw [h.1, h.2]
  simp
/-- a slice's rule, once the ends are known -/
theorem se_sl {r : V → Option Int → Option Int → Hp → VK → Prop} {f : Dv → Option Int → Option Int → Option Dv} {te : TE} {me : ME Dv} {tl th : TO} {ml mh : Option (ME Dv)}
    (hr : ∀ Z Hs e σ H, StOk C Z Hs e σ H → ∀ x a lo hi c Q, Rep C.K C.sc Hs a x → f a lo hi = some c → WE C Z σ Hs H (rD C) (.ok c e) Q → r x lo hi H Q)
    (h : SE C te me) (hl : SO C tl (mPart ml)) (hh : SO C th (mPart mh)) : SE C (tSl r te tl th) (mSl f me ml mh) := fun Z Hs e σ H k Q w =>
  h Z Hs e σ H k _ (we_bind (fun a e1 x Hs1 H1 p1 k1 r1 w1 => hl Z Hs1 e1 σ H1 k1 _ (we_bind (fun lo e2 lo' Hs2 H2 p2 k2 r2 w2 => hh Z Hs2 e2 σ H2 k2 _ (we_bind (fun hi e3 hi' Hs3 H3 p3 k3 r3 w3 => by
    have r2 : lo = lo' := r2
    have r3 : hi = hi' := r3
    subst r2; subst r3
    obtain ⟨c, hc, w4⟩ := we_of w3
    exact hr Z Hs3 e3 σ H3 k3 x a lo hi c Q (rep_le (p2.le.trans p3.le) r1) hc w4) w2)) w1)) w)
theorem seo_sl {r : V → Option Int → Option Int → Hp → VK → Prop} {f : Dv → Option Int → Option Int → Option (List Dv)} {te : TE} {me : ME Dv} {tl th : TO} {ml mh : Option (ME Dv)}
    (hr : ∀ Z Hs e σ H, StOk C Z Hs e σ H → ∀ x a lo hi c Q, Rep C.K C.sc Hs a x → f a lo hi = some c → WE C Z σ Hs H (rO C Z σ) (.ok (.lst c) e) Q → r x lo hi H Q)
    (h : SE C te me) (hl : SO C tl (mPart ml)) (hh : SO C th (mPart mh)) : SEO C (tSl r te tl th) (mSlN f me ml mh) := fun Z Hs e σ H k Q w =>
  h Z Hs e σ H k _ (we_bind (fun a e1 x Hs1 H1 p1 k1 r1 w1 => hl Z Hs1 e1 σ H1 k1 _ (we_bind (fun lo e2 lo' Hs2 H2 p2 k2 r2 w2 => hh Z Hs2 e2 σ H2 k2 _ (we_bind (fun hi e3 hi' Hs3 H3 p3 k3 r3 w3 => by
    have r2 : lo = lo' := r2
    have r3 : hi = hi' := r3
    subst r2; subst r3
    obtain ⟨o, ho, w4⟩ := we_of w3
    obtain ⟨c, hc, rfl⟩ := Option.map_eq_some_iff.mp ho
    exact hr Z Hs3 e3 σ H3 k3 x a lo hi c Q (rep_le (p2.le.trans p3.le) r1) hc w4) w2)) w1)) w)
theorem se_slT (hK : C.K = K) {te : TE} {me : ME Dv} {tl th : TO} {ml mh : Option (ME Dv)} (h : SE C te me) (hl : SO C tl (mPart ml)) (hh : SO C th (mPart mh)) : SE C (tSl (rSlA K) te tl th) (mSl slT me ml mh) := se_sl (fun Z Hs e σ H k x a lo hi c Q ra hc w => by
  subst hK
  unfold slT at hc
  split at hc
  · cases hc
    simp only [Rep] at ra
    obtain ⟨p, xs, rfl, hx, rx⟩ := ra
    refine ⟨p, xs, rfl, sqt_le k.le hx, fun z => ?_, fun z l hl => ?_⟩
    · rw [← sIx_eq, ← sIx_eq, reps_len rx] at z
      rw [cutN_whole z] at w
      exact we_ok w k (by simp only [rD, Rep]; exact ⟨p, xs, rfl, hx, rx⟩)
    · rw [cutV_eq]
      refine we_new w k hl ?_
      simp only [rD, Rep]
      exact ⟨l, _, rfl, SqT.of upd_same, reps_le (Le.new (k.hs_none hl)) (reps_cut rx lo hi)⟩
  · cases hc) h hl hh
theorem seo_slL (hK : C.K = K) {te : TE} {me : ME Dv} {tl th : TO} {ml mh : Option (ME Dv)} (h : SE C te me) (hl : SO C tl (mPart ml)) (hh : SO C th (mPart mh)) : SEO C (tSl (rSlL K) te tl th) (mSlN slL me ml mh) := seo_sl (fun Z Hs e σ H k x a lo hi c Q ra hc w => by
  subst hK
  unfold slL at hc
  split at hc
  · cases hc
    simp only [Rep] at ra
    obtain ⟨p, xs, rfl, hx, rx⟩ := ra
    refine ⟨p, xs, rfl, SqL.of (k.le _ _ hx), fun l hl => ?_⟩
    rw [cutV_eq]
    exact we_newO w k hl (reps_cut rx lo hi)
  · cases hc) h hl hh
/-! ### isinstance -/
theorem se_isI (hK : C.K = K) {ta : TE} {ma : ME Dv} (ha : SE C ta ma) : SE C (tCB (rIsi K) (tCons ta (tCons (tC (.ty "int")) tNil))) (mO1 oIsI ma) := r2_isT hK (fun d c h => match d, h with
  | .tup ds, h => by cases h; exact ⟨_, rfl, (by decide +kernel : kitB "tuple" "int" = some false)⟩
  | .lst ds, h => by cases h; exact ⟨_, rfl, (by decide +kernel : kitB "list" "int" = some false)⟩
  | .int i, h => by cases h; exact ⟨_, rfl, (by decide +kernel : kitB "int" "int" = some true)⟩
  | .str x, h => by cases h; exact ⟨_, rfl, (by decide +kernel : kitB "str" "int" = some false)⟩
  | .bl x, h => by cases h; exact ⟨_, rfl, (by decide +kernel : kitB "bool" "int" = some true)⟩
  | .non, h => by cases h; exact ⟨_, rfl, (by decide +kernel : kitB "NoneType" "int" = some false)⟩
  | .scr ns, h => by cases h
  | .dct _ _, h => by cases h
  | .exc _ _ _, h => by cases h) ha
theorem se_isB (hK : C.K = K) {ta : TE} {ma : ME Dv} (ha : SE C ta ma) : SE C (tCB (rIsi K) (tCons ta (tCons (tC (.ty "bool")) tNil))) (mO1 oIsB ma) := r2_isT hK (fun d c h => match d, h with
  | .tup ds, h => by cases h; exact ⟨_, rfl, (by decide +kernel : kitB "tuple" "bool" = some false)⟩
  | .lst ds, h => by cases h; exact ⟨_, rfl, (by decide +kernel : kitB "list" "bool" = some false)⟩
  | .int i, h => by cases h; exact ⟨_, rfl, (by decide +kernel : kitB "int" "bool" = some false)⟩
  | .str x, h => by cases h; exact ⟨_, rfl, (by decide +kernel : kitB "str" "bool" = some false)⟩
  | .bl x, h => by cases h; exact ⟨_, rfl, (by decide +kernel : kitB "bool" "bool" = some true)⟩
  | .non, h => by cases h; exact ⟨_, rfl, (by decide +kernel : kitB "NoneType" "bool" = some false)⟩
  | .scr ns, h => by cases h
  | .dct _ _, h => by cases h
  | .exc _ _ _, h => by cases h) ha
theorem se_isL (hK : C.K = K) {ta : TE} {ma : ME Dv} (ha : SE C ta ma) : SE C (tCB (rIsi K) (tCons ta (tCons (tC (.ty "list")) tNil))) (mO1 oIsL ma) := r2_isT hK (fun d c h => match d, h with
  | .tup ds, h => by cases h; exact ⟨_, rfl, (by decide +kernel : kitB "tuple" "list" = some false)⟩
  | .lst ds, h => by cases h; exact ⟨_, rfl, (by decide +kernel : kitB "list" "list" = some true)⟩
  | .int i, h => by cases h; exact ⟨_, rfl, (by decide +kernel : kitB "int" "list" = some false)⟩
  | .str x, h => by cases h; exact ⟨_, rfl, (by decide +kernel : kitB "str" "list" = some false)⟩
  | .bl x, h => by cases h; exact ⟨_, rfl, (by decide +kernel : kitB "bool" "list" = some false)⟩
  | .non, h => by cases h; exact ⟨_, rfl, (by decide +kernel : kitB "NoneType" "list" = some false)⟩
  | .scr ns, h => by cases h
  | .dct _ _, h => by cases h
  | .exc _ _ _, h => by cases h) ha
end
/-! ### the readings with the written part by its name -/
section
variable {X : Cx} {K : PySem.W.Frag}
abbrev rLstK (K : PySem.W.Frag) : List V → Hp → VK → Prop := fun xs H Q => ∃ p ys, xs = [V.ref p] ∧ (SqL K H p ys ∨ SqT K H p ys) ∧ ∀ l, H l = none → Q (.ref l) (upd H l (.lst ys))
theorem eqdK (hK : X.K = K) (hu : X.A.units + 64 < PySem.cLine) : OpR X (PySem.compareOp .Eq) (rEqD K) := by subst hK; exact op_eqD hu
theorem nedK (hK : X.K = K) (hu : X.A.units + 64 < PySem.cLine) : OpR X (PySem.compareOp .NotEq) (rNeD K) := by subst hK; exact op_neD hu
theorem inK (hK : X.K = K) : OpR X (PySem.compareOp .In) (rIn K false) := by subst hK; exact op_in_seq
theorem niK (hK : X.K = K) : OpR X (PySem.compareOp .NotIn) (rIn K true) := by subst hK; exact op_notIn_seq
theorem catTK (hK : X.K = K) : OpR X (PySem.binaryOp .Add) (rCatT K) := by subst hK; exact op_catT
theorem sumK (hK : X.K = K) (hc : X.calm = true) : CallR X (.builtin "sum") (rSum K) := by subst hK; exact cr_sum hc
theorem anyK (hK : X.K = K) (hc : X.calm = true) : CallR X (.builtin "any") (rAny K) := by subst hK; exact cr_any hc
theorem lstK (hK : X.K = K) : CallR X (.type "list") (rLstK K) := by subst hK; exact call_list_of
theorem slaK (hK : X.K = K) : SlR X (rSlA K) := by subst hK; exact sl_tupA
theorem sllK (hK : X.K = K) : SlR X (rSlL K) := by subst hK; exact sl_list
end
end Ml

set_option linter.all false
set_option autoImplicit false
set_option maxRecDepth 100000
set_option maxHeartbeats 1000000
/-! Owned lists given up, popped; ranges as data. -/
namespace Ml
open L2
open PySem (Addr Str sizeLine)
section
variable {C : Cc} {K : PySem.W.Frag}
/-- a list given up -/
theorem stok_frz {Z Hs : Hp} {e : Loc} {σ : L2.St} {H : Hp} (k : StOk C Z Hs e σ H) {i : Nat} {ds : List Dv} (he : e[i]? = some (.ow none (.lst ds))) :
    ∃ p xs, σ[i]? = some (some (.ref p)) ∧ H p = some (.lst xs) ∧ Hs p = none ∧ Reps C.K C.sc (upd Hs p (.lst xs)) ds xs ∧ StOk C Z (upd Hs p (.lst xs)) (e.set i (.fz (.lst ds))) σ H := by
  obtain ⟨p, e1, hn, ⟨xs, hx, rx⟩, h0⟩ := k.own he
  have hi : i < e.length := (List.getElem?_eq_some_iff.mp he).1
  have hn' : ∀ (i' : Nat) j u, (e.set i .un)[i']? = some (.ow j u) → (σ.set i (some (V.ref p)))[i']? ≠ some (some (.ref p)) := fun i' j u h1 h2 => by
    have z : i ≠ i' := fun z => by subst z; rw [List.getElem?_set_self hi] at h1; cases h1
    rw [List.getElem?_set_ne z] at h1 h2
    exact z (k.sep i i' none j _ u p he h1 e1 h2)
  have k1 := (k.setU (i := i) (x := some (V.ref p))).freeze hx h0 hn (k.hids i none (.lst ds) p he e1) hn'
  have es : σ.set i (some (V.ref p)) = σ := by
    apply List.ext_getElem?
    intro j
    by_cases z : i = j
    · subst z; rw [List.getElem?_set_self (by rw [k.len]; exact hi)]; exact e1.symm
    · rw [List.getElem?_set_ne z]
  have rr : Reps C.K C.sc (upd Hs p (.lst xs)) ds xs := reps_le (Le.new hn) rx
  have r : Rep C.K C.sc (upd Hs p (.lst xs)) (.lst ds) (.ref p) := by
    simp only [Rep]
    exact ⟨p, xs, rfl, upd_same, rr⟩
  have k2 := k1.setF (i := i) r
  rw [List.set_set, List.set_set, es] at k2
  exact ⟨p, xs, e1, hx, hn, rr, k2⟩
theorem ss_frz {i : Nat} {A : List Nat} {t : TS} {m : MS} (h : SS C A t m) : SS C A t (sFrz i m) := fun Z Hs e σ H k Dn w => by
  unfold sFrz at w
  split at w
  · rename_i ds he
    obtain ⟨p, xs, _, _, hn, _, k2⟩ := stok_frz k he
    exact h Z _ _ σ H k2 Dn (ws_step ⟨Le.new hn, fun _ z => z⟩ (fun _ z => z) w)
  · exact w.elim
/-! ### pop -/
theorem reps_erase {Hs : Hp} : ∀ {n : Nat} {ds : List Dv} {xs : List V}, Reps C.K C.sc Hs ds xs → Reps C.K C.sc Hs (ds.eraseIdx n) (xs.eraseIdx n)
  | n, [], xs, r => by simp only [Reps] at r; subst r; simp only [List.eraseIdx_nil]; exact reps_nil
  | 0, d :: ds, xs, r => by
    simp only [Reps] at r
    obtain ⟨v, q, rfl, r1, r2⟩ := r
    simp only [List.eraseIdx_cons_zero]; exact r2
  | n + 1, d :: ds, xs, r => by
    simp only [Reps] at r
    obtain ⟨v, q, rfl, r1, r2⟩ := r
    simp only [List.eraseIdx_cons_succ]; exact reps_cons r1 (reps_erase r2)
theorem se_popAt {i : Nat} {te : TE} {me : ME Dv} (h : SE C te me) : SE C (tBM K "list" rPopAt (tVar i) (tCons te tNil)) (mPopAt i me) := fun Z Hs e σ H k Q w => by
  unfold mPopAt at w
  split at w
  · rename_i ho
    obtain ⟨j, o, he⟩ := ow_of ho
    obtain ⟨p, e1, hn, own, _⟩ := k.own he
    cases o with
    | lst ds0 =>
    obtain ⟨xs0, hx0, _⟩ := own
    refine ⟨_, e1, .inl ⟨rfl, xs0, SqL.of hx0⟩, h Z Hs e σ H k _ (we_bind (fun d e2 v Hs2 H2 p2 k2 r2 w2 => ?_) w)⟩
    split at w2
    · rename_i j2 ds kk he2
      split at w2
      · rename_i hb
        split at w2
        · rename_i y hy
          simp only [rD, Rep] at r2
          subst r2
          obtain ⟨p', e1', _, ⟨xs, hx, rx⟩, _⟩ := k2.own he2
          rw [e1] at e1'; cases e1'
          obtain ⟨v, hv, rv⟩ := reps_get rx hy
          have hl := reps_len rx
          refine ⟨p, xs, kk, kk.toNat, v, rfl, rfl, hx, ?_, ?_, PySem.seqIndex_of hb.1 (by rw [hl]; exact hb.2.1), hv, ?_⟩
          · omega
          · omega
          · exact w2 v Hs2 _ Post.newO (k2.mut he2 e1 ⟨_, upd_same, reps_erase rx⟩) rv
        · exact w2.elim
      · exact w2.elim
    · exact w2.elim
  · exact w.elim
theorem se_pop {i : Nat} : SE C (tBM0 K "list" rPop (tVar i)) (mPop i) := fun Z Hs e σ H k Q w => by
  unfold mPop at w
  split at w
  · rename_i j ds he
    split at w
    · rename_i y hy
      obtain ⟨p, e1, hn, ⟨xs, hx, rx⟩, _⟩ := k.own he
      have hl := reps_len rx
      obtain ⟨v, hv, rv⟩ := reps_get rx hy
      refine ⟨_, e1, .inl ⟨rfl, xs, SqL.of hx⟩, p, xs, v, rfl, rfl, hx, by rw [hl]; exact hv, ?_⟩
      refine w v Hs _ Post.newO (k.mut he e1 ⟨_, upd_same, ?_⟩) rv
      rw [List.dropLast_eq_take, List.dropLast_eq_take, hl]
      exact reps_take rx
    · exact w.elim
  · exact w.elim
/-! ### x in an owned list -/
theorem se_inO {i : Nat} {ta : TE} {ma : ME Dv} {neg : Bool} (hK : C.K = K) (ha : SE C ta ma) : SE C (tOp (rIn K neg) ta (tVar i)) (mInO neg ma i) := fun Z Hs e σ H k Q w =>
  ha Z Hs e σ H k _ (we_bind (fun a e1 x Hs1 H1 p1 k1 r1 w1 => by
    subst hK
    split at w1
    · rename_i j ds he
      obtain ⟨p, e2, hn, ⟨xs, hx, rx⟩, _⟩ := k1.own he
      obtain ⟨c, hc, w2⟩ := we_of w1
      refine ⟨_, e2, p, xs, rfl, .inl (SqL.of hx), ?_⟩
      cases neg with
      | true =>
        rw [if_pos rfl] at hc
        unfold wNi at hc
        split at hc
        · rename_i hf
          cases hc
          refine ⟨flat_ok r1 hf.1, flats_ok rx hf.2, ?_⟩
          rw [if_pos rfl, anyF_ok r1 hf.1 rx hf.2]
          exact we_ok w2 k1 (by simp only [rD, Rep])
        · cases hc
      | false =>
        rw [if_neg (by decide)] at hc
        unfold wIn at hc
        split at hc
        · rename_i hf
          cases hc
          refine ⟨flat_ok r1 hf.1, flats_ok rx hf.2, ?_⟩
          rw [if_neg (by decide), anyF_ok r1 hf.1 rx hf.2]
          exact we_ok w2 k1 (by simp only [rD, Rep])
        · cases hc
    · exact w1.elim) w)
/-! ### ranges as data -/
def SR (C : Cc) (t : L2.St → Hp → (Int → Int → Hp → Prop) → Prop) (m : ME (List Dv)) : Prop := ∀ Z Hs e σ H, StOk C Z Hs e σ H → ∀ Q : Int → Int → Hp → Prop,
  WE C Z σ Hs H (fun ds _ (ab : Int × Int) _ _ => RgOk ab.1 ab.2 ∧ ds = (List.range (ab.2 - ab.1).toNat).map fun (k : Nat) => Dv.int (ab.1 + (k : Int))) (m e) (fun ab => Q ab.1 ab.2) → t σ H Q
theorem itRs_some {lo hi : Int} {ds : List Dv} (h : itRs lo hi = some ds) : RgOk lo hi ∧ ds = (List.range (hi - lo).toNat).map fun (k : Nat) => Dv.int (lo + (k : Int)) := by
  unfold itRs lim at h
  split at h
  · rename_i hb
    cases h
    exact ⟨⟨by omega, by omega, by omega, by omega, by omega⟩, rfl⟩
  · cases h
theorem sr_1 {ta : TE} {ma : ME Dv} (ha : SE C ta ma) : SR C (tRg1 ta) (mRs1 ma) := fun Z Hs e σ H k Q w =>
  ha Z Hs e σ H k _ (we_bind (fun a e1 x Hs1 H1 p1 k1 r1 w1 => by
    split at w1
    · rename_i n
      simp only [rD, Rep] at r1
      subst r1
      obtain ⟨ds, hd, w2⟩ := we_of w1
      exact ⟨n, rfl, we_ok (b := ((0 : Int), n)) w2 k1 (itRs_some hd)⟩
    · exact w1.elim) w)
theorem sr_2 {ta tb : TE} {ma mb : ME Dv} (ha : SE C ta ma) (hb : SE C tb mb) : SR C (tRg2 ta tb) (mRs2 ma mb) := fun Z Hs e σ H k Q w =>
  ha Z Hs e σ H k _ (we_bind (fun a e1 x Hs1 H1 p1 k1 r1 w1 => hb Z Hs1 e1 σ H1 k1 _ (we_bind (fun b e2 y Hs2 H2 p2 k2 r2 w2 => by
    split at w2
    · rename_i n m
      simp only [rD, Rep] at r1 r2
      subst r1; subst r2
      obtain ⟨ds, hd, w3⟩ := we_of w2
      exact ⟨n, m, rfl, rfl, we_ok (b := (n, m)) w3 k2 (itRs_some hd)⟩
    · exact w2.elim) w1)) w)
theorem reps_rg {Hs : Hp} (a b : Int) : Reps C.K C.sc Hs ((List.range (b - a).toNat).map fun (k : Nat) => Dv.int (a + (k : Int))) (rgV a b) := by
  have : rgV a b = ((List.range (b - a).toNat).map fun (k : Nat) => a + (k : Int)).map V.int := by unfold rgV; rw [List.map_map]; rfl
  rw [this, show ((List.range (b - a).toNat).map fun (k : Nat) => Dv.int (a + (k : Int))) = ((List.range (b - a).toNat).map fun (k : Nat) => a + (k : Int)).map Dv.int from by rw [List.map_map]; rfl]
  exact reps_ints
theorem se_tupR {t : L2.St → Hp → (Int → Int → Hp → Prop) → Prop} {m : ME (List Dv)} (h : SR C t m) : SE C (tTupRg t) (mTupR m) := fun Z Hs e σ H k Q w =>
  h Z Hs e σ H k _ (we_bind (fun ds e1 ab Hs1 H1 p1 k1 r1 w1 => by
    obtain ⟨ok, rfl⟩ := r1
    refine ⟨ok, fun q hq => we_new w1 k1 hq ?_⟩
    simp only [rD, Rep]
    exact ⟨q, _, rfl, SqT.of upd_same, reps_rg _ _⟩) w)
theorem seo_lstR {t : L2.St → Hp → (Int → Int → Hp → Prop) → Prop} {m : ME (List Dv)} (h : SR C t m) : SEO C (tLstRg t) (mLstR m) := fun Z Hs e σ H k Q w =>
  h Z Hs e σ H k _ (we_bind (fun ds e1 ab Hs1 H1 p1 k1 r1 w1 => by
    obtain ⟨ok, rfl⟩ := r1
    exact ⟨ok, fun q hq => we_newO w1 k1 hq (reps_rg _ _)⟩) w)
end
end Ml

set_option linter.all false
set_option autoImplicit false
set_option maxRecDepth 100000
set_option maxHeartbeats 1000000
/-! A module's own tuples. -/
namespace Ml
open L2
open PySem (Addr Str sizeLine)
/-- a name of the module that holds data -/
def ConT (K : PySem.W.Frag) (x : Str) (d : Dv) : Prop := ∃ v : V, ConK K x v ∧ ∀ (sc : Sc) (Hs : Hp), Rep K sc Hs d v
def valsOf : List Dv → List PySem.Value → Option (List V)
  | [], [] => some []
  | .str s :: ds, .str z _ :: us => if z = sOf s then (valsOf ds us).map fun r => V.str z :: r else none
  | .int i :: ds, .int z _ :: us => if z = i then (valsOf ds us).map fun r => V.int z :: r else none
  | _, _ => none
theorem valsOf_ok {K : PySem.W.Frag} {sc : Sc} {Hs : Hp} {ds : List Dv} : ∀ {us : List PySem.Value} {xs : List V}, valsOf ds us = some xs → Vals xs us ∧ Reps K sc Hs ds xs := by
  induction ds with
  | nil =>
    intro us xs h
    cases us with
    | nil => cases h; exact ⟨.nil, reps_nil⟩
    | cons u us => simp [valsOf] at h
  | cons d ds ih =>
    intro us xs h
    cases us with
    | nil => cases d <;> simp [valsOf] at h
    | cons u us =>
      cases d with
      | str s =>
        cases u with
        | str z t =>
          simp only [valsOf] at h
          split at h
          · rename_i hz
            obtain ⟨r, hr, rfl⟩ := Option.map_eq_some_iff.mp h
            obtain ⟨a, b⟩ := ih hr
            exact ⟨.cons ⟨t, rfl⟩ a, reps_cons (by simp only [Rep]; rw [hz]) b⟩
          · cases h
        | _ => simp [valsOf] at h
      | int s =>
        cases u with
        | int z t =>
          simp only [valsOf] at h
          split at h
          · rename_i hz
            obtain ⟨r, hr, rfl⟩ := Option.map_eq_some_iff.mp h
            obtain ⟨a, b⟩ := ih hr
            exact ⟨.cons ⟨t, rfl⟩ a, reps_cons (by simp only [Rep]; rw [hz]) b⟩
          · cases h
        | _ => simp [valsOf] at h
      | _ => simp [valsOf] at h
theorem conT_mk {K : PySem.W.Frag} {x : Str} {a : Addr} {ds : List Dv} {od : Option Addr} {its : Array PySem.Value} {n : Nat} {osl : Array (Option PySem.Value)} (h : PySem.W.nsIn K PySem.mainGlobals x = some (some (.ref a)))
    (l : K.lookup a = some ⟨.type "tuple", od, .seq its n, osl⟩) (hv : (valsOf ds its.toList).isSome = true) (hz : its.size ≤ sizeLine) : ConT K x (.tup ds) := by
  obtain ⟨xs, hx⟩ := Option.isSome_iff_exists.mp hv
  refine ⟨.ref a, ⟨_, h, rfl⟩, fun sc Hs => ?_⟩
  obtain ⟨v, r⟩ := valsOf_ok (K := K) (sc := sc) (Hs := Hs) hx
  simp only [Rep]
  exact ⟨a, xs, rfl, .inr ⟨_, its, n, l, rfl, rfl, hz, v⟩, r⟩
end Ml

set_option linter.all false
set_option maxRecDepth 100000
set_option maxHeartbeats 4000000
/-! enumerate over a tuple. -/
namespace PySem
open PyProof.Rows
theorem meets_enumN {v : Value} {o : Obj} {H : Heap → Prop} (B : Begins v o H) :
    Meets (Builtin.«enumerate.__new__» ⟨[.type "enumerate", v], []⟩) (fun _ R s => H s.heap ∧
      R (.ok (.ret (.ref (s.heap.push o).objs.size))) { s with heap := (s.heap.push o).push { cls := .type "enumerate", data := .fields #[.none, .bool false, .ref s.heap.objs.size, rawInt 0, .none, .none] } }) :=
  .of_wp fun prog w A R s h => by
    obtain ⟨hp, g, d, tk, os⟩ := s; obtain ⟨h1, h⟩ := h
    have hsub := sub_enumerate
    have q1 : ∀ {A' : Around} {E : Value → Shared → Prop} {Q : Value → Shared → Prop}, Q (.ref hp.objs.size) ⟨hp.push o, g, d, tk, os⟩ → wpAny (model prog w) A' (pyIter v) Q E ⟨hp, g, d, tk, os⟩ :=
      fun q => B.iter prog w _ _ ⟨hp, g, d, tk, os⟩ _ h1 q
    wp_walk using q1
    refine wpAny_stack_any fun st => wpAny_pure ?_
    split
    · rename_i c _ _ _ _ _
      cases (c == Value.type "enumerate")
      · wp_walk using q1
        exact ⟨_, rfl, h⟩
      · wp_walk using q1
        exact ⟨_, rfl, h⟩
    · wp_walk using q1
      exact ⟨_, rfl, h⟩
section
variable {prog : Program} {w : World} {A : Around} {E : Value → Shared → Prop} {s : Shared}
theorem enum_beginsN {v : Value} {o : Obj} {H : Heap → Prop} {Q : Value → Shared → Prop} (B : Begins v o H) (h1 : H s.heap)
    (h : ∀ h', IsEnum h' (s.heap.objs.size + 1) s.heap.objs.size 0 .none → h'.get? s.heap.objs.size = some o → h'.objs.size = s.heap.objs.size + 2 →
      (∀ b o, s.heap.get? b = some o → h'.get? b = some o) → Q (.ref (s.heap.objs.size + 1)) { s with heap := h' }) :
    wpAny (model prog w) A (call (.type "enumerate") [v]) Q E s := by
  refine callType_new F.called_enumerate (by decide) (F.typeCall_enumerate_1 _) (F.newCall_enumerate_1 _) (fun obj => F.args_object_init_2 obj _) F.entry_enumerate_new
    (meets_enumN B) ⟨h1, ?_⟩
  have hz : (s.heap.push o).objs.size = s.heap.objs.size + 1 := Heap.size_push ..
  show _ ∧ _
  rw [hz]
  have he : IsEnum ((s.heap.push o).push { cls := .type "enumerate", data := .fields #[.none, .bool false, .ref s.heap.objs.size, rawInt 0, .none, .none] }) (s.heap.objs.size + 1) s.heap.objs.size 0 .none := by
    have := Heap.get?_push_size (s.heap.push o) (o := { cls := .type "enumerate", data := .fields #[.none, .bool false, .ref s.heap.objs.size, rawInt 0, .none, .none] }) rfl
    rw [hz] at this; exact this
  refine ⟨⟨_, he, rfl⟩, h _ he (Heap.get?_push_of_some _ (Heap.get?_push_size _ B.free)) (by rw [Heap.size_push, hz]) fun b o x => Heap.get?_push_of_some _ (Heap.get?_push_of_some _ x)⟩
end
end PySem
namespace L2
open PySem PySem.Spec PyProof.Rows
/-- the tuple at a, each item in a new pair -/
def IteT (K : PySem.W.Frag) (a : Addr) : It :=
  ⟨fun i H => ∃ (xs : List V) (x : V), SqT K H a xs ∧ xs[i]? = some x, fun i H v H' => ∃ T x, v = .ref T ∧ H T = none ∧ H' = upd H T (.tup [.int (i : Nat), x]) ∧ ∀ xs, SqT K H a xs → xs[i]? = some x, fun i H => ∃ xs : List V, SqT K H a xs ∧ xs.length ≤ i⟩
theorem turn_enumT {P : Program} {w : World} {K : PySem.W.Frag} {elts : List Expr} {kk : Nat} {tpos : Pos} (a e it : Addr) (hat : a ≠ it) (hea : e ≠ a) :
    Turn P w K (.Tuple elts kk tpos) (IteT K a) [e, it] e (fun i h => (∃ old, IsEnum h e it ((i : Nat) : Int) old) ∧ h.IsTupleIter it a i ∧ e ≠ it) where
  mem := by simp
  obj := fun i h st b hb => by
    obtain ⟨⟨old, he⟩, ⟨o, ho, hc, hd⟩, _⟩ := st
    have e' : b = e ∨ b = it := by simpa using hb
    rcases e' with z | z
    · rw [z]; exact ⟨_, he, fun v q => nomatch q⟩
    · rw [z]; exact ⟨o, ho, fun v q => by rw [hd] at q; cases q⟩
  keep := fun i h h' st k => let ⟨⟨old, he⟩, hi, hne⟩ := st; ⟨⟨old, k e (by simp) _ he⟩, hi.at fun o q => k it (by simp) o q, hne⟩
  item := by
    intro X hP hw hK hc i pins s σ H E I hf st hg
    subst hP hw hK
    obtain ⟨⟨old, he⟩, hit, hne⟩ := st
    obtain ⟨xs, x, hq, hx⟩ := hg
    obtain ⟨its, rv, p, hz⟩ := I.tuple hq
    obtain ⟨u, hu, ru⟩ := rv.get hx
    have hel : e < s.heap.objs.size := Heap.lt_size he
    have hil : it < s.heap.objs.size := by obtain ⟨_, q, _⟩ := hit; exact Heap.lt_size q
    have p' : s.heap.IsTuple a its.toArray := p
    refine wpAny_pyNext_enum_itemC (Draws.tuple (show X.A.in1.handled = none from I.ok.hd hc) it a hat its.toArray) he ⟨hit, p'⟩ (i := i) (by have := (List.getElem?_eq_some_iff.mp hu).1; simpa using this) hne (by simp; exact ⟨hne, hea⟩) fun y h' tk hy ho hst' hT hsz hk => ?_
    have ey : y = u := by
      have q : its.toArray[i]? = some u := by simpa using hu
      rw [q] at hy; exact (Option.some.inj hy).symm
    subst ey
    refine ⟨_, rfl, wpAny_letOwnedTupleGo_enum (s := { s with heap := h', toks := tk + 1 }) ho fun h'' he' sb => ?_⟩
    have hT2 : h''.get? s.heap.objs.size = some { cls := .type "tuple", data := .seq #[.int i tk, y] } := (sb.2 _ (Nat.ne_of_gt hel)).trans hT
    have new : ObjOk X.prog X.w (upd H s.heap.objs.size (.tup [.int (i : Nat), x])) h'' s.heap.objs.size (.tup [.int (i : Nat), x]) :=
      ⟨by show 2 ≤ sizeLine; decide, [.int i tk, y], .cons ⟨_, rfl⟩ (.cons ru .nil), ⟨_, hT2, rfl, _, rfl⟩⟩
    have I1 : Inv X pins σ (upd H s.heap.objs.size (.tup [.int (i : Nat), x])) { s with heap := h'', toks := tk + 1 } :=
      I.turnedNew (ch := [e, it]) (fun b ob hb q => (sb.2 b (fun z => hb (by simp [z]))).trans (hk b ob (fun z => hb (by simp [z])) (fun z => hb (by simp [z])) q)) hf (Nat.le_refl _) new
    refine ⟨.ref s.heap.objs.size, _, I1, rfl, ⟨_, x, rfl, I.hok.fresh (Nat.le_refl _), rfl, fun ys hy => by rw [I.tuple_inj hy hq]; exact hx⟩, ⟨⟨y, ?_⟩, hst'.1.at fun o q => (sb.2 it (Ne.symm hne)).trans q, hne⟩, fun b hb => ?_⟩
    · have e1 : ((i + 1 : Nat) : Int) = (i : Int) + 1 := by omega
      rw [e1]; exact he'
    · have hb' : b < s.heap.objs.size := by
        have e' : b = e ∨ b = it := by simpa using hb
        rcases e' with z | z
        · rw [z]; exact hel
        · rw [z]; exact hil
      rw [upd_ne (Nat.ne_of_lt hb')]
      exact (hf b hb).1
  done := by
    intro X hP hw hK hc i pins s σ H E I hf st hg
    subst hP hw hK
    obtain ⟨⟨old, he⟩, hit, hne⟩ := st
    obtain ⟨xs, hq, hx⟩ := hg
    obtain ⟨its, rv, p, hz⟩ := I.tuple hq
    obtain ⟨f0, f1, f2, f3, f4, f5⟩ := hf it (by simp)
    have hl := rv.length
    have p' : s.heap.IsTuple a its.toArray := p
    have D : Draws X.prog X.w X.A.in1 it [it, a] i (fun j v => its.toArray[j]? = some v) (fun j h => (j = i → h.IsTupleIter it a i) ∧ h.IsTuple a its.toArray ∧ (j < i → False) ∧ ∃ o, h.get? it = some o) := {
      live := fun _ _ st => st.2.2.2
      frame := fun j h h' st k => ⟨fun z => (st.1 z).at fun o q => k it (by simp) o q, st.2.1.at fun o q => k a (by simp) o q, st.2.2.1, let ⟨o, q⟩ := st.2.2.2; ⟨o, k it (by simp) o q⟩⟩
      item := fun j s Q E hj st _ => (st.2.2.1 hj).elim
      done := fun s Q E st hE => wpAny_nextOf_tuple_end (show X.A.in1.handled = none from I.ok.hd hc) (st.1 rfl) st.2.1 (by simp; omega) hE }
    exact wpAny_pyNext_enum_endD D he ⟨fun _ => hit, p', fun z => absurd z (Nat.lt_irrefl _), let ⟨o, q, _⟩ := hit; ⟨o, q⟩⟩ fun h' eb => ⟨rfl, I.turned (t' := s.toks) (fun b o hb q => eb b o hb q) f0 f1 f3 f4 f5⟩
  self := fun A i s Q E st h => let ⟨⟨_, he⟩, _⟩ := st; wpAny_pyIter_enum he h
def iEnumT (K : PySem.W.Frag) (ta : TA) : TI := fun σ H R => ta σ H fun vs H1 => ∃ a xs, vs = [.ref a] ∧ SqT K H1 a xs ∧ R (IteT K a) H1
theorem pi_enumT {X : Cx} {e : Expr} {ta : TA} {p pos tpos : Pos} {elts : List Expr} {kk : Nat} (hg : Gl X "enumerate") (hm : X.mg "enumerate" = none) (ha : PA X [e] ta) (hs : starEach [e] X.env = [(false, eval e X.env)] := by rfl) :
    PI X (.Tuple elts kk tpos) (.Call (.Name "enumerate" p) [e] [] pos) (iEnumT X.K ta) := by
  refine ⟨fun pins s σ H R I h => ?_⟩
  refine Call_ (ld_blt I hg hm boot_enumerate (PyProof.Rows.callWith_type1 (thn (ha.run pos pins s σ H _ I h) fun us s1 ⟨vs, H1, I1, r1, q1⟩ => ?_) hs rfl))
  obtain ⟨a, xs, ex, hq, q⟩ := q1
  subst ex
  cases r1 with
  | cons r rr =>
    cases rr
    cases r
    obtain ⟨its, rv, p', hz⟩ := I1.tuple hq
    have p2 : s1.heap.IsTuple a its.toArray := p'
    have hal : a < s1.heap.objs.size := by obtain ⟨_, q, _⟩ := p'; exact Heap.lt_size q
    refine enum_beginsN (begins_tuple a its.toArray) p2 fun h' he hit hsz hk => wpAny_pyIter_enum he ?_
    have I2 : Inv X pins σ H1 { s1 with heap := h' } := I1.kept (t' := s1.toks) hk
    refine ⟨s1.heap.objs.size + 1, [s1.heap.objs.size + 1, s1.heap.objs.size], _, _, H1, rfl, I2, turn_enumT a (s1.heap.objs.size + 1) s1.heap.objs.size (Nat.ne_of_lt hal) (Nat.ne_of_gt (Nat.lt_succ_of_lt hal)), ⟨⟨.none, he⟩, ⟨_, hit, rfl, rfl⟩, Nat.succ_ne_self _⟩, fun b hb => ?_, q⟩
    have e' : b = s1.heap.objs.size + 1 ∨ b = s1.heap.objs.size := by simpa using hb
    have hle : s1.heap.objs.size ≤ b := by
      rcases e' with z | z
      · rw [z]; exact Nat.le_add_right _ _
      · rw [z]; exact Nat.le_refl _
    exact I1.fpOk hle (I1.hok.fresh hle)
end L2

set_option linter.all false
set_option maxRecDepth 100000
set_option maxHeartbeats 4000000
/-! sorted of tuples of ints, any length. -/
namespace Srt2
open SrtO
section
variable {α β : Type}
def insB (lt : α → α → Bool) (x : α) : List α → List α
  | [] => [x]
  | y :: r => if lt y x = true then y :: insB lt x r else x :: y :: r
def isortB (lt : α → α → Bool) : List α → List α
  | [] => []
  | x :: r => insB lt x (isortB lt r)
theorem insB_map (lt : β → β → Bool) (f : α → β) (x : α) : ∀ l : List α, insB lt (f x) (l.map f) = (insB (fun a b => lt (f a) (f b)) x l).map f
  | [] => rfl
  | y :: r => by
    simp only [List.map_cons, insB]
    split
    · rw [insB_map lt f x r]; rfl
    · rfl
theorem isortB_map (lt : β → β → Bool) (f : α → β) : ∀ l : List α, isortB lt (l.map f) = (isortB (fun a b => lt (f a) (f b)) l).map f
  | [] => rfl
  | x :: r => by simp only [List.map_cons, isortB]; rw [isortB_map lt f r, insB_map]
theorem insB_spl {lt : α → α → Bool} (O : Swo lt) (x : α) : ∀ l : List α, Srtd lt l → ∃ M N, l = M ++ N ∧ insB lt x l = M ++ x :: N ∧ (∀ y ∈ M, lt y x = true) ∧ ∀ y ∈ N, lt y x = false
  | [], _ => ⟨[], [], rfl, rfl, (fun _ h => nomatch h), (fun _ h => nomatch h)⟩
  | y :: r, h => by
    by_cases c : lt y x = true
    · obtain ⟨M, N, e1, e2, h1, h2⟩ := insB_spl O x r (List.pairwise_cons.mp h).2
      refine ⟨y :: M, N, by rw [e1]; rfl, by simp only [insB, c, if_true]; rw [e2]; rfl, fun z hz => ?_, h2⟩
      rcases List.mem_cons.mp hz with rfl | hz
      · exact c
      · exact h1 z hz
    · have c' : lt y x = false := by simpa using c
      refine ⟨[], y :: r, rfl, by simp [insB, c'], (fun _ h => nomatch h), fun z hz => ?_⟩
      rcases List.mem_cons.mp hz with rfl | hz
      · exact c'
      · have := srtd_head h z hz
        exact O.tr x y z c' this
theorem insB_ok {lt : α → α → Bool} (O : Swo lt) (x : α) {l : List α} (h : Srtd lt l) : Srtd lt (insB lt x l) ∧ Stb lt (insB lt x l) (x :: l) := by
  obtain ⟨M, N, rfl, e2, h1, h2⟩ := insB_spl O x l h
  rw [e2]
  obtain ⟨m, n, mn⟩ := srtd_app.mp h
  constructor
  · refine srtd_app.mpr ⟨m, List.pairwise_cons.mpr ⟨fun b hb => h2 b hb, n⟩, fun a ha b hb => ?_⟩
    rcases List.mem_cons.mp hb with rfl | hb
    · exact O.asym _ _ (h1 a ha)
    · exact mn a ha b hb
  · have q : Stb lt ((M ++ [x]) ++ N) (([x] ++ M) ++ N) := (Stb.swap O fun a ha b hb => by rw [List.mem_singleton.mp hb]; exact h1 a ha).app (Stb.refl N)
    have e : M ++ x :: N = (M ++ [x]) ++ N := by simp
    rw [e]
    exact q
theorem isortB_ok {lt : α → α → Bool} (O : Swo lt) : ∀ l : List α, Srtd lt (isortB lt l) ∧ Stb lt (isortB lt l) l
  | [] => ⟨List.Pairwise.nil, Stb.refl _⟩
  | x :: r => by
    obtain ⟨h1, h2⟩ := isortB_ok O r
    obtain ⟨g1, g2⟩ := insB_ok O x h1
    exact ⟨g1, g2.trans ((Stb.refl [x]).app h2)⟩
theorem isortB_uniq {lt : α → α → Bool} (O : Swo lt) {l ys : List α} (h1 : Srtd lt ys) (h2 : Stb lt ys l) : ys = isortB lt l := by
  obtain ⟨g1, g2⟩ := isortB_ok O l
  refine stb_uniq O h1 g1 (h2.trans ⟨g2.perm.symm, fun x => (g2.cls x).symm⟩)
theorem isortB_congr {lt lt' : α → α → Bool} : ∀ {l : List α}, (∀ x ∈ l, ∀ y ∈ l, lt x y = lt' x y) → isortB lt l = isortB lt' l := by
  have key : ∀ (x : α) (l : List α), (∀ y ∈ l, lt y x = lt' y x) → insB lt x l = insB lt' x l := fun x l => by
    induction l with
    | nil => intro _; rfl
    | cons y r ih => intro h; simp only [insB, h y List.mem_cons_self, ih fun z hz => h z (List.mem_cons_of_mem _ hz)]
  have mem : ∀ (lt : α → α → Bool) (l : List α) (y : α), y ∈ isortB lt l → y ∈ l := fun lt l => by
    have mi : ∀ (x : α) (l : List α) (y : α), y ∈ insB lt x l → y = x ∨ y ∈ l := fun x l => by
      induction l with
      | nil => intro y h; simp [insB] at h; exact .inl h
      | cons z r ih =>
        intro y h
        simp only [insB] at h
        split at h
        · rcases List.mem_cons.mp h with rfl | h
          · exact .inr List.mem_cons_self
          · rcases ih y h with h | h
            · exact .inl h
            · exact .inr (List.mem_cons_of_mem _ h)
        · rcases List.mem_cons.mp h with rfl | h
          · exact .inl rfl
          · exact .inr h
    induction l with
    | nil => intro y h; cases h
    | cons x r ih =>
      intro y h
      rcases mi x _ y h with rfl | h
      · exact List.mem_cons_self
      · exact List.mem_cons_of_mem _ (ih y h)
  intro l
  induction l with
  | nil => intro _; rfl
  | cons x r ih =>
    intro h
    simp only [isortB]
    rw [ih fun a ha b hb => h a (List.mem_cons_of_mem _ ha) b (List.mem_cons_of_mem _ hb)]
    exact key x _ fun y hy => h y (List.mem_cons_of_mem _ (mem _ _ _ hy)) x List.mem_cons_self
end
/-- lists of ints by their order -/
def lexI : List Int → List Int → Bool
  | [], [] => false
  | [], _ :: _ => true
  | _ :: _, [] => false
  | a :: r, b :: s => if a = b then lexI r s else decide (a < b)
theorem lexI_asym : ∀ x y, lexI x y = true → lexI y x = false
  | [], [], h => by simp [lexI] at h
  | [], _ :: _, _ => rfl
  | _ :: _, [], h => by simp [lexI] at h
  | a :: r, b :: s, h => by
    simp only [lexI] at h ⊢
    by_cases c : a = b
    · subst c; simp only [if_true] at h ⊢; exact lexI_asym r s h
    · rw [if_neg c] at h; rw [if_neg (Ne.symm c)]
      simp only [decide_eq_true_eq] at h; simp; omega
theorem lexI_tr : ∀ x y z, lexI y x = false → lexI z y = false → lexI z x = false
  | [], _, [], _, _ => rfl
  | [], [], _ :: _, _, _ => rfl
  | [], _ :: _, _ :: _, _, _ => rfl
  | _ :: _, [], [], h, _ => by simp [lexI] at h
  | a :: x, [], c :: z, h, _ => by simp [lexI] at h
  | a :: x, b :: y, [], _, h => by simp [lexI] at h
  | a :: x, b :: y, c :: z, h1, h2 => by
    simp only [lexI] at h1 h2 ⊢
    by_cases e1 : b = a
    · subst e1
      simp only [if_true] at h1
      by_cases e2 : c = b
      · subst e2; simp only [if_true] at h2 ⊢; exact lexI_tr x y z h1 h2
      · rw [if_neg e2] at h2 ⊢; exact h2
    · rw [if_neg e1] at h1
      by_cases e2 : c = b
      · subst e2; rw [if_neg e1]; exact h1
      · rw [if_neg e2] at h2
        simp only [decide_eq_false_iff_not] at h1 h2
        rw [if_neg (by omega)]; simp; omega
theorem lexI_swo {α : Type} (k : α → List Int) : Swo fun x y => lexI (k x) (k y) := ⟨fun x y => lexI_asym _ _, fun x y z => lexI_tr _ _ _⟩
end Srt2
namespace SrtO
open PySem PyProof.Rows Srt Srt2
section
variable {prog : Program} {w : World} {A : Around} {E : Value → Shared → Prop} {s : Shared}
/-- values that are these ints -/
abbrev VI (vs : List Value) (ns : List Int) : Prop := Paired (fun (v : Value) (n : Int) => ∃ t, v = .int n t) vs ns
def IsInts (h : Heap) (v : Value) (ns : List Int) : Prop := ∃ a o vs n, v = .ref a ∧ h.get? a = some o ∧ o.cls = .type "tuple" ∧ o.data = .seq (List.toArray vs) n ∧ VI vs ns
theorem IsInts.keeps {h h' : Heap} {v : Value} {ns : List Int} (p : IsInts h v ns) (k : ∀ b o, h.get? b = some o → o.cls = .type "tuple" → h'.get? b = some o) : IsInts h' v ns := by
  obtain ⟨a, o, vs, n, e, ho, hc, hd, r⟩ := p
  exact ⟨a, o, vs, n, e, k _ _ ho hc, hc, hd, r⟩
theorem lex_run {Q : Bool → Shared → Prop} : ∀ {xs ys : List Value} {ns ms : List Int} {i : Nat} {fin : Bool}, VI xs ns → VI ys ms → (fin = decide (ns.length < ms.length)) → (i = 0 ∨ True) → Q (lexI ns ms) s → PySem.W.KatLex prog w A true fin Q (xs.zip ys) i s
  | [], [], _, _, _, fin, .nil, .nil, hf, _, q => by
    have : fin = false := by rw [hf]; rfl
    subst this; exact PySem.W.kat_nil q
  | [], _ :: _, _, _, _, fin, .nil, .cons _ _, hf, _, q => by
    have : fin = true := by rw [hf]; simp
    subst this; exact PySem.W.kat_nil q
  | _ :: _, [], _, _, _, fin, .cons _ _, .nil, hf, _, q => by
    have : fin = false := by rw [hf]; simp
    subst this; exact PySem.W.kat_nil q
  | x :: xs, y :: ys, n :: ns, m :: ms, i, fin, .cons ⟨t, hx⟩ rx, .cons ⟨u, hy⟩ ry, hf, _, q => by
    subst hx hy
    refine PySem.W.kat_cons (SeqAt.EqAt.int_int n t m u prog w _ _ ?_)
    refine PySem.W.kat_go (fun e1 => ?_) (fun e1 => ?_)
    · have ex : n = m := by simpa using e1
      subst ex
      refine PySem.W.kat_yes (lex_run rx ry (by rw [hf]; simp) (.inr trivial) ?_)
      simpa only [lexI, if_true] using q
    · have ex : ¬ n = m := by simpa using e1
      have e3 : lexI (n :: ns) (m :: ms) = decide (n < m) := by simp only [lexI, if_neg ex]
      rw [e3] at q
      cases i with
      | zero => exact PySem.W.kat_no (oneLt_int q)
      | succ i => exact PySem.W.kat_no (PySem.W.kat_one _ _ (PyProof.Rows.lt_int q))
theorem ints_cmp {vs : List Value} {k : Value → List Int} (hp : ∀ v ∈ vs, IsInts s.heap v (k v)) : Cmp prog w A s (tuples' true) (fun p => p.1 ∈ vs) (lt2 fun v u => lexI (k v) (k u)) := by
  intro p q hm hm'
  obtain ⟨a, o, xs, n, e, ho, hc, hd, r⟩ := hp _ hm
  obtain ⟨a', o', ys, n', e', ho', hc', hd', r'⟩ := hp _ hm'
  show wpAny (model prog w) A (keyLt' (tuples' true) p.1 q.1) (fun r s' => s' = s ∧ r = lexI (k p.1) (k q.1)) (fun _ _ => False) s
  rw [e, e'] at *
  refine PySem.W.kat_lt ho hd ho' hd' ?_
  refine lex_run r r' ?_ (.inl rfl) ⟨rfl, rfl⟩
  rw [← Paired.length r, ← Paired.length r']; simp
theorem firstsI {h : Heap} : ∀ {vs : List Value}, (∀ v ∈ vs, ∃ x r, IsInts h v (x :: r)) → ∃ fs : List Value, PySem.W.KatTups h vs fs ∧ fs.length = vs.length ∧ ∀ f ∈ fs, ∃ x t, f = Value.int x t
  | [], _ => ⟨[], PySem.W.KatTups.nil, rfl, fun _ hm => by simp at hm⟩
  | v :: vs, hp => by
    obtain ⟨fs, h1, h2, h3⟩ := firstsI (vs := vs) fun v' hm => hp v' (List.mem_cons_of_mem _ hm)
    obtain ⟨x, r, a, o, xs, n, e, ho, hc, hd, rv⟩ := hp v List.mem_cons_self
    cases rv with
    | cons hx _ =>
      obtain ⟨t, rfl⟩ := hx
      subst e
      exact ⟨_ :: fs, PySem.W.KatTups.cons ho hc hd rfl h1, by simp [h2], fun f hf => by
        rcases List.mem_cons.mp hf with rfl | hf
        · exact ⟨_, _, rfl⟩
        · exact h3 f hf⟩
theorem ints_sortable {a : Addr} {vs : List Value} {k : Value → List Int} (h0 : 0 < vs.length) (hp : ∀ v ∈ vs, IsInts s.heap v (k v)) (hn : ∀ v ∈ vs, k v ≠ []) (ha : ∀ o, s.heap.get? a = some o → o.cls ≠ .type "tuple") : SortableO prog w A s a vs fun v u => lexI (k v) (k u) := by
  intro h' keep
  have hp' : ∀ v ∈ vs, IsInts h' v (k v) := fun v hm => (hp v hm).keeps fun b o e c => keep b o (fun z => by subst z; exact ha o e c) e
  obtain ⟨fs, h1, h2, h3⟩ := firstsI (h := h') (vs := vs) fun v hm => by
    have q := hp' v hm
    cases e : k v with
    | nil => exact absurd e (hn v hm)
    | cons x r => rw [e] at q; exact ⟨x, r, q⟩
  refine ⟨tuples' true, fun Q E hq => ?_, ints_cmp hp'⟩
  refine PySem.W.kat_kind (T := .type "int") h1 (by omega) (fun f hm => ?_) (by rfl) ?_
  · obtain ⟨x, t, rfl⟩ := h3 f hm
    exact PySem.W.Looks.now
  · have e : (Value.type "int" != Value.type "tuple") = true := by first | decide +kernel | rfl | decide
    rw [e]
    exact hq
/-- sorted(l) of tuples of ints, any number of them -/
theorem sorted_intsO {l : Addr} {vs : List Value} {k : Value → List Int} {Q : Value → Shared → Prop} (hl : s.heap.IsList l vs.toArray) (hz : vs.length ≤ sizeLine) (hp : ∀ v ∈ vs, IsInts s.heap v (k v)) (hn : ∀ v ∈ vs, k v ≠ [])
    (h : ∀ (h' : Heap) (d : Addr), (∀ b o, s.heap.get? b = some o → h'.get? b = some o) → s.heap.objs.size ≤ d → (∃ n, h'.get? d = some (seqObj "list" (isortB (fun v u => lexI (k v) (k u)) vs).toArray n)) → Q (.ref d) { s with heap := h' }) :
    wpAny (model prog w) A (call (.builtin "sorted") [.ref l]) Q E s := by
  refine sorted_ord (lexI_swo k) hl hz (fun h2 h₁ a ha kk => ?_) fun out hs hb => ?_
  · refine ints_sortable (s := { s with heap := h₁ }) (by omega) (fun v hm => (hp v hm).keeps fun b o e _ => (kk b o e).2) hn fun o e => ?_
    have e' : some o = some (seqObj "list" vs.toArray 0) := e.symm.trans ha
    cases e'
    intro c
    exact absurd (Value.type.inj c) (by decide)
  · rw [isortB_uniq (lexI_swo k) hs hb]
    exact h _ _ (fun b o e => sortedAll_old e) (Nat.le_succ _) (sortedAll_at s.heap vs _)
end
end SrtO
namespace L2
open PySem PySem.Spec PyProof.Rows SrtO Srt2
abbrev lexP (p q : List Int × V) : Bool := lexI p.1 q.1
/-- sorted(xs), xs a list of tuples of ints (ps says which) -/
def rSortN (K : PySem.W.Frag) : List V → Hp → VK → Prop := fun vs H Q => ∃ (a : Addr) (ps : List (List Int × V)), vs = [V.ref a] ∧ SqL K H a (ps.map (·.2)) ∧ (∀ p ∈ ps, p.1 ≠ [] ∧ ∃ t, p.2 = V.ref t ∧ SqT K H t (p.1.map V.int)) ∧
  ∀ p, H p = none → Q (.ref p) (upd H p (.lst ((isortB lexP ps).map (·.2))))
/-- the ints of a tuple -/
def intsAt (h : Heap) (v : Value) : List Int := match v with
  | .ref a => match h.get? a with
    | some o => match o.data with
      | .seq its _ => its.toList.map fun u => match u with
        | .int n _ => n
        | _ => 0
      | _ => []
    | none => []
  | _ => []
theorem intsAt_of {h : Heap} {v : Value} {ns : List Int} (p : IsInts h v ns) : intsAt h v = ns := by
  obtain ⟨a, o, vs, n, rfl, ho, hc, hd, r⟩ := p
  unfold intsAt
  simp only [ho, hd]
  clear ho hd hc
  induction r with
  | nil => rfl
  | cons hx _ ih => obtain ⟨t, rfl⟩ := hx; simpa using ih
section
variable {X : Cx}
theorem vi_of : ∀ {ns : List Int} {its : List Value}, Vals (ns.map V.int) its → VI its ns
  | [], _, .nil => .nil
  | n :: ns, _, .cons r rr => by
    obtain ⟨t, e⟩ := r
    exact .cons ⟨t, e⟩ (vi_of rr)
theorem cr_sortN : CallR X (.builtin "sorted") (rSortN X.K) := by
  intro pins s σ H vs us Q I r h
  obtain ⟨a, ps, rfl, hs, hx, q⟩ := h
  obtain ⟨its, rv, hl, hz⟩ := I.list hs
  obtain ⟨u, rfl, ru⟩ := vals1 r
  obtain rfl : u = Value.ref a := ru
  obtain ⟨e1, e2⟩ := refs_back rv fun x m => by
    obtain ⟨p, hp, rfl⟩ := List.mem_map.mp m
    obtain ⟨_, t, e, _⟩ := hx p hp
    exact ⟨t, e⟩
  have key : ∀ p ∈ ps, ∃ t, p.2 = V.ref t ∧ IsInts s.heap (.ref t) p.1 := fun p hp => by
    obtain ⟨_, t, e, ht⟩ := hx p hp
    obtain ⟨ts, rt, ⟨o, ho, hc, n, hd⟩, _⟩ := I.tuple ht
    exact ⟨t, e, t, o, ts, n, rfl, ho, hc, hd, vi_of rt⟩
  have back : ∀ v ∈ its, ∃ p ∈ ps, backV v = p.2 ∧ IsInts s.heap v p.1 := fun v hv => by
    obtain ⟨t, rfl⟩ := e2 v hv
    have hm : V.ref t ∈ ps.map (·.2) := by rw [e1]; exact List.mem_map.mpr ⟨_, hv, rfl⟩
    obtain ⟨p, hp, ep⟩ := List.mem_map.mp hm
    obtain ⟨t', e', hi⟩ := key p hp
    have : t = t' := by
      have ep : p.2 = V.ref t := ep
      rw [e'] at ep; cases ep; rfl
    subst this
    exact ⟨p, hp, ep.symm, hi⟩
  refine sorted_intsO (k := intsAt s.heap) hl.isList (by rw [← rv.length]; exact hz) (fun v hv => ?_) (fun v hv => ?_) fun h' d kp hd hn => ?_
  · obtain ⟨p, hp, _, hi⟩ := back v hv
    rw [intsAt_of hi]; exact hi
  · obtain ⟨p, hp, _, hi⟩ := back v hv
    rw [intsAt_of hi]; exact (hx p hp).1
  · obtain ⟨n, hn⟩ := hn
    have e3 : (isortB (fun v u => lexI (intsAt s.heap v) (intsAt s.heap u)) its).map backV = (isortB lexP ps).map (·.2) := by
      let fw : V → List Int := fun x => match x with
        | .ref t => intsAt s.heap (.ref t)
        | _ => []
      have f1 : ∀ p ∈ ps, fw p.2 = p.1 := fun p hp => by
        obtain ⟨t, e, hi⟩ := key p hp
        rw [e]; exact intsAt_of hi
      have f2 : ∀ v ∈ its, fw (backV v) = intsAt s.heap v := fun v hv => by
        obtain ⟨t, rfl⟩ := e2 v hv
        rfl
      rw [isortB_congr (lt' := fun v u => (fun x y => lexI (fw x) (fw y)) (backV v) (backV u)) fun v hv u hu => by simp only [f2 v hv, f2 u hu]]
      rw [← isortB_map (fun x y => lexI (fw x) (fw y)) backV, ← e1]
      rw [isortB_map (fun x y => lexI (fw x) (fw y)) (fun p : List Int × V => p.2)]
      rw [isortB_congr (lt' := lexP) fun p hp u hu => by simp only [f1 p hp, f1 u hu]]
    have hlen : (isortB (fun v u => lexI (intsAt s.heap v) (intsAt s.heap u)) its).length = its.length := (isortB_ok (lexI_swo _) its).2.len
    have h3 : ∀ u ∈ isortB (fun v u => lexI (intsAt s.heap v) (intsAt s.heap u)) its, ∃ a, u = Value.ref a := fun u hu => e2 u ((isortB_ok (lexI_swo _) its).2.perm.mem_iff.mp hu)
    refine ⟨.ref d, upd H d (.lst ((isortB lexP ps).map (·.2))), I.laid (t' := s.toks) kp hd ⟨?_, _, n, ?_, hn⟩, rfl, q d (I.hok.fresh hd)⟩
    · rw [← e3, List.length_map, hlen, ← rv.length]; exact hz
    · rw [← e3]; exact vals_back h3
end
end L2

set_option linter.all false
set_option maxRecDepth 100000
set_option maxHeartbeats 4000000
/-! Errors: made, caught, handed to a def within the suite. -/
namespace L2
open PySem PySem.Spec PyProof.Rows
/-! ### making -/
def spInit (K : PySem.W.Frag) (f : Str) : Sp := fun vs H Q _ => ∃ (a C : Addr) (y : V), vs = [.ref a, y] ∧ OexC K C ∧ PySem.W.findIn K (.ref C) f = some none ∧ H a = some (exo a C none) ∧
  ∀ dx, H dx = none → dx ≠ a → Q .non (upd (upd H dx (exd dx [(f, y)])) a (exo a C (some dx)))
/-- what isinstance and the field want of the class -/
structure ErrF (K : PySem.W.Frag) (ns : List Str) (C : Addr) : Prop where
  cl : (PySem.W.clsIn K C).isSome = true
  ga : PySem.W.findIn K (.ref C) "__getattribute__" = some (some (.builtin "BaseException.__getattribute__"))
  gg : PySem.W.findIn K (.ref C) "__getattr__" = some none
  sb : PySem.W.subIn K (.ref C) (.type "BaseException") = some true
  hd : PySem.W.hasDictIn K C = true
  ca : PySem.W.findIn K (.ref C) "__class__" = some (some (.builtin "object.__class__"))
  sg : PySem.W.specialIn K (.builtin "object.__class__") "__get__" = some (some (.builtin "getset_descriptor.__get__"))
  tk : PySem.W.takesIn K (.builtin "object.__class__") = some true
  mo : PySem.W.mroIn K C (.type "object") = some true
  no : ∀ f ∈ ns, PySem.W.findIn K (.ref C) f = some none
/-- an error's class, its one field, its __init__ -/
structure ErrC (P : Program) (w : World) (K : PySem.W.Frag) (mg : Str → Option Value) (base : Heap) (nl : List Str) (c f : Str) (C : Addr) : Prop where
  ns : PySem.W.nsIn K mainGlobals c = some (some (.ref C))
  gl : mg c = some (.ref C)
  ox : OexC K C
  fc : ErrF K nl C
  fm : f ∈ nl
  ini : ∃ (fI : Addr) (fd : FuncData), PySem.W.findIn K (.ref C) "__init__" = some (some (.ref fI)) ∧ PySem.W.typeIn K (.ref fI) = some (.type "function") ∧ FnOk P w K mg base CX0 1 fI fd ["self", f] (spInit K f) ∧ Binds K fd ["self", f] []
theorem upd_made {H1 : Hp} {a dx C : Addr} {f : Str} {y : V} (hn : H1 a = none) (hd : dx ≠ a) :
    upd (del (upd (upd (upd H1 a (exo a C none)) dx (exd dx [(f, y)])) a (exo a C (some dx))) a) dx (.xd [(f, y)]) = upd H1 dx (.xd [(f, y)]) := by
  funext b
  by_cases e1 : b = dx
  · subst e1; rw [upd_same, upd_same]
  · rw [upd_ne e1, upd_ne e1]
    by_cases e2 : b = a
    · subst e2; rw [del_same, hn]
    · rw [del_ne e2, upd_ne e2, upd_ne e1, upd_ne e2]
section
variable {X : Cx} {x : Str} {C : Addr} {f : Str} {e : Expr} {te : TE} {p pos pos2 : Pos}
/-- raise X(e) -/
theorem ps_raiseE {W : WX} (hc : X.calm = true) (tk : Takes X W) {nl : List Str} (T : ErrC X.prog X.w X.K X.mg X.base nl x f C) (hr : Room 2 X.A) (hg : Gl X x) (he0 : PE X e te)
    (hdb : (x == ("__debug__" : Str)) = false := by decide) (he : starEach [e] X.env = (false, eval e X.env) :: starEach [] X.env := by rfl) (hpl : (backTo pos (starEach [] X.env)).any (·.1) = false := by rfl) :
    PS X (.Raise (some (.Call (.Name x p) [e] [] pos)) none pos2) (fun _ σ H => tMkO C (spInit X.K f) [] (tCons te tNil) σ H fun cls d H' => W cls d σ H') := by
  obtain ⟨fI, fd, iC, tI, F1, hb⟩ := T.ini
  exact ps_raise hc tk (pmk_oex (ds := []) (dvs := []) T.ox iC tI F1 hr hb .nil (fun _ _ _ _ _ _ _ (h : False) => h.elim) hg T.gl (pa_cons he0 pa_nil he) hdb he hpl)
end
/-- the __init__ of an error's class: self.f = f -/
theorem init_ok {P : Program} {w : World} {K : PySem.W.Frag} {mg : Str → Option Value} {base : Heap} {q f : Str} {st : Stmt} {fI : Addr} {oc kV doc pm cdv ct : Value} {od an : Option Addr} {osl : Array (Option Value)} {p1 p2 p3 p4 : Pos}
    (lk : K.lookup fI = some ⟨oc, od, .func (PySem.W.fnOf "__init__" q (defArgs st) (defBody st) (defScope st) .none kV doc pm an cdv ct), osl⟩) (hcd : PySem.W.codeIn K cdv q = true) (S : FnScope ["self", f] ["self", f] (defScope st))
    (hb : defBody st = [.Assign [.Attribute (.Name "self" p1) f p2] (.Name f p3) p4]) (h0 : Vis (defScope st) "self") (h1 : Vis (defScope st) f) (d1 : (f == ("__debug__" : Str)) = false) (d2 : (f == ("__classdict__" : Str)) = false)
    (hs : ∀ (A : Addr) (c : Value) (L : Addr), swapsWith (.Name f p3) (some (.Attribute (.Name "self" p1) f p2)) p4.line (envOfC q (defScope st) L A c) = pure false) :
    FnOk P w K mg base CX0 1 fI (PySem.W.fnOf "__init__" q (defArgs st) (defBody st) (defScope st) .none kV doc pm an cdv ct) ["self", f] (spInit K f) := by
  refine fn_of lk hcd S (fun vs H Q E h => ?_) fun A outer s H vs Q E hr h => ?_
  · obtain ⟨a, C, y, rfl, _⟩ := h; rfl
  · obtain ⟨a, C, y, rfl, T, hno, ha, q1⟩ := h
    rw [hb]
    refine ⟨_, PSs.nox (pss_one (ps_ost (pe_var (i := 0) rfl h0) (pe_var (i := 1) rfl h1 d1 d2) (hs _ _ _))), ?_⟩
    exact ⟨y, rfl, .ref a, rfl, a, C, rfl, T, hno, .inl ⟨ha, fun dx n ne => q1 dx n ne⟩⟩
/-- the method of a class's text -/
def initS (s : Stmt) : Stmt := match s with
  | .ClassDef _ _ _ b _ _ _ _ _ _ _ => b.getD 0 (.Pass ⟨0, 0, 0, 0⟩)
  | _ => .Pass ⟨0, 0, 0, 0⟩
theorem err_mk {P : Program} {w : World} {K : PySem.W.Frag} {mg : Str → Option Value} {base : Heap} {nl : List Str} {c f q : Str} {C fI : Addr} {st : Stmt} {oc kV doc pm cdv ct : Value} {od an : Option Addr} {osl : Array (Option Value)} {p1 p2 p3 p4 : Pos}
    {nm qn : Str} {N : Addr} {bs bm : List Value} {sn : List Str} {sub : List Value} {ab : Bool} {col : Option Bool} {dd : Option Addr} {m0 m1 m2 m3 m5 : Option Value}
    (ns : PySem.W.nsIn K mainGlobals c = some (some (.ref C))) (gl : mg c = some (.ref C)) (fm : f ∈ nl)
    (xL : K.lookup C = some (excClassObj nm qn C N bs bm true sn sub ab col dd m0 m1 m2 m3 m5 "ValueError.__new__")) (hbm : PySem.HandSPX.refsVE bm = true)
    (sa : PySem.W.findIn K (.ref C) "__setattr__" = some (some (.builtin "object.__setattr__"))) (ga : PySem.W.findIn K (.ref C) "__getattribute__" = some (some (.builtin "BaseException.__getattribute__"))) (gg : PySem.W.findIn K (.ref C) "__getattr__" = some none)
    (no : ∀ f ∈ nl, PySem.W.findIn K (.ref C) f = some none) (iC : PySem.W.findIn K (.ref C) "__init__" = some (some (.ref fI))) (tI : PySem.W.typeIn K (.ref fI) = some (.type "function"))
    (lk : K.lookup fI = some ⟨oc, od, .func (PySem.W.fnOf "__init__" q (defArgs st) (defBody st) (defScope st) .none kV doc pm an cdv ct), osl⟩) (hcd : PySem.W.codeIn K cdv q = true)
    (kC : PySem.W.keepIn K (.ref C) = true) (exC : PySem.W.subIn K (.ref C) (.type "BaseException") = some true) (tyC : PySem.W.typeIn K (.ref C) = some (.type "type")) (hdC : PySem.W.hasDictIn K C = true)
    (cl : PySem.W.isClsIn K C = true) (ca : PySem.W.findIn K (.ref C) "__class__" = some (some (.builtin "object.__class__"))) (sg : PySem.W.specialIn K (.builtin "object.__class__") "__get__" = some (some (.builtin "getset_descriptor.__get__")))
    (tk : PySem.W.takesIn K (.builtin "object.__class__") = some true) (mo : PySem.W.mroIn K C (.type "object") = some true)
    (S : FnScope ["self", f] ["self", f] (defScope st)) (hb : defBody st = [.Assign [.Attribute (.Name "self" p1) f p2] (.Name f p3) p4]) (h0 : Vis (defScope st) "self") (h1 : Vis (defScope st) f) (d1 : (f == ("__debug__" : Str)) = false) (d2 : (f == ("__classdict__" : Str)) = false)
    (hs : ∀ (A : Addr) (c : Value) (L : Addr), swapsWith (.Name f p3) (some (.Attribute (.Name "self" p1) f p2)) p4.line (envOfC q (defScope st) L A c) = pure false)
    (hbi : ∀ us : List Value, us.length = 2 → bindArgs (PySem.W.fnOf "__init__" q (defArgs st) (defBody st) (defScope st) .none kV doc pm an cdv ct) ⟨us, []⟩ = pure ((["self", f] : List Str).zip us)) : ErrC P w K mg base nl c f C where
  ns := ns
  gl := gl
  ox := ⟨⟨nm, qn, N, bs, bm, sn, sub, ab, col, dd, m0, m1, m2, m3, m5, xL, hbm⟩, sa, exC, tyC, kC⟩
  fc := ⟨cl, ga, gg, exC, hdC, ca, sg, tk, mo, no⟩
  fm := fm
  ini := ⟨fI, _, iC, tI, init_ok lk hcd S hb h0 h1 d1 d2 hs, .all hbi⟩
structure ErrRaw (K : PySem.W.Frag) (nl : List Str) (c f : Str) (C : Addr) : Prop where
  ns : PySem.W.nsIn K mainGlobals c = some (some (.ref C))
  all : ∀ {P : Program} {w : World} {mg : Str → Option Value} {base : Heap}, mg c = some (.ref C) → ErrC P w K mg base nl c f C
theorem errRaw_mk {K : PySem.W.Frag} {nl : List Str} {c f q : Str} {C fI : Addr} {st : Stmt} {oc kV doc pm cdv ct : Value} {od an : Option Addr} {osl : Array (Option Value)} {p1 p2 p3 p4 : Pos}
    {nm qn : Str} {N : Addr} {bs bm : List Value} {sn : List Str} {sub : List Value} {ab : Bool} {col : Option Bool} {dd : Option Addr} {m0 m1 m2 m3 m5 : Option Value}
    (ns : PySem.W.nsIn K mainGlobals c = some (some (.ref C))) (fm : f ∈ nl)
    (xL : K.lookup C = some (excClassObj nm qn C N bs bm true sn sub ab col dd m0 m1 m2 m3 m5 "ValueError.__new__")) (hbm : PySem.HandSPX.refsVE bm = true)
    (sa : PySem.W.findIn K (.ref C) "__setattr__" = some (some (.builtin "object.__setattr__"))) (ga : PySem.W.findIn K (.ref C) "__getattribute__" = some (some (.builtin "BaseException.__getattribute__"))) (gg : PySem.W.findIn K (.ref C) "__getattr__" = some none)
    (no : ∀ f ∈ nl, PySem.W.findIn K (.ref C) f = some none) (iC : PySem.W.findIn K (.ref C) "__init__" = some (some (.ref fI))) (tI : PySem.W.typeIn K (.ref fI) = some (.type "function"))
    (lk : K.lookup fI = some ⟨oc, od, .func (PySem.W.fnOf "__init__" q (defArgs st) (defBody st) (defScope st) .none kV doc pm an cdv ct), osl⟩) (hcd : PySem.W.codeIn K cdv q = true)
    (kC : PySem.W.keepIn K (.ref C) = true) (exC : PySem.W.subIn K (.ref C) (.type "BaseException") = some true) (tyC : PySem.W.typeIn K (.ref C) = some (.type "type")) (hdC : PySem.W.hasDictIn K C = true)
    (cl : PySem.W.isClsIn K C = true) (ca : PySem.W.findIn K (.ref C) "__class__" = some (some (.builtin "object.__class__"))) (sg : PySem.W.specialIn K (.builtin "object.__class__") "__get__" = some (some (.builtin "getset_descriptor.__get__")))
    (tk : PySem.W.takesIn K (.builtin "object.__class__") = some true) (mo : PySem.W.mroIn K C (.type "object") = some true)
    (S : FnScope ["self", f] ["self", f] (defScope st)) (hb : defBody st = [.Assign [.Attribute (.Name "self" p1) f p2] (.Name f p3) p4]) (h0 : Vis (defScope st) "self") (h1 : Vis (defScope st) f) (d1 : (f == ("__debug__" : Str)) = false) (d2 : (f == ("__classdict__" : Str)) = false)
    (hs : ∀ (A : Addr) (c : Value) (L : Addr), swapsWith (.Name f p3) (some (.Attribute (.Name "self" p1) f p2)) p4.line (envOfC q (defScope st) L A c) = pure false)
    (hbi : ∀ us : List Value, us.length = 2 → bindArgs (PySem.W.fnOf "__init__" q (defArgs st) (defBody st) (defScope st) .none kV doc pm an cdv ct) ⟨us, []⟩ = pure ((["self", f] : List Str).zip us)) : ErrRaw K nl c f C :=
  ⟨ns, fun gl => err_mk ns gl fm xL hbm sa ga gg no iC tI lk hcd kC exC tyC hdC cl ca sg tk mo S hb h0 h1 d1 d2 hs hbi⟩
/-! ### a def that is handed the caught error within the suite -/
structure FnHp (P : Program) (w : World) (K : PySem.W.Frag) (mg : Str → Option Value) (base : Heap) (k : Nat) (f : Addr) (fd : FuncData) (ps : List Str) (sp : Addr → Value → Option Addr → Sp) : Prop where
  len : ∀ a c d vs H Q E, sp a c d vs H Q E → vs.length = ps.length
  run : ∀ (A : Around) (outer : List Env) (s : Shared) (H : Hp) (args : Args) (us : List Value) (vs : List V) (Q : VK) (E : XK) (p : Addr × Obj) (c : Value) (d : Option Addr), L2H.RoomH k A → Zc c d p.2 → (∃ vs, p.2.data = .fields vs) → L2H.PinOk outer H s p → Env0 P w K mg base A outer s H → BindsTo s fd args (ps.zip us) → Vals vs us → sp p.1 c d vs H Q E →
    codeAny (model P w) A (.call (.ref f) args) (CR CX0 outer P w H s Q E) s
theorem fn_ofHp {P : Program} {w : World} {K : PySem.W.Frag} {mg : Str → Option Value} {base : Heap} {k : Nat} {f : Addr} {name qual : Str} {params : Arguments} {body : List Stmt} {scope : Scope} {dV kV doc pm cdv ct oc : Value} {an od : Option Addr}
    {osl : Array (Option Value)} {N ps : List Str} {sp : Addr → Value → Option Addr → Sp} (lk : K.lookup f = some ⟨oc, od, .func (PySem.W.fnOf name qual params body scope dV kV doc pm an cdv ct), osl⟩) (hcd : PySem.W.codeIn K cdv qual = true) (S : FnScope N ps scope)
    (len : ∀ a c d vs H Q E, sp a c d vs H Q E → vs.length = ps.length)
    (hbody : ∀ (A : Around) (outer : List Env) (s : Shared) (H : Hp) (vs : List V) (Q : VK) (E : XK) (p : Addr × Obj) (c : Value) (d : Option Addr), Zc c d p.2 → (∃ vs, p.2.data = .fields vs) → L2H.RoomH k (A.deeper (envOfC qual scope s.heap.objs.size f cdv)) → sp p.1 c d vs H Q E →
      ∃ t, PSs (L2H.cxH CX0 P w K mg base N qual scope f cdv A outer s H E p) body t ∧ t { nx := fun _ H' => Q .non H', rt := Q } (L2.start N vs) H) :
    FnHp P w K mg base (k + 1) f (PySem.W.fnOf name qual params body scope dV kV doc pm an cdv ct) ps sp := by
  refine ⟨len, fun A outer s H args us vs Q E p c d hr hz hf hpin e0 hb r hsp => ?_⟩
  have hl := len _ _ _ _ _ _ _ hsp
  have KX : K.In s.heap := e0.mod.kin.keeps fun b o e => (e0.bs b o e).1
  have lim : s.heap.NoLimit := e0.mod.nolimit.keeps fun b o e => (e0.bs b o e).1
  have hkind : ∀ y ∈ ps.zip us, scope.names.lookup y.1 = some .local ∨ (scope.names.lookup y.1 = some .cell ∧ ((cellsFrom (s.heap.objs.size + 1) scope.names []).lookup y.1).isSome = true) := fun ⟨n, v⟩ hy => by
    rcases S.par n (List.of_mem_zip hy).1 with q | q
    · exact .inl q
    · exact .inr ⟨q, PySem.W.cellsFrom_some _ _ _ (.inl q)⟩
  refine codeAny_call_function hr.depth (KX _ _ lk) rfl S.co S.gen rfl (PySem.W.codeRec_of KX hcd) (hb _ _ _ _ ?_)
  refine wpAny_newFunctionEnv_cells S.kind hkind fun env he s1 x => ?_
  subst he
  refine ⟨lim.keeps x.toInCall.keep, codeAny_func ?_⟩
  obtain ⟨t, ht, hq⟩ := hbody A outer s H vs Q E p c d hz hf (hr.deeper _) hsp
  have I : Inv (L2H.cxH CX0 P w K mg base N qual scope f cdv A outer s H E p) [] (L2.start N vs) H s1 := L2H.inv_startH S hpin e0 hl r x
  refine wpAny_mono (ht.run [] s1 (L2.start N vs) H _ I hq) (fun fl s' hs => ?_) fun e s' hs => hs
  have fin : ∀ {σ' : St} {H' : Hp} {v : V} {u : Value}, Inv (L2H.cxH CX0 P w K mg base N qual scope f cdv A outer s H E p) [] σ' H' s' → RelV v u → Q v H' → CE outer P w H s Q u s' :=
    fun {σ' H' v u} J rv q => ⟨v, H', J.os, J.bare, J.base, J.hok, rv, q⟩
  cases fl with
  | ret u =>
    obtain ⟨v, σ', H', J, rv, q⟩ := hs
    exact fin J rv q
  | next =>
    obtain ⟨σ', H', J, q⟩ := hs
    exact fin (v := V.non) (u := Value.none) J rfl q
  | brk =>
    obtain ⟨_, _, _, q⟩ := hs
    exact False.elim q
  | cont =>
    obtain ⟨_, _, _, q⟩ := hs
    exact False.elim q
section
variable {X : Cx} {k : Nat} {f : Addr} {fd : FuncData} {ps : List Str} {sp : Addr → Value → Option Addr → Sp} {x : Str} {q pos : Pos} {e : Expr} {es : List Expr} {t : TA}
theorem pe_callHp {p : Addr × Obj} {c : Value} {d : Option Addr} {E : St → XK} (F : FnHp X.prog X.w X.K X.mg X.base k f fd ps sp) (hr : L2H.RoomH k X.A) (hp : p ∈ X.pn) (hz : Zc c d p.2) (hf : ∃ vs, p.2.data = .fields vs) (hg : Gl X x) (hm : X.mg x = some (.ref f)) (hk : PySem.W.keepIn X.K (.ref f) = true) (hb : Binds X.K fd ps [])
    (ha : PA X (e :: es) t) (hdb : (x == ("__debug__" : Str)) = false := by decide) (he : starEach (e :: es) X.env = (false, eval e X.env) :: starEach es X.env := by rfl) (hpl : (backTo pos (starEach es X.env)).any (·.1) = false := by rfl) :
    PE X (.Call (.Name x q) (e :: es) [] pos) (tCallS (sp p.1 c d) E t) := by
  refine ⟨fun pins s σ H Q I h => ?_⟩
  refine wpAny_Call_Name_kw (ld_glob I hg hm ?_ hdb)
  refine PySem.W.callWith_K (h₀ := X.base) I.ok.mod.kin hk (thn (ha.run pos pins s σ H _ I h) fun us s1 ⟨vs, H1, I1, r, q⟩ => ⟨I1.kIn, ?_⟩) he hpl
  have hl : us.length = ps.length := by rw [← r.length]; exact F.len _ _ _ _ _ _ _ q
  have b := hb s1 us I1.kIn (by rw [List.append_nil]; exact hl)
  rw [List.append_nil] at b
  have P1 := I1.pin p (List.mem_append_left _ hp)
  have hpin : L2H.PinOk X.stack H1 s1 p := ⟨P1.1, P1.2.1, fun hm => (List.mem_cons.mp (I1.stkSub p.1 hm)).elim P1.2.2.1 P1.2.2.2.1, P1.2.2.2.2⟩
  refine wpAny_call (codeAny_mono (F.run X.A X.stack s1 H1 ⟨us, []⟩ us vs _ (E σ) p c d hr hz hf hpin I1.env0 b r q) fun r s' hq => ?_)
  cases r with
  | error e => exact hq.elim
  | ok fl =>
    cases fl with
    | ret u => exact I1.after hq
    | next => exact False.elim hq
    | brk => exact False.elim hq
    | cont => exact False.elim hq
end
/-! ### isinstance, the field -/
def rIsP (K : PySem.W.Frag) (C a d : Addr) : List V → Hp → VK → Prop := fun xs H Q => ∃ (c : V) (cv : Value) (b : Bool) (fs : List (Str × V)), xs = [.ref a, c] ∧ H d = some (.xd fs) ∧ (∀ u, RelV c u → u = cv) ∧ PySem.W.kitOne K (.ref C) cv = some b ∧ Q (.bl b) H
section
variable {X : Cx} {f : Str} {C a d : Addr} {oe : Obj}
theorem inst_at {pins : List (Addr × Obj)} {σ : St} {H : Hp} {s : Shared} {fs : List (Str × V)} (hm : (a, oe) ∈ X.pn) (hz : Zc (.ref C) (some d) oe) (hf : ∃ vs, oe.data = .fields vs) (I : Inv X pins σ H s) (hd : H d = some (.xd fs)) :
    ∃ (od : Obj) (mA : Str → Option Value), PySem.W.InstAt s.heap a oe C (some od) ∧ (∀ n, PySem.W.lookIn n od = some (mA n)) ∧ ∀ n, RelO (fs.lookup n) (mA n) := by
  obtain ⟨ha, _⟩ := I.pin (a, oe) (List.mem_append_left _ hm)
  obtain ⟨vs, hv⟩ := hf
  have hx : ObjOk X.prog X.w H s.heap d (.xd fs) := I.hok d _ hd
  obtain ⟨mA, hns, hr⟩ := hx
  obtain ⟨od, ho, hl⟩ := lookIn_ns hns
  exact ⟨od, mA, ⟨ha, hz.1, by unfold PySem.W.notCls; rw [hv] <;> rfl, by rw [hz.2]; exact ho⟩, hl, hr⟩
theorem call_isP {nl : List Str} (T : ErrF X.K nl C) (hm : (a, oe) ∈ X.pn) (hz : Zc (.ref C) (some d) oe) (hf : ∃ vs, oe.data = .fields vs) : CallR X (.builtin "isinstance") (rIsP X.K C a d) := by
  intro pins s σ H xs us Q I r h
  obtain ⟨c, cv, b, fs, rfl, hd, hcv, e, q⟩ := h
  cases r with
  | cons rx rr =>
    cases rr with
    | cons rt rr =>
      cases rr
      cases rx
      have ec := hcv _ rt
      subst ec
      obtain ⟨od, mA, J, _, _⟩ := inst_at hm hz hf I hd
      exact PySem.W.kia_one (PySem.W.kitx_exc (od := some od) T.cl T.ga T.gg T.sb T.ca T.sg T.tk T.mo) I.kIn J e (fun z => nomatch z) fun tk => ⟨.bl b, H, I.kept (t' := tk) fun _ _ z => z, rfl, q⟩
def tXfP (a d : Addr) (f : Str) (te : TE) : TE := fun σ H Q => te σ H fun x H1 => x = .ref a ∧ ∃ (fs : List (Str × V)) (v : V), H1 d = some (.xd fs) ∧ fs.lookup f = some v ∧ Q v H1
theorem pe_xfP {e : Expr} {te : TE} {pos : Pos} {nl : List Str} (T : ErrF X.K nl C) (hfn : f ∈ nl) (hm : (a, oe) ∈ X.pn) (hz : Zc (.ref C) (some d) oe) (hf : ∃ vs, oe.data = .fields vs) (he : PE X e te) (hb : attributeBase e f X.env (eval e X.env) = eval e X.env := by rfl) :
    PE X (.Attribute e f pos) (tXfP a d f te) := by
  refine ⟨fun pins s σ H Q I h => ?_⟩
  refine attr_of hb (thn (he.run pins s σ H _ I h) fun u s1 hh => ?_)
  obtain ⟨x, H1, I1, rx, ex, fs, v, ea, l, q⟩ := hh
  subst ex
  obtain rfl : u = Value.ref a := rx
  obtain ⟨od, mA, J, hl, hr⟩ := inst_at hm hz hf I1 ea
  obtain ⟨u, hu, ru⟩ := RelO.some_of (v := v) (o := mA f) (by rw [← l]; exact hr f)
  exact HandSPX.exc_get I1.kIn J T.ga T.gg T.sb (PySem.W.findObj_own T.hd (T.no _ hfn) rfl (by rw [hl, hu])) (handed_of ru) ⟨v, H1, I1.tok _, ru, q⟩
end
end L2

set_option linter.all false
set_option autoImplicit false
set_option maxRecDepth 100000
set_option maxHeartbeats 1000000
namespace Ml
open PySem PySem.Spec PyProof.Rows L2
section
variable {C : Cc}
/-! ### enumerate -/
theorem enumD_get : ∀ {ds : List Dv} {j k : Nat} {d : Dv}, (enumD j ds)[k]? = some d → ∃ x, ds[k]? = some x ∧ d = .tup [.int ((j + k : Nat) : Int), x]
  | [], j, k, d, h => by simp [enumD] at h
  | y :: ds, j, 0, d, h => by simp [enumD] at h; exact ⟨y, rfl, by rw [← h]; rfl⟩
  | y :: ds, j, k + 1, d, h => by
    simp only [enumD, List.getElem?_cons_succ] at h
    obtain ⟨x, h1, h2⟩ := enumD_get h
    exact ⟨x, by simpa using h1, by rw [h2, show j + 1 + k = j + (k + 1) from by omega]⟩
theorem enumD_len : ∀ {ds : List Dv} {j : Nat}, (enumD j ds).length = ds.length
  | [], _ => rfl
  | _ :: ds, j => by simp [enumD, enumD_len (ds := ds)]
theorem iter_enumT {Hs0 : Hp} {a : Addr} {xs : List V} {ds : List Dv} (h : SqT C.K Hs0 a xs) (r : Reps C.K C.sc Hs0 ds xs) : IterOk C (IteT C.K a) Hs0 (enumD 0 ds) := fun k Z Hs1 e1 σ1 H1 k1 l => by
  have h1 : SqT C.K H1 a xs := sqt_le k1.le (sqt_le l h)
  refine ⟨fun d hd => ?_, fun hk => ⟨xs, h1, by rw [reps_len r]; rw [enumD_len] at hk; exact hk⟩⟩
  obtain ⟨x0, hx0, rfl⟩ := enumD_get hd
  obtain ⟨v, e2, r2⟩ := reps_get r hx0
  refine ⟨⟨xs, v, h1, e2⟩, fun y H2 hy => ?_⟩
  obtain ⟨T, x, rfl, hT, rfl, hx⟩ := hy
  have ex := hx xs h1
  rw [e2] at ex; cases ex
  refine ⟨upd Hs1 T (.tup [.int (k : Nat), v]), Post.new (k1.hs_none hT), k1.new hT, ?_⟩
  simp only [Rep]
  refine ⟨T, _, rfl, .inl (.inl upd_same), reps_cons (by simp only [Rep]; simp) (reps_cons (rep_le (Le.trans l (Le.new (k1.hs_none hT))) r2) reps_nil)⟩
theorem si_enumT {K : PySem.W.Frag} (hK : C.K = K) {te : TE} {me : ME Dv} (h : SE C te me) : SI C (iEnumT K (tCons te tNil)) (mItE itT me) := fun Z Hs e σ H k R w =>
  h Z Hs e σ H k _ (we_bind (fun a e1 x Hs1 H1 _ k1 r1 w1 => by
    subst hK
    obtain ⟨ds, hd, w2⟩ := we_of w1
    cases a with
    | tup ds' =>
      cases hd
      simp only [rD, Rep] at r1
      obtain ⟨p, xs, rfl, hx, rx⟩ := r1
      exact ⟨p, xs, rfl, sqt_le k1.le hx, we_ok w2 k1 (iter_enumT hx rx)⟩
    | _ => cases hd) w)
/-! ### sorted of tuples of ints -/
theorem ltI_lex : ∀ a b, ltI a b = Srt2.lexI a b
  | [], [] => rfl
  | [], _ :: _ => rfl
  | _ :: _, [] => rfl
  | a :: r, b :: s => by simp only [ltI, Srt2.lexI, ltI_lex r s]
theorem insD_is (x : List Int × Dv) : ∀ l, insD x l = Srt2.insB (fun p q => Srt2.lexI p.1 q.1) x l
  | [] => rfl
  | y :: r => by simp only [insD, Srt2.insB, ltI_lex, insD_is x r]
theorem srtD_is : ∀ l, srtD l = Srt2.isortB (fun p q => Srt2.lexI p.1 q.1) l
  | [] => rfl
  | x :: r => by simp only [srtD, Srt2.isortB, srtD_is r, insD_is]
theorem intsD_ok {Hs : Hp} : ∀ {ds : List Dv} {ns : List Int} {xs : List V}, intsD ds = some ns → Reps C.K C.sc Hs ds xs → xs = ns.map V.int
  | [], ns, xs, h, r => by cases h; simp only [Reps] at r; exact r
  | .int i :: ds, ns, xs, h, r => by
    obtain ⟨x, hx, rfl⟩ := Option.map_eq_some_iff.mp h
    simp only [Reps] at r
    obtain ⟨v, q, rfl, r1, r2⟩ := r
    simp only [Rep] at r1
    rw [intsD_ok hx r2, r1]; rfl
  | .non :: _, _, _, h, _ => by cases h
  | .bl _ :: _, _, _, h, _ => by cases h
  | .str _ :: _, _, _, h, _ => by cases h
  | .tup _ :: _, _, _, h, _ => by cases h
  | .lst _ :: _, _, _, h, _ => by cases h
  | .scr _ :: _, _, _, h, _ => by cases h
  | .dct _ _ :: _, _, _, h, _ => by cases h
  | .exc _ _ _ :: _, _, _, h, _ => by cases h
theorem tupI_ok {Hs : Hp} {d : Dv} {k : List Int} {v : V} (h : tupI d = some k) (r : Rep C.K C.sc Hs d v) : k ≠ [] ∧ ∃ t, v = .ref t ∧ SqT C.K Hs t (k.map V.int) := by
  unfold tupI at h
  split at h
  · rename_i ds
    simp only [Rep] at r
    obtain ⟨a, xs, rfl, hq, rs⟩ := r
    split at h
    · rename_i x r hi
      cases h
      rw [intsD_ok hi rs] at hq
      exact ⟨by simp, a, rfl, hq⟩
    · cases h
  · cases h
theorem tupsI_ok {Hs : Hp} : ∀ {ds : List Dv} {ps : List (List Int × Dv)} {xs : List V}, tupsI ds = some ps → Reps C.K C.sc Hs ds xs →
    ∃ T : List (List Int × Dv × V), ps = T.map (fun t => (t.1, t.2.1)) ∧ xs = T.map (·.2.2) ∧ ∀ t ∈ T, Rep C.K C.sc Hs t.2.1 t.2.2 ∧ tupI t.2.1 = some t.1
  | [], ps, xs, h, r => by cases h; simp only [Reps] at r; exact ⟨[], rfl, r, fun _ h => nomatch h⟩
  | d :: ds, ps, xs, h, r => by
    simp only [Reps] at r
    obtain ⟨v, q, rfl, r1, r2⟩ := r
    simp only [tupsI] at h
    split at h
    · rename_i k r' hk hr
      cases h
      obtain ⟨T, rfl, rfl, hT⟩ := tupsI_ok hr r2
      exact ⟨(k, d, v) :: T, rfl, rfl, fun t ht => by
        rcases List.mem_cons.mp ht with rfl | ht
        · exact ⟨r1, hk⟩
        · exact hT t ht⟩
    · cases h
theorem reps_all {α : Type} {Hs : Hp} : ∀ {T : List (α × Dv × V)}, (∀ t ∈ T, Rep C.K C.sc Hs t.2.1 t.2.2) → Reps C.K C.sc Hs (T.map (·.2.1)) (T.map (·.2.2))
  | [], _ => reps_nil
  | t :: T, h => reps_cons (h t List.mem_cons_self) (reps_all fun u hu => h u (List.mem_cons_of_mem _ hu))
theorem sortN_core {Z Hs : Hp} {e : Loc} {σ : L2.St} {H : Hp} (k : StOk C Z Hs e σ H) {a : Addr} {ds : List Dv} {xs : List V} {c : List Dv} {Q : V → Hp → Prop} (hx : SqL C.K H a xs) (rx : Reps C.K C.sc Hs ds xs) (hf : ((tupsI ds).map fun ps => (srtD ps).map (·.2)) = some c) (w : WE C Z σ Hs H (rO C Z σ) (.ok (.lst c) e) Q) : rSortN C.K [.ref a] H Q := by
  obtain ⟨ps, hps, rfl⟩ := Option.map_eq_some_iff.mp hf
  obtain ⟨T, rfl, rfl, hT⟩ := tupsI_ok hps rx
  refine ⟨a, T.map fun t => (t.1, t.2.2), rfl, by rw [List.map_map]; exact hx, fun p hp => ?_, fun p np => ?_⟩
  · obtain ⟨t, ht, rfl⟩ := List.mem_map.mp hp
    obtain ⟨h1, t', h2, h3⟩ := tupI_ok (hT t ht).2 (hT t ht).1
    exact ⟨h1, t', h2, sqt_le k.le h3⟩
  · refine we_newO w k np ?_
    rw [srtD_is, Srt2.isortB_map (fun p q : List Int × Dv => Srt2.lexI p.1 q.1) (fun t : List Int × Dv × V => (t.1, t.2.1)), Srt2.isortB_map lexP (fun t : List Int × Dv × V => (t.1, t.2.2)), List.map_map, List.map_map]
    exact reps_all fun t ht => (hT t ((Srt2.isortB_ok (Srt2.lexI_swo _) T).2.perm.mem_iff.mp ht)).1
theorem sortK {X : Cx} {K : PySem.W.Frag} (hK : X.K = K) : CallR X (.builtin "sorted") (rSortN K) := by subst hK; exact cr_sortN
theorem rn_sortT {K : PySem.W.Frag} (hK : C.K = K) : RCN C (rSortN K) oSortT := fun Z Hs e σ H k x a c Q ra hf w => by
  subst hK
  cases a with
  | lst ds =>
    simp only [Rep] at ra
    obtain ⟨p, xs, rfl, hq, rx⟩ := ra
    exact sortN_core k (SqL.of (k.le _ _ hq)) rx hf w
  | _ => cases hf
theorem seo_sortO {K : PySem.W.Frag} (hK : C.K = K) {i : Nat} : SEO C (tCB (rSortN K) (tCons (tVar i) tNil)) (mOwnN i wSortT) := fun Z Hs e σ H k Q w => by
  subst hK
  unfold mOwnN at w
  split at w
  · rename_i j ds he
    obtain ⟨p, e1, hn, ⟨xs, hx, rx⟩, h0⟩ := k.own he
    obtain ⟨o, ho, w2⟩ := we_of w
    obtain ⟨c, hc, rfl⟩ := Option.map_eq_some_iff.mp ho
    exact ⟨_, e1, sortN_core k (SqL.of hx) rx hc w2⟩
  · exact w.elim
/-! ### data without errors and scripts stands for itself wherever it is read -/
mutual
theorem rep_any {K : PySem.W.Frag} {sc sc' : Sc} {Hs : Hp} : ∀ {n : Nat} {d : Dv} {v : V}, lowD n d = true → Rep K sc Hs d v → Rep K sc' Hs d v
  | n, .non, v, h, r => by simpa only [Rep] using r
  | n, .bl _, v, h, r => by simpa only [Rep] using r
  | n, .int _, v, h, r => by simpa only [Rep] using r
  | n, .str _, v, h, r => by simpa only [Rep] using r
  | n, .scr _, v, h, r => by cases n <;> simp [lowD] at h
  | n, .dct _ _, v, h, r => by cases n <;> simp [lowD] at h
  | n, .exc _ _ _, v, h, r => by cases n <;> simp [lowD] at h
  | 0, .tup _, v, h, r => by simp [lowD] at h
  | 0, .lst _, v, h, r => by simp [lowD] at h
  | n + 1, .tup ds, v, h, r => by
    simp only [Rep] at r ⊢
    obtain ⟨a, xs, e, q, rs⟩ := r
    exact ⟨a, xs, e, q, reps_any (n := n) (by simpa only [lowD] using h) rs⟩
  | n + 1, .lst ds, v, h, r => by
    simp only [Rep] at r ⊢
    obtain ⟨a, xs, e, q, rs⟩ := r
    exact ⟨a, xs, e, q, reps_any (n := n) (by simpa only [lowD] using h) rs⟩
theorem reps_any {K : PySem.W.Frag} {sc sc' : Sc} {Hs : Hp} : ∀ {n : Nat} {ds : List Dv} {vs : List V}, lowDs n ds = true → Reps K sc Hs ds vs → Reps K sc' Hs ds vs
  | n, [], vs, h, r => by simpa only [Reps] using r
  | n, d :: ds, vs, h, r => by
    simp only [Reps] at r ⊢
    obtain ⟨v, q, e, r1, r2⟩ := r
    simp only [lowDs, Bool.and_eq_true] at h
    exact ⟨v, q, e, rep_any h.1 r1, reps_any h.2 r2⟩
end
/-! ### errors -/
/-- an error in the air: its class, its one field -/
def REk (K : PySem.W.Frag) : Err → Value → Option Addr → Hp → Hp → Prop := fun x c od Hs _ => ∃ (E dd : Addr) (w : V) (f : List Nat) (d : Dv), x.2 = [.str f, d] ∧ PySem.W.nsIn K mainGlobals (sOf x.1) = some (some (.ref E)) ∧ c = .ref E ∧ od = some dd ∧ Hs dd = some (.xd [(sOf f, w)]) ∧ lowD 60 d = true ∧ ∀ sc, Rep K sc Hs d w
theorem ss_raise {K : PySem.W.Frag} (hK : C.K = K) (hE : C.RE = REk K) {P : Program} {w : World} {mg : Str → Option Value} {base : Heap} {c f : List Nat} {E : Addr} {nl : List Str} {cs fs : Str} (hc : cs = sOf c) (hf : fs = sOf f) (T : ErrC P w K mg base nl cs fs E) {te : TE} {me : ME Dv} (h : SE C te me) :
    SS C [] (fun _ σ H => tMkO E (spInit K fs) [] (tCons te tNil) σ H fun cls d H' => C.E cls d σ H') (sRaise c f me) := fun Z Hs e σ H k Dn w =>
  h Z Hs e σ H k _ (we_go (fun d e1 v Hs1 H1 p1 k1 r1 w1 => by
    subst hK hc hf
    split at w1
    · rename_i hl
      refine ⟨by show 1 ≤ 1000; decide, fun a na => ⟨a, E, v, rfl, T.ox, T.fc.no _ T.fm, upd_same, fun dx nd hne => ⟨rfl, dx, [(sOf f, v)], upd_same, ?_, ?_, ?_⟩⟩⟩
      · rw [upd_ne hne, upd_same]
      · rw [upd_ne hne] at nd; exact nd
      · rw [upd_made na hne]
        have nd : H1 dx = none := by rw [upd_ne hne] at nd; exact nd
        refine w1 (upd Hs1 dx (.xd [(sOf f, v)])) σ (upd H1 dx (.xd [(sOf f, v)])) (.ref E) (some dx) (Post.new (k1.hs_none nd)) (k1.new nd) ?_
        rw [hE]
        exact ⟨E, dx, v, f, d, rfl, T.ns, rfl, rfl, upd_same, hl, fun sc => rep_le (Le.new (k1.hs_none nd)) (rep_any hl r1)⟩
    · exact w1.elim) w)
end
end Ml

set_option linter.all false
set_option autoImplicit false
set_option maxRecDepth 100000
set_option maxHeartbeats 1000000
namespace Ml
open PySem PySem.Spec PyProof.Rows L2
/-- a def that is handed the caught error in the suite -/
def spH (K : PySem.W.Frag) (RE : Err → Value → Option Addr → Hp → Hp → Prop) (nl : List Str) (F : Fn) : Addr → Value → Option Addr → Sp := fun a c d vs H Q E =>
  ∃ (E0 dd : Addr) (cl f : List Nat) (dt : Dv) (sc : Sc) (Hs : Hp), c = .ref E0 ∧ d = some dd ∧ sc.x = some (a, E0, dd) ∧ ErrF K nl E0 ∧ Le Hs H ∧ AOk K sc Hs H [.fz (.exc cl f dt)] vs [] ∧ FW K sc RE Hs H [] Q E (F [.fz (.exc cl f dt)])
structure KeptH (P : Program) (w : World) (K : PySem.W.Frag) (mg : Str → Option Value) (base : Heap) (k : Nat) (x : Str) (sp : Addr → Value → Option Addr → Sp) : Prop where
  ex : ∃ (f : Addr) (fd : FuncData) (ps : List Str), FnHp P w K mg base k f fd ps sp ∧ mg x = some (.ref f) ∧ PySem.W.keepIn K (.ref f) = true ∧ Binds K fd ps []
section
variable {P : Program} {w : World} {K : PySem.W.Frag} {mg : Str → Option Value} {base : Heap}
theorem cl_ofH {x : Str} {st : Stmt} {N ps : List Str} {k : Nat} {RE : Err → Value → Option Addr → Hp → Hp → Prop} {nl : List Str} {F : Fn} {ml : Nat} {m : MS} (D : DefK K x st) (M : Mg K mg)
    (hb : ∀ (kV doc pm : Value) (an : Option Addr) (cdv ct : Value) (us : List Value), us.length = ps.length → bindArgs (PySem.W.fnOf x x (defArgs st) (defBody st) (defScope st) .none kV doc pm an cdv ct) ⟨us, []⟩ = pure (ps.zip us))
    (S : FnScope N ps (defScope st)) (hF : F = mkFn 1 ml m) (hN : N.length = 1 + ml) (hp : ps.length = 1)
    (hbody : ∀ (f : Addr) (cdv : Value) (A' : Around) (outer : List Env) (s : Shared) (H : Hp) (E : XK) (p : Addr × Obj) (E0 dd : Addr), Zc (.ref E0) (some dd) p.2 → (∃ vs, p.2.data = .fields vs) → L2H.RoomH k (A'.deeper (envOfC x (defScope st) s.heap.objs.size f cdv)) → ErrF K nl E0 →
      ∃ A t, PSs (L2H.cxH CX0 P w K mg base N x (defScope st) f cdv A' outer s H E p) (defBody st) t ∧ ∀ sc Hs Ps, sc.x = some (p.1, E0, dd) → SS ⟨K, sc, H, Ps, Hs, fun c od _ H => E c od H, RE⟩ A t m) : KeptH P w K mg base (k + 1) x (spH K RE nl F) := by
  obtain ⟨f, fd, hn, Fd⟩ := D
  have Fd' := Fd
  obtain ⟨oc, od, kV, doc, pm, an, cdv, ct, osl, rfl, lk, hcd⟩ := Fd'.ex
  have hlen : ∀ a c d vs H Q E, spH K RE nl F a c d vs H Q E → vs.length = 1 := fun a c d vs H Q E h => by
    obtain ⟨E0, dd, cl, f, dt, sc, Hs, _, _, _, _, _, ha, _⟩ := h
    match vs, ha with
    | [v], _ => rfl
  refine ⟨f, _, ps, fn_ofHp lk hcd S (fun a c d vs H Q E h => by rw [hlen a c d vs H Q E h, hp]) (fun A outer s H vs Q E p c d hz hf hr h => ?_), M.get hn, Fd.kp, Fd.binds hb⟩
  have hl := hlen _ _ _ _ _ _ _ h
  obtain ⟨E0, dd, cl, f', dt, sc, Hs, rfl, rfl, hx, ef, hle, ha, fw⟩ := h
  obtain ⟨A', t, h1, h2⟩ := hbody f cdv A outer s H E p E0 dd hz hf hr ef
  exact ⟨t, h1, fn_redS hF hN hl ⟨Hs, _, [], hle, ha, List.nodup_nil, fw⟩ fun Hs ps => h2 sc Hs ps hx⟩
end
section
variable {C : Cc}
/-! ### what is asked of the caught error -/
theorem se_isX {K : PySem.W.Frag} (hK : C.K = K) {a E0 dd : Addr} (hx : C.sc.x = some (a, E0, dd)) {tab : List (List Nat × Bool)} {cls : V} {cv : Value} (hcv : ∀ u, RelV cls u → u = cv)
    (hT : ∀ c b, tab.lookup c = some b → PySem.W.nsIn K mainGlobals (sOf c) = some (some (.ref E0)) → PySem.W.kitOne K (.ref E0) cv = some b) {te : TE} {me : ME Dv} (h : SE C te me) : SE C (tCB (rIsP K E0 a dd) (tCons te (tCons (tC cls) tNil))) (mIsX tab me) := fun Z Hs e σ H k Q w =>
  h Z Hs e σ H k _ (we_bind (fun d e1 v Hs1 H1 p1 k1 r1 w1 => by
    subst hK
    cases d with
    | exc c f d =>
      obtain ⟨b, hb, w2⟩ := we_of w1
      obtain ⟨b', hb', rfl⟩ := Option.map_eq_some_iff.mp hb
      simp only [rD, Rep] at r1
      obtain ⟨a', C', dd', w', hx', rfl, hn, hd, r⟩ := r1
      rw [hx] at hx'; cases hx'
      exact ⟨cls, cv, b', _, rfl, k1.le _ _ hd, hcv, hT c b' hb' hn, we_ok w2 k1 (by simp only [rD, Rep])⟩
    | _ => exact w1.elim) w)
theorem se_fld {a E0 dd : Addr} (hx : C.sc.x = some (a, E0, dd)) {f : List Nat} {fs : Str} (hf : fs = sOf f) {te : TE} {me : ME Dv} (h : SE C te me) : SE C (tXfP a dd fs te) (mFld f me) := fun Z Hs e σ H k Q w =>
  h Z Hs e σ H k _ (we_bind (fun d e1 v Hs1 H1 p1 k1 r1 w1 => by
    subst hf
    cases d with
    | exc c g d =>
      have w2 : WE C Z σ Hs1 H1 (rD C) (if g = f then Rs.ok d e1 else Rs.ud) Q := w1
      clear w1
      by_cases hg : g = f
      · rw [if_pos hg] at w2
        subst hg
        simp only [rD, Rep] at r1
        obtain ⟨a', C', dd', w', hx', rfl, hn, hd, r⟩ := r1
        rw [hx] at hx'; cases hx'
        exact ⟨rfl, _, w', k1.le _ _ hd, by simp [List.lookup], we_ok (rel := rD C) w2 k1 r⟩
      · rw [if_neg hg] at w2; exact w2.elim
    | _ => exact w1.elim) w)
/-! ### try .. except .. as x: return F(x) -/
theorem stok_E {Z Hs : Hp} {e : Loc} {σ : L2.St} {H : Hp} {E' : WX} (k : StOk C Z Hs e σ H) : StOk { C with E := E' } Z Hs e σ H := ⟨k.len, k.le, k.slot, k.sep, k.frame, k.dom, k.news, k.par, k.hid, k.hids⟩
theorem stok_E' {Z Hs : Hp} {e : Loc} {σ : L2.St} {H : Hp} {E' : WX} (k : StOk { C with E := E' } Z Hs e σ H) : StOk C Z Hs e σ H := ⟨k.len, k.le, k.slot, k.sep, k.frame, k.dom, k.news, k.par, k.hid, k.hids⟩
theorem nxS_ret {sc' : Sc} {K : PySem.W.Frag} (hK : C.K = K) {Hs H H' : Hp} {s : Slt} {v : V} (hn : nxS s = true) (h0 : ∀ p, H p = none → C.H0 p = none) (r : RetC K sc' Hs H H' s v) : RetOk C Hs H' s v := by
  subst hK
  unfold nxS at hn
  split at hn
  · exact rep_any (sc := sc') hn r
  · obtain ⟨p, rfl, h1, h2, ⟨xs, h3, h4⟩⟩ := r
    exact ⟨p, rfl, h1, h0 p h2, xs, h3, reps_any (sc := sc') hn h4⟩
  · cases hn
theorem ss_tryF {K : PySem.W.Frag} (hK : C.K = K) (hE : C.RE = REk K) {A : List Nat} {tb : WX → TS} {mb : MS} {tab : List (List Nat × Bool)} {i : Nat} {F : Fn} {cb : Value} {nl : List Str} {E' : L2.St → XK}
    (hex : ∀ c b E0, tab.lookup c = some b → PySem.W.nsIn K mainGlobals (sOf c) = some (some (.ref E0)) → PySem.W.exmOne K (.ref E0) cb = some b)
    {Wout : WX} (hall : ∀ c b, tab.lookup c = some b → b = true) (hcl : ∀ c E0, tab.lookup c = some true → PySem.W.nsIn K mainGlobals (sOf c) = some (some (.ref E0)) → ErrF K nl E0)
    (hb : ∀ W : WX, SS { C with E := W } A (tb W) mb) :
    SS C A (fun D σ H => tb (wAs K cb i (fun a c d => tRet (tCallS (spH K (REk K) nl F a c d) E' (tCons (tVar i) tNil))) Wout D) D σ H) (sTryF mb tab i F) := fun Z Hs e σ H k Dn w => by
  subst hK
  refine hb _ Z Hs e σ H (stok_E k) Dn ?_
  unfold sTryF at w
  cases q : mb e with
  | nx e' => rw [q] at w; exact fun Hs' σ' H' p' k' kp => w Hs' σ' H' p' (stok_E' k') kp
  | ct e' => rw [q] at w; exact fun Hs' σ' H' p' k' kp => w Hs' σ' H' p' (stok_E' k') kp
  | bk e' => rw [q] at w; exact fun Hs' σ' H' p' k' kp => w Hs' σ' H' p' (stok_E' k') kp
  | rt s e' => rw [q] at w; exact fun v Hs' σ' H' p' k' r => w v Hs' σ' H' p' (stok_E' k') r
  | ud => rw [q] at w; exact w
  | er x e' =>
    rw [q] at w
    intro Hs' σ' H' cl od p' k' re
    have k1 := stok_E' k'
    have re : C.RE x cl od Hs' H' := re
    rw [hE] at re
    obtain ⟨E0, dd, wv, f, d, hx2, hn, rfl, rfl, hd, hlow, hrep⟩ := re
    simp only [hx2] at w
    cases hl : tab.lookup x.1 with
    | none => rw [hl] at w; exact w.elim
    | some b =>
      rw [hl] at w
      cases b with
      | false =>
        cases hall _ _ hl
      | true =>
        refine ⟨true, hex _ _ _ hl hn, fun _ a na => ?_, (fun z => nomatch z)⟩
        simp only at w
        split at w
        · rename_i hi
          have hi' : i < σ'.length := by rw [k1.len]; exact hi
          refine ⟨.ref a, List.getElem?_set_self hi', E0, dd, x.1, f, d, ⟨C.sc.a, some (a, E0, dd)⟩, Hs', rfl, rfl, rfl, hcl _ _ hl hn, k1.le, ⟨?_, trivial⟩, ?_⟩
          · simp only [Rep]
            exact ⟨a, E0, dd, wv, rfl, rfl, hn, hd, hrep _⟩
          · split at w
            · rename_i s hF
              split at w
              · rename_i hns
                rw [hF]
                intro v Hs2 H2 fp _ rc
                obtain ⟨k2, _⟩ := stok_call (is := []) (os := []) (e' := e') k1 fp trivial trivial List.nodup_nil rfl
                exact w v Hs2 σ' H2 (p'.trans ⟨fp.ext, fp.dom⟩) k2 (nxS_ret rfl hns (fun p hp => k1.h0_none hp) rc)
              · exact w.elim
            · exact w.elim
        · exact w.elim
section
variable {X : Cx} {n g B : Str} {i k j : Nat} {body : List Stmt} {np pos pos' q1 q2 q3 q4 : Pos} {tb : WX → TS} {cb : Value} {Wout : WX} {nl : List Str} {RE : Err → Value → Option Addr → Hp → Hp → Prop} {F : Fn} {E' : L2.St → XK}
theorem ps_tryF (T : KeptH X.prog X.w X.K X.mg X.base k g (spH X.K RE nl F)) (hr : Room j X.A) (hk : k ≤ j) (hs : X.stack = X.env :: X.outer) (hf : X.env.frame = some X.env.locals) (hN : X.N.Nodup) (hi : X.N[i]? = some n) (hln : X.env.kindOf n = some .local) (hc : Names X B cb) (tk : Takes X Wout)
    (hv : Vis X.env.scope n) (hg : Gl X g) (hdn : (n == ("__debug__" : Str)) = false) (hdc : (n == ("__classdict__" : Str)) = false) (hdg : (g == ("__debug__" : Str)) = false)
    (hb : ∀ (W : WX) (pn : List (Addr × Obj)) (xe : Value → Shared → Prop), Takes (X.tr pn xe) W → PassesOwn (model X.prog X.w) X.A X.env xe → PSs (X.tr pn xe) body (tb W))
    (he : ∀ (a : Addr) (pn : List (Addr × Obj)), starEach [.Name n q1] (X.suite a pn).env = (false, eval (.Name n q1) (X.suite a pn).env) :: starEach [] (X.suite a pn).env := by intro _ _; rfl) (hpl : ∀ (a : Addr) (pn : List (Addr × Obj)), (backTo q3 (starEach [] (X.suite a pn).env)).any (·.1) = false := by intro _ _; rfl) :
    PS X (.Try body [.ExceptHandler (some (.Name B np)) (some n) [.Return (some (.Call (.Name g q2) [.Name n q1] [] q3)) q4] pos'] [] [] pos)
      (fun D σ H => tb (wAs X.K cb i (fun a c d => tRet (tCallS (spH X.K RE nl F a c d) E' (tCons (tVar i) tNil))) Wout D) D σ H) := by
  obtain ⟨f, fd, ps, Fh, hm, kp, b⟩ := T.ex
  refine ps_try_as (i := i) hs hf hN hi hln hc tk hb fun a oe cls d pn hz hfl => pss_one (ps_ret ?_)
  exact pe_callHp (p := (a, oe)) Fh ⟨by have := (hr.mono hk).dp; exact this, by have := (hr.mono hk).un; exact this⟩ List.mem_cons_self hz hfl hg hm kp b (pa_cons (pe_var (i := i) hi hv hdn hdc) pa_nil (he _ _)) hdg (he _ _) (hpl _ _)
end
end
end Ml

set_option linter.all false
set_option autoImplicit false
set_option maxRecDepth 100000
set_option maxHeartbeats 1000000
namespace Ml
open L2
open PySem (Addr Str sizeLine)
section
variable {C : Cc} {te : TE} {me : ME Dv}
theorem wipe_lt {τ : L2.St} : ∀ {vs : List Nat} {j : Nat}, j ∈ vs → (wipe τ vs)[j]? = if j < τ.length then some none else none
  | [], j, h => by cases h
  | v :: vs, j, h => by
    unfold wipe
    by_cases z : v = j
    · subst z
      by_cases hl : v < τ.length
      · rw [List.getElem?_set_self (by rw [wipe_length]; exact hl), if_pos hl]
      · rw [if_neg hl]
        apply List.getElem?_eq_none
        rw [List.length_set, wipe_length]; omega
    · rw [List.getElem?_set_ne z]
      exact wipe_lt ((List.mem_cons.mp h).resolve_left (Ne.symm z))
theorem wipe_in {τ : L2.St} {vs vs1 : List Nat} (h : ∀ j, j ∈ vs1 → j ∈ vs) : wipe (wipe τ vs1) vs = wipe τ vs := by
  apply List.ext_getElem?
  intro j
  by_cases hj : j ∈ vs
  · rw [wipe_lt hj, wipe_lt hj, wipe_length]
  · rw [wipe_get hj, wipe_get hj, wipe_get fun z => hj (h j z)]
theorem seo_lc2 {wi wi1 : TI} {mi mi1 : ME (List Dv)} {g g1 : TG} {mg mg1 : MG} {tt tt1 : TT} {mt mt1 : ME Bool} {A A1 : List Nat} {vs vs1 : List Nat} (hi : SI C wi mi) (hg : SG C A g mg) (ht : ST C tt mt) (hi1 : SI C wi1 mi1) (hg1 : SG C A1 g1 mg1) (ht1 : ST C tt1 mt1) (h : SE C te me)
    (hA : ∀ j, j ∈ A → j ∈ vs := by decide) (hA1 : ∀ j, j ∈ A1 → j ∈ vs1 := by decide) (hv : ∀ j, j ∈ vs1 → j ∈ vs := by decide) :
    SEO C (tLc2 wi g tt wi1 g1 tt1 te vs vs1) (mLc2 mi mg mt mi1 mg1 mt1 me vs vs1) := fun Z Hs e σ H k Q w =>
  hi Z Hs e σ H k _ (we_bind (fun ds e1 J Hs1 H1 p1 k1 it w1 => by
    split at w1
    · rename_i hno
      split at w1
      · rename_i accF eF hF
        intro D hD
        have h0 : C.H0 D = none := k1.h0_none hD
        have hzD : Z D = none := k1.z_none hD
        have kD : StOk C (upd Z D (.lst [])) Hs1 (wipeE e1 vs) (wipe σ vs) (upd H1 D (.lst [])) := ((stok_wipe k1 vs).newO hD).hide upd_same (k1.hs_none hD) ((stok_wipe k1 vs).fresh hD)
        refine ⟨fun i mm H' => mm = ds.length - i ∧ i ≤ ds.length ∧ ∃ Hs' e' acc xs, Post Hs1 H1 Hs' H' ∧ StOk C (upd Z D (.lst xs)) Hs' e' (wipe σ vs) H' ∧ Reps C.K C.sc Hs' acc xs ∧ lcGo2 mg mt mi1 mg1 mt1 me vs vs1 (ds.drop i) acc e' = some (accF, eF),
          ⟨ds.length, rfl, Nat.zero_le _, Hs1, wipeE e1 vs, [], [], Post.newO, kD, reps_nil, hF⟩, ?_⟩
        rintro i mm H' ⟨rfl, hle, Hs', e', acc, xs, p', k', rx, hgo⟩
        obtain ⟨itg, its⟩ := it i _ Hs' e' _ H' k' p'.le
        by_cases hlt : i < ds.length
        · obtain ⟨d, hd, hdr⟩ := drop_cons hlt
          obtain ⟨go, yl⟩ := itg d hd
          rw [hdr] at hgo
          refine .inr ⟨go, fun H3 => ∃ Hs' e' acc xs, Post Hs1 H1 Hs' H3 ∧ StOk C (upd Z D (.lst xs)) Hs' e' (wipe σ vs) H3 ∧ Reps C.K C.sc Hs' acc xs ∧ lcGo2 mg mt mi1 mg1 mt1 me vs vs1 (ds.drop (i + 1)) acc e' = some (accF, eF), fun H3 h3 => ⟨ds.length - (i + 1), by omega, rfl, hlt, h3⟩, fun x H2 hy => ?_⟩
          obtain ⟨Hs2, p2, k2, r2⟩ := yl x H2 hy
          unfold lcGo2 at hgo
          cases qg : mg d e' with
          | none => simp only [qg] at hgo; cases hgo
          | some e2 =>
            simp only [qg] at hgo
            refine hg _ Hs2 e' _ H2 k2 d x e2 r2 qg _ fun σ2 k3 kp3 => ?_
            have hw : wipe σ2 vs = wipe σ vs := wipe_idem (kp3.sub hA) (by rw [kp3.1, wipe_length])
            refine ⟨hw, ht _ Hs2 e2 σ2 H2 k3 _ ?_⟩
            cases qt : mt e2 with
            | ud => simp only [qt] at hgo; cases hgo
            | er x e => simp only [qt] at hgo; cases hgo
            | ok b e3 =>
              intro b' Hs3 H3 p3 k3' rb
              have rb : b = b' := rb
              subst rb
              cases b with
              | false =>
                simp only [qt] at hgo
                exact ⟨Hs3, wipeE e3 vs, acc, xs, (p'.trans p2).trans p3, stok_zr (stok_wipe k3' vs) hw, reps_le (p2.trans p3).le rx, hgo⟩
              | true =>
                simp only [qt] at hgo
                refine hi1 _ Hs3 e3 σ2 H3 k3' _ ?_
                cases qi : mi1 e3 with
                | ud => simp only [qi] at hgo; cases hgo
                | er x e => simp only [qi] at hgo; cases hgo
                | ok ds1 e4 =>
                  simp only [qi] at hgo
                  intro J1 Hs4 H4 p4 k4 it1
                  cases qL : lcGo mg1 mt1 me vs1 ds1 acc (wipeE e4 vs1) with
                  | none => simp only [qL] at hgo; cases hgo
                  | some r =>
                    obtain ⟨acc2, eE⟩ := r
                    simp only [qL] at hgo
                    have P4 := ((p'.trans p2).trans p3).trans p4
                    refine ⟨fun j kk H5 => kk = ds1.length - j ∧ j ≤ ds1.length ∧ ∃ Hs' e' acc xs, Post Hs1 H1 Hs' H5 ∧ Le Hs4 Hs' ∧ StOk C (upd Z D (.lst xs)) Hs' e' (wipe σ2 vs1) H5 ∧ Reps C.K C.sc Hs' acc xs ∧ lcGo mg1 mt1 me vs1 (ds1.drop j) acc e' = some (acc2, eE),
                      ⟨ds1.length, rfl, Nat.zero_le _, Hs4, wipeE e4 vs1, acc, xs, P4, Le.rfl', stok_wipe k4 vs1, reps_le ((p2.trans p3).trans p4).le rx, qL⟩, ?_⟩
                    rintro j kk H5 ⟨rfl, hle1, Hs5, e5, acc5, xs5, p5, l5, k5, rx5, hgo5⟩
                    obtain ⟨itg1, its1⟩ := it1 j _ Hs5 e5 _ H5 k5 l5
                    by_cases hlt1 : j < ds1.length
                    · obtain ⟨d1, hd1, hdr1⟩ := drop_cons hlt1
                      obtain ⟨go1, yl1⟩ := itg1 d1 hd1
                      rw [hdr1] at hgo5
                      refine .inr ⟨go1, fun H6 => ∃ Hs' e' acc xs, Post Hs1 H1 Hs' H6 ∧ Le Hs4 Hs' ∧ StOk C (upd Z D (.lst xs)) Hs' e' (wipe σ2 vs1) H6 ∧ Reps C.K C.sc Hs' acc xs ∧ lcGo mg1 mt1 me vs1 (ds1.drop (j + 1)) acc e' = some (acc2, eE), fun H6 h6 => ⟨ds1.length - (j + 1), by omega, rfl, hlt1, h6⟩, fun x6 H6 hy6 => ?_⟩
                      obtain ⟨Hs6, p6, k6, r6⟩ := yl1 x6 H6 hy6
                      unfold lcGo at hgo5
                      cases qg1 : mg1 d1 e5 with
                      | none => simp only [qg1] at hgo5; cases hgo5
                      | some e6 =>
                        simp only [qg1] at hgo5
                        refine hg1 _ Hs6 e5 _ H6 k6 d1 x6 e6 r6 qg1 _ fun σ7 k7 kp7 => ?_
                        have hw1 : wipe σ7 vs1 = wipe σ2 vs1 := wipe_idem (kp7.sub hA1) (by rw [kp7.1, wipe_length])
                        refine ⟨hw1, ht1 _ Hs6 e6 σ7 H6 k7 _ ?_⟩
                        cases qt1 : mt1 e6 with
                        | ud => simp only [qt1] at hgo5; cases hgo5
                        | er x e => simp only [qt1] at hgo5; cases hgo5
                        | ok b1 e7 =>
                          intro b1' Hs7 H7 p7 k7' rb1
                          have rb1 : b1 = b1' := rb1
                          subst rb1
                          cases b1 with
                          | false =>
                            simp only [qt1] at hgo5
                            exact ⟨Hs7, wipeE e7 vs1, acc5, xs5, (p5.trans p6).trans p7, l5.trans (p6.trans p7).le, stok_zr (stok_wipe k7' vs1) hw1, reps_le (p6.trans p7).le rx5, hgo5⟩
                          | true =>
                            simp only [qt1] at hgo5
                            refine h _ Hs7 e7 σ7 H7 k7' _ ?_
                            cases qm : me e7 with
                            | ud => simp only [qm] at hgo5; cases hgo5
                            | er x e => simp only [qm] at hgo5; cases hgo5
                            | ok y e8 =>
                              simp only [qm] at hgo5
                              intro v Hs8 H8 p8 k8 r8
                              split at hgo5
                              · rename_i hlen
                                have rx8 := reps_le ((p6.trans p7).trans p8).le rx5
                                exact ⟨xs5, (k8.hid D _ upd_same).1, by rw [reps_len rx5]; exact lim_lt hlen, Hs8, wipeE e8 vs1, acc5 ++ [y], xs5 ++ [v], ((p5.trans p6).trans (p7.trans p8)).trans Post.newO, l5.trans ((p6.trans p7).trans p8).le, stok_zr ((stok_wipe k8 vs1).hmut h0) hw1, reps_app rx8 (reps_cons r8 reps_nil), hgo5⟩
                              · cases hgo5
                    · have e0 : ds1.drop j = [] := List.drop_eq_nil_of_le (by omega)
                      rw [e0] at hgo5
                      cases hgo5
                      exact .inl ⟨its1 (by omega), Hs5, wipeE eE vs, acc2, xs5, p5, stok_zr (stok_wipe k5 vs) ((wipe_in hv).trans hw), rx5, hgo⟩
        · have e0 : ds.drop i = [] := List.drop_eq_nil_of_le (by omega)
          rw [e0] at hgo
          cases hgo
          obtain ⟨hx, hn⟩ := k'.hid D _ upd_same
          refine .inl ⟨its (by omega), w1 _ Hs' H' p' (stok_back k1 p'.le (k'.zle (Le.new hzD)) hno) ⟨D, rfl, hn, ⟨h0, hzD⟩, ⟨xs, hx, rx⟩, fun i j u h1 h2 => ?_⟩⟩
          have hi' : i ∉ vs := fun hi => by
            have q := backE_in hi h1
            rcases noOw_at hno hi with z | ⟨d, z⟩ <;> (rw [z] at q; cases q)
          rw [backE_out hi'] at h1
          have q := k'.hids i j u D h1 (by rw [wipe_get hi']; exact h2)
          rw [upd_same] at q; cases q
      · exact w1.elim
    · exact w1.elim) w)
end
end Ml

set_option linter.all false
set_option autoImplicit false
set_option maxRecDepth 100000
set_option maxHeartbeats 1000000
namespace Ml
open L2
open PySem (Addr Str sizeLine)
section
variable {C : Cc} {te : TE} {me : ME Dv} {A B : List Nat} {t : TS} {m : MS}
theorem own_turn {Z Hs : Hp} {e : Loc} {σ : L2.St} {H : Hp} (k : StOk C Z Hs e σ H) {i : Nat} {j : Option Nat} {ds : List Dv} {p : Addr} (he : e[i]? = some (.ow j (.lst ds))) (hp : σ[i]? = some (some (.ref p))) :
    ∃ xs, SqL C.K H p xs ∧ Reps C.K C.sc Hs ds xs := by
  obtain ⟨q, e1, _, ⟨xs, hx, rx⟩, _⟩ := k.own he
  rw [hp] at e1; cases e1
  exact ⟨xs, SqL.of hx, rx⟩
theorem ss_forO {K : PySem.W.Frag} (hK : C.K = K) {i : Nat} {g : TG} {mg : MG} (hg : SG C A g mg) (hb : SS C B t m) (hi : i ∉ A ++ B) : SS C (A ++ B) (tFor (iList K (tVar i)) g t) (sForO i mg m) := fun Z Hs e σ H k Dn w => by
  subst hK
  have h0 : ∃ p, σ[i]? = some (some (.ref p)) ∧ ∃ xs, SqL C.K H p xs := by
    have w' : WS C Z (A ++ B) σ Hs H (loopO i mg m lim 0 e) Dn := w
    rw [show lim = 15999999 + 1 from rfl, loopO] at w'
    split at w'
    · rename_i j ds he
      obtain ⟨p, e1, _, ⟨xs, hx, rx⟩, _⟩ := k.own he
      exact ⟨p, e1, xs, SqL.of hx⟩
    · exact w'.elim
  obtain ⟨p, hp, xs0, hx0⟩ := h0
  refine ⟨.ref p, hp, p, rfl, ⟨xs0, hx0⟩, ?_⟩
  refine ⟨fun j n σ' H' => σ'[i]? = some (some (.ref p)) ∧ ∃ Hs' e', Post Hs H Hs' H' ∧ StOk C Z Hs' e' σ' H' ∧ WS C Z (A ++ B) σ' Hs' H' (loopO i mg m n j e') Dn, ⟨lim, hp, Hs, e, Post.refl, k, w⟩, ?_⟩
  rintro j n σ' H' ⟨hp', Hs', e', p', k', w'⟩
  cases n with
  | zero => exact w'.elim
  | succ n =>
    rw [loopO] at w'
    split at w'
    · rename_i jj ds he
      obtain ⟨xs, hx, rx⟩ := own_turn k' he hp'
      split at w'
      · rename_i hd
        have hl : ds.length ≤ j := by simpa using hd
        exact .inl ⟨⟨xs, hx, by rw [reps_len rx]; exact hl⟩, w' Hs' σ' H' Post.refl k' Kp.refl⟩
      · rename_i d hd
        obtain ⟨v, e1, e2⟩ := reps_get rx hd
        refine .inr ⟨⟨xs, v, hx, e1⟩, fun σ3 H3 => σ3[i]? = some (some (.ref p)) ∧ ∃ Hs3 e3, Post Hs H Hs3 H3 ∧ StOk C Z Hs3 e3 σ3 H3 ∧ WS C Z (A ++ B) σ3 Hs3 H3 (loopO i mg m n (j + 1) e3) Dn, fun σ3 H3 h3 => ⟨n, by omega, h3⟩, fun x H2 hy => ?_⟩
        obtain ⟨rfl, hyx⟩ := hy
        have ex := hyx xs hx
        rw [e1] at ex; cases ex
        cases q : mg d e' with
        | none => rw [q] at w'; exact w'.elim
        | some e2' =>
          rw [q] at w'
          refine hg Z Hs' e' σ' H2 k' d v e2' e2 q _ fun σ2 k3 kp3 => ?_
          refine hb Z Hs' e2' σ2 H2 k3 _ ?_
          have hp2 : ∀ {σ4 : L2.St}, Kp B σ2 σ4 → σ4[i]? = some (some (.ref p)) := fun {σ4} kp4 => by
            rw [kp4.2 i fun z => hi (List.mem_append_right _ z), kp3.2 i fun z => hi (List.mem_append_left _ z)]; exact hp'
          have cvt : ∀ {σ4 : L2.St} {r : Sr} {Hs4 H4 : Hp} {D2 : Ends}, Post Hs' H2 Hs4 H4 → Kp B σ2 σ4 → WS C Z (A ++ B) σ' Hs' H2 r D2 → WS C Z (A ++ B) σ4 Hs4 H4 r D2 := fun {σ4 r Hs4 H4 D2} p4 kp4 h4 =>
            ws_step p4 (fun _ z => ⟨z.1.trans (kp4.1.trans kp3.1), fun j hj => ((z.2 j hj).trans (kp4.2 j fun q => hj (List.mem_append_right _ q))).trans (kp3.2 j fun q => hj (List.mem_append_left _ q))⟩) h4
          cases q2 : m e2' with
          | nx e3 => simp only [q2] at w'; exact fun Hs4 σ4 H4 p4 k4 kp4 => ⟨hp2 kp4, Hs4, e3, p'.trans p4, k4, cvt p4 kp4 w'⟩
          | ct e3 => simp only [q2] at w'; exact fun Hs4 σ4 H4 p4 k4 kp4 => ⟨hp2 kp4, Hs4, e3, p'.trans p4, k4, cvt p4 kp4 w'⟩
          | bk e3 => simp only [q2] at w'; exact fun Hs4 σ4 H4 p4 k4 kp4 => w' Hs4 σ4 H4 p4 k4 (kp3.trans kp4)
          | rt s e3 => simp only [q2] at w'; exact fun v Hs4 σ4 H4 p4 k4 r4 => w' v Hs4 σ4 H4 p4 k4 r4
          | er x e3 => simp only [q2] at w'; exact fun Hs4 σ4 H4 c od p4 k4 r4 => w' Hs4 σ4 H4 c od p4 k4 r4
          | ud => simp only [q2] at w'; exact w'.elim
    · exact w'.elim
theorem seo_lcO {K : PySem.W.Frag} (hK : C.K = K) {i : Nat} {g : TG} {mg : MG} {tt : TT} {mt : ME Bool} {vs : List Nat} (hg : SG C A g mg) (ht : ST C tt mt) (h : SE C te me) (hA : ∀ j, j ∈ A → j ∈ vs := by decide) (hi : i ∉ vs := by decide) :
    SEO C (tLc (iList K (tVar i)) g tt te vs) (mLcO i mg mt me vs) := fun Z Hs e σ H k Q w => by
  subst hK
  unfold mLcO at w
  split at w
  · rename_i hno
    obtain ⟨how, hno⟩ := hno
    split at w
    · rename_i accF eF hF
      obtain ⟨j0, o0, he0⟩ := ow_of how
      obtain ⟨p, hp, _, ho0, _⟩ := k.own he0
      cases o0 with
      | lst ds0 =>
      obtain ⟨xs0, hx0, _⟩ := ho0
      refine ⟨.ref p, hp, p, rfl, ⟨xs0, SqL.of hx0⟩, ?_⟩
      intro D hD
      have h0 : C.H0 D = none := k.h0_none hD
      have hzD : Z D = none := k.z_none hD
      have hpw : (wipe σ vs)[i]? = some (some (.ref p)) := by rw [wipe_get hi]; exact hp
      have kD : StOk C (upd Z D (.lst [])) Hs (wipeE e vs) (wipe σ vs) (upd H D (.lst [])) := ((stok_wipe k vs).newO hD).hide upd_same (k.hs_none hD) ((stok_wipe k vs).fresh hD)
      refine ⟨fun j n H' => ∃ Hs' e' acc xs, Post Hs H Hs' H' ∧ StOk C (upd Z D (.lst xs)) Hs' e' (wipe σ vs) H' ∧ Reps C.K C.sc Hs' acc xs ∧ lcGoO i mg mt me vs n j acc e' = some (accF, eF),
        ⟨lim, Hs, wipeE e vs, [], [], Post.newO, kD, reps_nil, hF⟩, ?_⟩
      rintro j n H' ⟨Hs', e', acc, xs, p', k', rx, hgo⟩
      cases n with
      | zero => cases hgo
      | succ n =>
        rw [lcGoO] at hgo
        split at hgo
        · rename_i jj ds he
          obtain ⟨ys, hy, ry⟩ := own_turn k' he hpw
          split at hgo
          · rename_i hd
            have hl : ds.length ≤ j := by simpa using hd
            cases hgo
            obtain ⟨hx, hn⟩ := k'.hid D _ upd_same
            refine .inl ⟨⟨ys, hy, by rw [reps_len ry]; exact hl⟩, w _ Hs' H' p' (stok_back k p'.le (k'.zle (Le.new hzD)) hno) ⟨D, rfl, hn, ⟨h0, hzD⟩, ⟨xs, hx, rx⟩, fun i j u h1 h2 => ?_⟩⟩
            have hi' : i ∉ vs := fun hi => by
              have q := backE_in hi h1
              rcases noOw_at hno hi with z | ⟨d, z⟩ <;> (rw [z] at q; cases q)
            rw [backE_out hi'] at h1
            have q := k'.hids i j u D h1 (by rw [wipe_get hi']; exact h2)
            rw [upd_same] at q; cases q
          · rename_i d hd
            obtain ⟨v, e1, e2⟩ := reps_get ry hd
            refine .inr ⟨⟨ys, v, hy, e1⟩, fun H3 => ∃ Hs' e' acc xs, Post Hs H Hs' H3 ∧ StOk C (upd Z D (.lst xs)) Hs' e' (wipe σ vs) H3 ∧ Reps C.K C.sc Hs' acc xs ∧ lcGoO i mg mt me vs n (j + 1) acc e' = some (accF, eF), fun H3 h3 => ⟨n, by omega, h3⟩, fun x H2 hyy => ?_⟩
            obtain ⟨rfl, hyx⟩ := hyy
            have ex := hyx ys hy
            rw [e1] at ex; cases ex
            cases qg : mg d e' with
            | none => simp only [qg] at hgo; cases hgo
            | some e2' =>
              simp only [qg] at hgo
              refine hg _ Hs' e' _ H2 k' d v e2' e2 qg _ fun σ2 k3 kp3 => ?_
              have hw : wipe σ2 vs = wipe σ vs := wipe_idem (kp3.sub hA) (by rw [kp3.1, wipe_length])
              refine ⟨hw, ht _ Hs' e2' σ2 H2 k3 _ ?_⟩
              cases qt : mt e2' with
              | ud => simp only [qt] at hgo; cases hgo
              | er x e => simp only [qt] at hgo; cases hgo
              | ok b e3 =>
                intro b' Hs3 H3 p3 k3' rb
                have rb : b = b' := rb
                subst rb
                cases b with
                | false =>
                  simp only [qt] at hgo
                  exact ⟨Hs3, wipeE e3 vs, acc, xs, p'.trans p3, stok_zr (stok_wipe k3' vs) hw, reps_le p3.le rx, hgo⟩
                | true =>
                  simp only [qt] at hgo
                  refine h _ Hs3 e3 σ2 H3 k3' _ ?_
                  cases qm : me e3 with
                  | ud => simp only [qm] at hgo; cases hgo
                  | er x e => simp only [qm] at hgo; cases hgo
                  | ok y e4 =>
                    simp only [qm] at hgo
                    intro v Hs4 H4 p4 k4 r4
                    split at hgo
                    · rename_i hlen
                      have rx4 := reps_le (p3.trans p4).le rx
                      refine ⟨xs, (k4.hid D _ upd_same).1, by rw [reps_len rx]; exact lim_lt hlen, Hs4, wipeE e4 vs, acc ++ [y], xs ++ [v], (p'.trans (p3.trans p4)).trans Post.newO, stok_zr ((stok_wipe k4 vs).hmut h0) hw, reps_app rx4 (reps_cons r4 reps_nil), hgo⟩
                    · cases hgo
        · cases hgo
    · exact w.elim
  · exact w.elim
theorem ss_while {tt : TT} {mt : ME Bool} (ht : ST C tt mt) (hb : SS C B t m) : SS C B (tWhile tt t) (sWhile mt m) := fun Z Hs e σ H k Dn w => by
  refine ⟨fun n σ' H' => ∃ Hs' e', Post Hs H Hs' H' ∧ StOk C Z Hs' e' σ' H' ∧ WS C Z B σ' Hs' H' (loopW mt m n e') Dn, ⟨lim, Hs, e, Post.refl, k, w⟩, ?_⟩
  rintro n σ' H' ⟨Hs', e', p', k', w'⟩
  cases n with
  | zero => exact w'.elim
  | succ n =>
    rw [loopW] at w'
    refine ht Z Hs' e' σ' H' k' _ (we_go (fun b e1 b' Hs1 H1 p1 k1 r1 w1 => ?_) w')
    have r1 : b = b' := r1
    subst r1
    cases b with
    | false =>
      rw [if_neg Bool.false_ne_true] at w1 ⊢
      exact w1 Hs1 σ' H1 Post.refl k1 Kp.refl
    | true =>
      rw [if_pos rfl] at w1 ⊢
      refine ⟨fun σ3 H3 => ∃ Hs3 e3, Post Hs H Hs3 H3 ∧ StOk C Z Hs3 e3 σ3 H3 ∧ WS C Z B σ3 Hs3 H3 (loopW mt m n e3) Dn, fun σ3 H3 h3 => ⟨n, by omega, h3⟩, hb Z Hs1 e1 σ' H1 k1 _ ?_⟩
      cases q2 : m e1 with
      | nx e3 => simp only [q2] at w1; exact fun Hs4 σ4 H4 p4 k4 kp4 => ⟨Hs4, e3, (p'.trans p1).trans p4, k4, ws_step p4 (fun _ z => ⟨z.1.trans kp4.1, fun j hj => (z.2 j hj).trans (kp4.2 j hj)⟩) w1⟩
      | ct e3 => simp only [q2] at w1; exact fun Hs4 σ4 H4 p4 k4 kp4 => ⟨Hs4, e3, (p'.trans p1).trans p4, k4, ws_step p4 (fun _ z => ⟨z.1.trans kp4.1, fun j hj => (z.2 j hj).trans (kp4.2 j hj)⟩) w1⟩
      | bk e3 => simp only [q2] at w1; exact fun Hs4 σ4 H4 p4 k4 kp4 => w1 Hs4 σ4 H4 p4 k4 kp4
      | rt s e3 => simp only [q2] at w1; exact fun v Hs4 σ4 H4 p4 k4 r4 => w1 v Hs4 σ4 H4 p4 k4 r4
      | er x e3 => simp only [q2] at w1; exact fun Hs4 σ4 H4 c od p4 k4 r4 => w1 Hs4 σ4 H4 c od p4 k4 r4
      | ud => simp only [q2] at w1; exact w1.elim
end
theorem mem_look {c : List Nat} {b : Bool} : ∀ {tab : List (List Nat × Bool)}, tab.lookup c = some b → (c, b) ∈ tab
  | [], h => by cases h
  | (a, x) :: r, h => by
    simp only [List.lookup] at h
    split at h
    · rename_i e
      cases h
      have : c = a := by simpa using e
      rw [this]; exact List.mem_cons_self
    · exact List.mem_cons_of_mem _ (mem_look h)
theorem tab_all {tab : List (List Nat × Bool)} (h : tab.all (·.2) = true) : ∀ c b, tab.lookup c = some b → b = true := fun c b hl => by
  have := List.all_eq_true.mp h _ (mem_look hl)
  exact this
section
variable {K : PySem.W.Frag} {tab : List (List Nat × Bool)} {cv : PySem.Value} {nl : List Str}
theorem kt_mk (h : ∀ p ∈ tab, ∃ A, PySem.W.nsIn K PySem.mainGlobals (sOf p.1) = some (some (.ref A)) ∧ PySem.W.kitOne K (.ref A) cv = some p.2) : ∀ c b E0, tab.lookup c = some b → PySem.W.nsIn K PySem.mainGlobals (sOf c) = some (some (.ref E0)) → PySem.W.kitOne K (.ref E0) cv = some b := fun c b E0 hl hn => by
  obtain ⟨A, h1, h2⟩ := h _ (mem_look hl)
  rw [hn] at h1; cases h1; exact h2
theorem xm_mk (h : ∀ p ∈ tab, ∃ A, PySem.W.nsIn K PySem.mainGlobals (sOf p.1) = some (some (.ref A)) ∧ PySem.W.exmOne K (.ref A) cv = some p.2) : ∀ c b E0, tab.lookup c = some b → PySem.W.nsIn K PySem.mainGlobals (sOf c) = some (some (.ref E0)) → PySem.W.exmOne K (.ref E0) cv = some b := fun c b E0 hl hn => by
  obtain ⟨A, h1, h2⟩ := h _ (mem_look hl)
  rw [hn] at h1; cases h1; exact h2
theorem xf_mk (h : ∀ p ∈ tab, ∃ A, PySem.W.nsIn K PySem.mainGlobals (sOf p.1) = some (some (.ref A)) ∧ ErrF K nl A) : ∀ c E0, tab.lookup c = some true → PySem.W.nsIn K PySem.mainGlobals (sOf c) = some (some (.ref E0)) → ErrF K nl E0 := fun c E0 hl hn => by
  obtain ⟨A, h1, h2⟩ := h _ (mem_look hl)
  rw [hn] at h1; cases h1; exact h2
theorem conR {x : Str} {a : Addr} (h : PySem.W.nsIn K PySem.mainGlobals x = some (some (.ref a))) : ConK K x (.ref a) := ⟨_, h, rfl⟩
end
section
variable {X : L2.Cx} {K : PySem.W.Frag} {l tg : PySem.Expr} {tl : TE}
theorem pi_tupK (hK : X.K = K) (hl : PE X l tl) : PI X tg l (iTup K tl) := by subst hK; exact pi_tup hl
theorem pi_listK (hK : X.K = K) (hl : PE X l tl) : PI X tg l (iList K tl) := by subst hK; exact pi_list hl
end
section
variable {C : Cc} {K : PySem.W.Frag}
theorem any_eqv {a : Dv} {n m : Nat} (ha : lowD n a = true) : ∀ {ds : List Dv}, lowDs m ds = true → (toPs ds).any (fun z => PySem.PyData.eqv z (toP a)) = ds.any fun y => eqD y a
  | [], _ => rfl
  | d :: ds, h => by
    simp only [lowDs, Bool.and_eq_true] at h
    simp only [toPs, List.any_cons]
    rw [eqD_ok d a h.1 ha, any_eqv ha h.2]
theorem rv_inD (hK : C.K = K) : RV C (rInD K) oInD := fun Z Hs e σ H k x y a b c Q ra rb hf w => by
  subst hK
  unfold oInD at hf
  split at hf
  · rename_i ds
    split at hf
    · rename_i hc
      cases hf
      obtain ⟨a1, a2, a3⟩ := dp_ok k.le hc.1 ra
      obtain ⟨b1, b2, b3⟩ := dp_ok k.le hc.2 rb
      have e1 : toP (.lst ds) = .list (toPs ds) := by simp only [toP]
      rw [e1] at b1 b2 b3
      refine ⟨_, _, a1, b1, shaped_ok a2 a3 (by decide), shaped_ok b2 b3 (by decide), ?_⟩
      rw [any_eqv hc.1 (m := 59) (by have := hc.2; simpa only [lowD] using this)]
      exact we_ok w k (by simp only [rD, Rep])
    · cases hf
  · cases hf
theorem rv_niD (hK : C.K = K) : RV C (rNotInD K) oNiD := fun Z Hs e σ H k x y a b c Q ra rb hf w => by
  subst hK
  unfold oNiD at hf
  split at hf
  · rename_i ds
    split at hf
    · rename_i hc
      cases hf
      obtain ⟨a1, a2, a3⟩ := dp_ok k.le hc.1 ra
      obtain ⟨b1, b2, b3⟩ := dp_ok k.le hc.2 rb
      have e1 : toP (.lst ds) = .list (toPs ds) := by simp only [toP]
      rw [e1] at b1 b2 b3
      refine ⟨_, _, a1, b1, shaped_ok a2 a3 (by decide), shaped_ok b2 b3 (by decide), ?_⟩
      rw [any_eqv hc.1 (m := 59) (by have := hc.2; simpa only [lowD] using this)]
      exact we_ok w k (by simp only [rD, Rep])
    · cases hf
  · cases hf
theorem inDK {X : L2.Cx} (hK : X.K = K) {k : Nat} (hr : L2.Room k X.A) : OpR X (PySem.compareOp .In) (rInD K) := by subst hK; have := hr.un; exact op_inD (by omega)
theorem niDK {X : L2.Cx} (hK : X.K = K) {k : Nat} (hr : L2.Room k X.A) : OpR X (PySem.compareOp .NotIn) (rNotInD K) := by subst hK; have := hr.un; exact op_notInD (by omega)
end
theorem kit_own {K : PySem.W.Frag} {t : PySem.Value} {C : Addr} {b : Bool} (h : PySem.W.subIn K t (.ref C) = some b) (hr : PySem.W.subIn K (.ref C) (.ref C) = some true) (hc : PySem.W.isClsIn K C = true) (ht : PySem.W.typeIn K (.ref C) = some (.type "type")) : PySem.W.kitOne K t (.ref C) = some b := by
  unfold PySem.W.kitOne
  by_cases e : (t == PySem.Value.ref C) = true
  · rw [if_pos e]
    have e' : t = .ref C := beq_iff_eq.mp e
    rw [e', hr] at h
    exact h
  · rw [if_neg e]
    have e2 : ((PySem.W.clsIn K C).isSome && PySem.W.typeIn K (.ref C) == some (.type "type")) = true := by
      have hc' : (PySem.W.clsIn K C).isSome = true := hc
      rw [hc', ht]; rfl
    show (if ((PySem.W.clsIn K C).isSome && PySem.W.typeIn K (.ref C) == some (.type "type")) = true then PySem.W.subIn K t (.ref C) else none) = some b
    rw [if_pos e2]; exact h
theorem kit_blt {K : PySem.W.Frag} {C : Addr} {T : String} {b : Bool} (h : PySem.W.subIn K (.ref C) (.type T) = some b) (hm : PySem.W.kitMeta T = true) : PySem.W.kitOne K (.ref C) (.type T) = some b := by
  unfold PySem.W.kitOne
  have e : ((PySem.Value.ref C) == PySem.Value.type T) = false := by
    cases q : ((PySem.Value.ref C) == PySem.Value.type T) with
    | false => rfl
    | true => exact absurd (beq_iff_eq.mp q) (fun z => nomatch z)
  rw [e, if_neg Bool.false_ne_true]
  show (if PySem.W.kitMeta T = true then PySem.W.subIn K (.ref C) (.type T) else none) = some b
  rw [if_pos hm]; exact h
end Ml

/-! The mirror of edgesaway_k01_schemas_checked, printed from the text. -/
namespace K01
open Ml
def t0 : List Nat := [97, 98, 99, 100, 101, 102, 103, 104, 105, 106, 107, 108, 109, 110, 111, 112, 113, 114, 115, 116, 117, 118, 119, 120, 121, 122]
def t1 : List Nat := [48, 49, 50, 51, 52, 53, 54, 55, 56, 57]
def t2 : List Nat := [107, 105, 110, 100]
def t3 : List Nat := [108, 97, 98, 101, 108]
def t4 : List Nat := [109, 97, 110, 121]
def t5 : List Nat := [115, 105, 110, 103, 108, 101]
def t6 : List Nat := [109, 97, 114, 107]
def t7 : List Nat := [102, 105, 114, 109]
def t8 : List Nat := [101, 100, 103, 101]
def t9 : List Nat := [102, 105, 110, 100]
def t10 : List Nat := [119, 97, 121]
def t11 : List Nat := [97, 110, 100]
def t12 : List Nat := [111, 114]
def t13 : List Nat := [110, 111, 116]
def t14 : List Nat := [115, 116, 97, 121]
def t15 : List Nat := [97, 116]
def t16 : List Nat := [107, 105, 110, 100, 115]
def t17 : List Nat := [84, 111, 111, 76, 97, 114, 103, 101]
def t18 : List Nat := [112, 97, 114, 116]
def t19 : List Nat := [108, 97, 98, 101, 108, 115]
def t20 : List Nat := [66, 97, 100, 78, 117, 109, 98, 101, 114]
def t21 : List Nat := [110, 117, 109, 98, 101, 114]
def t22 : List Nat := [110, 111, 100, 101, 115]
def t23 : List Nat := [66, 97, 100, 78, 97, 109, 101]
def t24 : List Nat := [110, 97, 109, 101]
def t25 : List Nat := [84, 119, 105, 99, 101]
def t26 : List Nat := [66, 97, 100, 82, 117, 108, 101]
def t27 : List Nat := [97, 32, 98, 50, 32, 116, 111, 119, 110, 32, 114, 111, 97, 100, 32, 114, 32, 107, 48, 32, 115, 101, 97, 116, 32, 122, 57, 122, 32, 102, 117, 108, 108, 32, 116, 97, 105, 108, 32, 110, 32, 109, 56, 32, 97, 97, 32, 98, 117, 115, 121, 32, 115, 104, 111, 112, 32, 112, 32, 116, 52, 32, 101, 118, 101, 110, 50, 32, 97, 98, 49, 32, 115, 104, 105, 112, 32, 117, 32, 118, 50, 32, 119, 32, 108, 97, 110, 101, 32, 104, 105, 103, 104, 32, 109, 105, 100, 32]
def t28 : List Nat := [115, 32, 116, 32, 101, 32, 102, 32, 103, 32, 104, 32, 106, 32, 120, 32, 121, 32, 113, 55, 32, 100, 101, 101, 112, 32, 116, 117, 114, 110, 32, 103, 97, 116, 101, 32, 108, 53, 32, 104, 111, 108, 100, 32, 110, 101, 120, 116, 49, 32, 99, 48, 32, 100, 50, 32, 116, 119, 111, 32, 122, 122, 49, 32, 110, 101, 97, 114, 32, 102, 97, 114, 57, 32, 108, 97, 115, 116, 32, 114, 105, 110, 103, 50, 32, 97, 97, 97, 97, 97, 97, 97, 56]
def t29 : List Nat := [32]
def t30 : List Nat := [115, 99, 104, 101, 109, 97]
def t31 : List Nat := [45]
def t32 : List Nat := [122]
def t33 : List Nat := [113, 55, 81]
def t34 : List Nat := [97, 32, 98]
def t35 : List Nat := [97, 95, 98]
def t36 : List Nat := [97, 97, 97, 97, 97, 97, 97, 97, 97]
def t37 : List Nat := [57, 97]
def t38 : List Nat := [84, 111, 119, 110]
def t39 : List Nat := []
def t40 : List Nat := [107, 105, 110, 100, 32, 108, 97, 98, 101, 108, 32, 109, 97, 110, 121, 32, 115, 105, 110, 103, 108, 101, 32, 109, 97, 114, 107, 32, 102, 105, 114, 109, 32, 101, 100, 103, 101, 32, 102, 105, 110, 100, 32, 119, 97, 121, 32, 97, 110, 100, 32, 111, 114, 32, 110, 111, 116, 32, 115, 116, 97, 121, 32, 97, 116]
def t41 : List Nat := [77, 97, 114, 107]
def t42 : List Nat := [115, 111, 109, 101]
def t43 : List Nat := [119]
def t44 : List Nat := [120, 121, 122]
def t45 : List Nat := [118]
def t46 : List Nat := [111, 100, 100]
def t47 : List Nat := [98, 57, 57, 57, 57, 57, 57, 57]
def t48 : List Nat := [119, 97, 121, 115]
def t49 : List Nat := [97, 110, 100, 49]
def t50 : List Nat := [114, 111, 97, 100]
def t51 : List Nat := [97, 49]
def t52 : List Nat := [97, 98, 99, 100, 101, 102, 103, 104]
def t53 : List Nat := [97]
def t54 : List Nat := [116, 111, 119, 110]
def t55 : List Nat := [65]
def t56 : List Nat := [120]
def t57 : List Nat := [103, 111, 110, 101, 48]
def tab_AwayError : List (List Nat × Bool) := [(t23, true), (t20, true), (t26, true), (t17, true), (t25, true)]
def tab_BadName : List (List Nat × Bool) := [(t23, true), (t20, false), (t26, false), (t17, false), (t25, false)]
def tab_BadNumber : List (List Nat × Bool) := [(t23, false), (t20, true), (t26, false), (t17, false), (t25, false)]
def tab_BadRule : List (List Nat × Bool) := [(t23, false), (t20, false), (t26, true), (t17, false), (t25, false)]
def tab_LimitError : List (List Nat × Bool) := [(t23, false), (t20, false), (t26, false), (t17, true), (t25, false)]
def tab_SchemaError : List (List Nat × Bool) := [(t23, true), (t20, true), (t26, true), (t17, false), (t25, true)]
def tab_TooLarge : List (List Nat × Bool) := [(t23, false), (t20, false), (t26, false), (t17, true), (t25, false)]
def tab_Twice : List (List Nat × Bool) := [(t23, false), (t20, false), (t26, false), (t17, false), (t25, true)]
def tab_Unknown : List (List Nat × Bool) := [(t23, false), (t20, false), (t26, false), (t17, false), (t25, false)]
def tab_ValueError : List (List Nat × Bool) := [(t23, true), (t20, true), (t26, true), (t17, true), (t25, true)]
def m_is_name : MS :=
  (sSeq (sIf (mOr (mNot (mTest (mChain oLe oLe (mC (.int 1)) (mO1 oLen (mVar 0)) (mC (.int 8))))) (mTest (mO2 oNiS (mO2 oIx (mVar 0) (mC (.int 0))) (mC (.str t0)))))
  (sRet (mC (.bl false)))
  sNil)
  (sSeq (sFor (mIt itS (mVar 0)) (gN 1)
  (sIf (mAnd (mTest (mO2 oNiS (mVar 1) (mC (.str t0)))) (mTest (mO2 oNiS (mVar 1) (mC (.str t1)))))
  (sRet (mC (.bl false)))
  sNil))
  (sRet (mO2 oNi (mVar 0) (mC (.tup [.str t2, .str t3, .str t4, .str t5, .str t6, .str t7, .str t8, .str t9, .str t10, .str t11, .str t12, .str t13, .str t14, .str t15]))))))
def F_is_name : Fn := mkFn 1 1 m_is_name
def m_check_label : MS :=
  (sSeq (sSet (mVar 0) (gT [(gN 2), (gN 3), (gN 4), (gN 5), (gN 6)]))
  (sSeq (sFor (mIt itT (mTup [(mVar 3), (mVar 4)])) (gN 7)
  (sIf (mNot (mTest (mChain oLe oLt (mC (.int 0)) (mVar 7) (mVar 1))))
  (sRaise t20 t21 (mVar 7))
  sNil))
  (sSeq (sIf (mNot (mTest (mChain oLe oLe (mC (.int 0)) (mVar 5) (mC (.int 9)))))
  (sRaise t20 t21 (mVar 5))
  sNil)
  (sIf (mOr (mTest (mO2 oNi (mVar 6) (mC (.tup [.str t4, .str t5, .str t6])))) (mAnd (mTest (mO2 oEq (mVar 6) (mC (.str t6)))) (mTest (mO2 oNe (mVar 3) (mVar 4)))))
  (sRaise t26 t24 (mVar 2))
  sNil))))
def F_check_label : Fn := mkFn 2 6 m_check_label
def m_check_new_name : MS :=
  (sSeq (sIf (mNot (mTruth (mCallD F_is_name [.val (mVar 1)])))
  (sRaise t23 t24 (mVar 1))
  sNil)
  (sIf (mTest (mInO false (mVar 1) 0))
  (sRaise t25 t24 (mVar 1))
  sNil))
def F_check_new_name : Fn := mkFn 2 0 m_check_new_name
def m_node_count : MS :=
  (sRet (mO1 oSum (mFz (mLc (mIt itT (mO2 oIx (mVar 0) (mC (.int 1)))) (gT [(gN 1), (gN 2)]) mYes (mVar 2) [1, 2]))))
def F_node_count : Fn := mkFn 1 2 m_node_count
def m_check_schema : MS :=
  (sSeq (sSet (mO2 oIx (mVar 0) (mC (.int 1))) (gN 1))
  (sSeq (sSet (mO2 oIx (mVar 0) (mC (.int 2))) (gN 2))
  (sSeq (sIf (mTest (mO2 oGt (mO1 oLen (mVar 1)) (mC (.int 6))))
  (sRaise t17 t18 (mC (.str t16)))
  sNil)
  (sSeq (sIf (mTest (mO2 oGt (mO1 oLen (mVar 2)) (mC (.int 12))))
  (sRaise t17 t18 (mC (.str t19)))
  sNil)
  (sSeq (sSetO 3 (mLst []))
  (sSeq (sFor (mIt itT (mVar 1)) (gT [(gN 4), (gN 5)])
  (sSeq (sDrop (mCallD F_check_new_name [.own 3, .val (mVar 4)]))
  (sSeq (sIf (mNot (mTest (mChain oLe oLe (mC (.int 0)) (mVar 5) (mC (.int 24)))))
  (sRaise t20 t21 (mVar 5))
  sNil)
  (sApp 3 (mVar 4)))))
  (sSeq (sFor (mIt itT (mVar 2)) (gN 6)
  (sSeq (sDrop (mCallD F_check_new_name [.own 3, .val (mO2 oIx (mVar 6) (mC (.int 0)))]))
  (sSeq (sDrop (mCallD F_check_label [.val (mVar 6), .val (mO1 oLen (mVar 1))]))
  (sApp 3 (mO2 oIx (mVar 6) (mC (.int 0)))))))
  (sIf (mTest (mO2 oGt (mCallD F_node_count [.val (mVar 0)]) (mC (.int 24))))
  (sRaise t17 t18 (mC (.str t22)))
  sNil))))))))
def F_check_schema : Fn := mkFn 1 6 m_check_schema
def m_first_node : MS :=
  (sRet (mO1 oSum (mFz (mLc (mIt itT (mSl slT (mO2 oIx (mVar 0) (mC (.int 1))) none (some (mVar 1)))) (gT [(gN 2), (gN 3)]) mYes (mVar 3) [2, 3]))))
def F_first_node : Fn := mkFn 2 2 m_first_node
def m_nodes_of : MS :=
  (sSeq (sSet (mCallD F_first_node [.val (mVar 0), .val (mVar 1)]) (gN 2))
  (sRet (mTupR (mRs2 (mVar 2) (mO2 oAdd (mVar 2) (mO2 oIx (mO2 oIx (mO2 oIx (mVar 0) (mC (.int 1))) (mVar 1)) (mC (.int 1))))))))
def F_nodes_of : Fn := mkFn 2 1 m_nodes_of
def m_kind_of : MS :=
  (sSeq (sIf (mTest (mO2 oLt (mVar 1) (mC (.int 0))))
  (sRet (mC .non))
  sNil)
  (sSeq (sSet (mC (.int 0)) (gN 2))
  (sSeq (sFor (mItE itT (mO2 oIx (mVar 0) (mC (.int 1)))) (gT [(gN 3), (gT [(gN 4), (gN 5)])])
  (sSeq (sAug 2 oAddI (mVar 5))
  (sIf (mTest (mO2 oLt (mVar 1) (mVar 2)))
  (sRet (mVar 3))
  sNil)))
  (sRet (mC .non)))))
def F_kind_of : Fn := mkFn 2 4 m_kind_of
def m_label_kinds : MS :=
  (sRet (mSl slT (mO2 oIx (mO2 oIx (mVar 0) (mC (.int 2))) (mVar 1)) (some (mC (.int 1))) (some (mC (.int 3)))))
def F_label_kinds : Fn := mkFn 2 0 m_label_kinds
def m_is_mark : MS :=
  (sRet (mO2 oEq (mO2 oIx (mO2 oIx (mO2 oIx (mVar 0) (mC (.int 2))) (mVar 1)) (mC (.int 4))) (mC (.str t6))))
def F_is_mark : Fn := mkFn 2 0 m_is_mark
def m_is_edge : MS :=
  (sSeq (sSet (mVar 1) (gT [(gN 2), (gN 3), (gN 4)]))
  (sSeq (sIf (mNot (mTest (mChain oLe oLt (mC (.int 0)) (mVar 3) (mO1 oLen (mO2 oIx (mVar 0) (mC (.int 2)))))))
  (sRet (mC (.bl false)))
  sNil)
  (sSeq (sIf (mTest (mO2 oNeD (mTup [(mCallD F_kind_of [.val (mVar 0), .val (mVar 2)]), (mCallD F_kind_of [.val (mVar 0), .val (mVar 4)])]) (mCallD F_label_kinds [.val (mVar 0), .val (mVar 3)])))
  (sRet (mC (.bl false)))
  sNil)
  (sRet (mOrV (mO2 oEq (mVar 2) (mVar 4)) (mNotV (mCallD F_is_mark [.val (mVar 0), .val (mVar 3)])))))))
def F_is_edge : Fn := mkFn 2 3 m_is_edge
def m_edges_let : MS :=
  (sSeq (sSet (mCallD F_label_kinds [.val (mVar 0), .val (mVar 1)]) (gT [(gN 2), (gN 3)]))
  (sSeq (sIf (mTruth (mCallD F_is_mark [.val (mVar 0), .val (mVar 1)]))
  (sRet (mO1 oTup (mFz (mLc (mIt itT (mCallD F_nodes_of [.val (mVar 0), .val (mVar 2)])) (gN 5) mYes (mTup [(mVar 5), (mVar 1), (mVar 5)]) [5]))))
  sNil)
  (sSeq (sSet (mCallD F_nodes_of [.val (mVar 0), .val (mVar 3)]) (gN 4))
  (sRet (mO1 oTup (mFz (mLc2 (mIt itT (mCallD F_nodes_of [.val (mVar 0), .val (mVar 2)])) (gN 6) mYes (mIt itT (mVar 4)) (gN 7) mYes (mTup [(mVar 6), (mVar 1), (mVar 7)]) [6, 7] [7])))))))
def F_edges_let : Fn := mkFn 2 6 m_edges_let
def m__law_draw : MS :=
  (sSeq (sIf (mTest (mO2 oGt (mOwn2 0 wIx (mC (.int 2))) (mC (.int 0))))
  (sSeq (sSet (mOwn2 0 wIx (mC (.int 2))) (gN 2))
  (sSeq (sPut 0 (mC (.int 2)) (mO2 oDiv (mVar 2) (mVar 1)))
  (sRet (mO2 oMod (mO1 oInt (mVar 2)) (mVar 1)))))
  sNil)
  (sSeq (sSet (mC (.int 0)) (gN 3))
  (sSeq (sIf (mTest (mO2 oLt (mOwn2 0 wIx (mC (.int 1))) (mO1 oLen (mOwn2 0 wIx (mC (.int 0))))))
  (sSeq (sSet (mO2 oIx (mOwn2 0 wIx (mC (.int 0))) (mOwn2 0 wIx (mC (.int 1)))) (gN 4))
  (sSet (mO2 oAdd (mO2 oMul (mC (.int 2)) (mO1 oAbs (mVar 4))) (mO1 oInt (mO2 oLt (mVar 4) (mC (.int 0))))) (gN 3)))
  sNil)
  (sSeq (sPutAug 0 (mC (.int 1)) oAddI (mC (.int 1)))
  (sSeq (sIf (mTest (mO2 oGe (mVar 3) (mO2 oMul (mC (.int 2)) (mO2 oPow (mC (.int 10)) (mC (.int 18))))))
  (sSeq (sSet (mO2 oMod (mO1 oInt (mO2 oDiv (mVar 3) (mC (.int 2)))) (mO2 oShl (mC (.int 1)) (mC (.int 6000)))) (gN 2))
  (sSeq (sPut 0 (mC (.int 2)) (mO2 oDiv (mVar 2) (mVar 1)))
  (sRet (mO2 oMod (mO1 oInt (mVar 2)) (mVar 1)))))
  sNil)
  (sSeq (sPut 0 (mC (.int 3)) (mO2 oMod (mO1 oInt (mO2 oAdd (mO2 oAdd (mO2 oAdd (mO2 oMul (mOwn2 0 wIx (mC (.int 3))) (mC (.int 48271))) (mO2 oMul (mO2 oMod (mO1 oInt (mVar 3)) (mC (.int 2147483629))) (mC (.int 16807)))) (mO2 oMul (mOwn2 0 wIx (mC (.int 1))) (mC (.int 69621)))) (mC (.int 11)))) (mC (.int 2147483647))))
  (sRet (mO2 oMod (mO1 oInt (mO2 oDiv (mOwn2 0 wIx (mC (.int 3))) (mC (.int 16)))) (mVar 1)))))))))
def F__law_draw : Fn := mkFn 2 3 m__law_draw
def m__law_pick : MS :=
  (sRet (mO2 oIx (mVar 1) (mCallD F__law_draw [.own 0, .val (mO1 oLen (mVar 1))])))
def F__law_pick : Fn := mkFn 2 0 m__law_pick
def m__law_pop : MS :=
  (sRet (mPopAt 1 (mCallD F__law_draw [.own 0, .val (mOwn 1 wLen)])))
def F__law_pop : Fn := mkFn 2 0 m__law_pop
def m__law_rare : MS :=
  (sRet (mO2 oEq (mCallD F__law_draw [.own 0, .val (mVar 1)]) (mO2 oDiv (mVar 1) (mC (.int 2)))))
def F__law_rare : Fn := mkFn 2 0 m__law_rare
def m__law_pool : MS :=
  (sSeq (sSet (mC (.str t27)) (gN 0))
  (sSeq (sSet (mO2 oAdd (mVar 0) (mC (.str t28))) (gN 0))
  (sRetO (mM1N oSplit (mVar 0) (mC (.str t29))))))
def F__law_pool : Fn := mkFn 0 1 m__law_pool
def m__law_is_int : MS :=
  (sRet (mAndV (mO1 oIsI (mVar 0)) (mNotV (mO1 oIsB (mVar 0)))))
def F__law_is_int : Fn := mkFn 1 0 m__law_is_int
def m__law_first : MS :=
  (sRet (mO1 oSum (mFz (mLc (mIt itT (mSl slT (mO2 oIx (mVar 0) (mC (.int 1))) none (some (mVar 1)))) (gN 2) mYes (mO2 oIx (mVar 2) (mC (.int 1))) [2]))))
def F__law_first : Fn := mkFn 2 1 m__law_first
def m__law_nodes : MS :=
  (sSeq (sSet (mCallD F__law_first [.val (mVar 0), .val (mVar 1)]) (gN 2))
  (sRetO (mLc (mRg1 (mO2 oIx (mO2 oIx (mO2 oIx (mVar 0) (mC (.int 1))) (mVar 1)) (mC (.int 1)))) (gN 3) mYes (mO2 oAdd (mVar 2) (mVar 3)) [3])))
def F__law_nodes : Fn := mkFn 2 2 m__law_nodes
def m__law_let : MS :=
  (sSeq (sSet (mO2 oIx (mO2 oIx (mVar 0) (mC (.int 2))) (mVar 1)) (gN 2))
  (sSeq (sSetO 3 (mLst []))
  (sSeq (sFor (mIt itL (mFz (mCallO F__law_nodes [.val (mVar 0), .val (mO2 oIx (mVar 2) (mC (.int 1)))]))) (gN 4)
  (sFor (mIt itL (mFz (mCallO F__law_nodes [.val (mVar 0), .val (mO2 oIx (mVar 2) (mC (.int 2)))]))) (gN 5)
  (sIf (mOr (mTest (mO2 oNe (mO2 oIx (mVar 2) (mC (.int 4))) (mC (.str t6)))) (mTest (mO2 oEq (mVar 4) (mVar 5))))
  (sApp 3 (mTup [(mVar 4), (mVar 1), (mVar 5)]))
  sNil)))
  (sRetV 3))))
def F__law_let : Fn := mkFn 2 4 m__law_let
def m__law_schema : MS :=
  (sSeq (sSetO 4 (mCallO F__law_pool []))
  (sSeq (sSetO 5 (mLst []))
  (sSeq (sFor (mRg1 (mVar 1)) (gN 6)
  (sApp 5 (mTup [(mCallD F__law_pop [.own 0, .own 4]), (mO2 oAdd (mC (.int 1)) (mCallD F__law_draw [.own 0, .val (mVar 3)]))])))
  (sFrz 5 (sSeq (sSetO 7 (mLst []))
  (sSeq (sFor (mRg1 (mVar 2)) (gN 6)
  (sSeq (sSet (mCallD F__law_draw [.own 0, .val (mVar 1)]) (gN 8))
  (sSeq (sSet (mCallD F__law_draw [.own 0, .val (mVar 1)]) (gN 9))
  (sSeq (sSet (mCallD F__law_draw [.own 0, .val (mC (.int 10))]) (gN 10))
  (sSeq (sSet (mC (.str t4)) (gN 11))
  (sSeq (sIf (mTest (mO2 oIn (mVar 10) (mTup [(mC (.int 3)), (mC (.int 4))])))
  (sSet (mC (.str t5)) (gN 11))
  sNil)
  (sSeq (sIf (mTest (mO2 oEq (mVar 10) (mC (.int 7))))
  (sSeq (sSet (mC (.str t6)) (gN 11))
  (sSet (mVar 8) (gN 9)))
  sNil)
  (sSeq (sSet (mO2 oAdd (mC (.int 1)) (mCallD F__law_draw [.own 0, .val (mC (.int 4))])) (gN 12))
  (sSeq (sIf (mTest (mO2 oEq (mCallD F__law_draw [.own 0, .val (mC (.int 9))]) (mC (.int 5))))
  (sSet (mC (.int 0)) (gN 12))
  sNil)
  (sSeq (sIf (mTruth (mCallD F__law_rare [.own 0, .val (mC (.int 9))]))
  (sSet (mC (.int 9)) (gN 12))
  sNil)
  (sApp 7 (mTup [(mCallD F__law_pop [.own 0, .own 4]), (mVar 8), (mVar 9), (mVar 12), (mVar 11)]))))))))))))
  (sFrz 7 (sRet (mTup [(mC (.str t30)), (mO1 oTup (mVar 5)), (mO1 oTup (mVar 7))])))))))))
def F__law_schema : Fn := mkFn 4 9 m__law_schema
def m__law_odd_name : MS :=
  (sSeq (sSet (mFz (mLst [(mC (.str t39)), (mC (.str t38)), (mC (.str t37)), (mC (.str t36)), (mC (.str t2)), (mC (.str t35)), (mC (.str t34)), (mC (.str t15)), (mC (.str t33)), (mC (.str t14)), (mC (.str t8)), (mO2 oRepS (mC (.str t32)) (mC (.int 9))), (mC (.str t31))])) (gN 2))
  (sSeq (sIf (mAnd (mTest (mO2 oGt (mO1 oLen (mVar 1)) (mC (.int 0)))) (mTest (mO2 oEq (mCallD F__law_draw [.own 0, .val (mC (.int 2))]) (mC (.int 1)))))
  (sRet (mCallD F__law_pick [.own 0, .val (mVar 1)]))
  sNil)
  (sRet (mCallD F__law_pick [.own 0, .val (mVar 2)]))))
def F__law_odd_name : Fn := mkFn 2 1 m__law_odd_name
def m__law_name_good : MS :=
  (sSeq (sSet (mFz (mM1N oSplit (mC (.str t40)) (mC (.str t29)))) (gN 1))
  (sSeq (sSet (mC (.str t0)) (gN 2))
  (sSeq (sIf (mOr (mNot (mTest (mChain oLe oLe (mC (.int 1)) (mO1 oLen (mVar 0)) (mC (.int 8))))) (mOr (mTest (mO2 oIn (mVar 0) (mVar 1))) (mTest (mO2 oNiS (mO2 oIx (mVar 0) (mC (.int 0))) (mVar 2)))))
  (sRet (mC (.bl false)))
  sNil)
  (sRet (mO1 oAll (mFz (mLc (mIt itS (mVar 0)) (gN 3) mYes (mO2 oInS (mVar 3) (mO2 oAdd (mVar 2) (mC (.str t1)))) [3])))))))
def F__law_name_good : Fn := mkFn 1 3 m__law_name_good
def m__law_with_fault : MS :=
  (sSeq (sSet (mCallD F__law_draw [.own 0, .val (mC (.int 10))]) (gN 3))
  (sSeq (sSet (mFz (mN2 oCat (mFz (mLcO 1 (gN 7) mYes (mO2 oIx (mVar 7) (mC (.int 0))) [7])) (mFz (mLcO 2 (gN 7) mYes (mO2 oIx (mVar 7) (mC (.int 0))) [7])))) (gN 4))
  (sSeq (sSet (mCallD F__law_draw [.own 0, .val (mOwn 1 wLen)]) (gN 5))
  (sSeq (sSet (mCallD F__law_draw [.own 0, .val (mOwn 2 wLen)]) (gN 6))
  (sSeq (sSet (mOwn2 2 wIx (mVar 6)) (gN 7))
  (sSeq (sIf (mTest (mO2 oEq (mVar 3) (mC (.int 0))))
  (sPut 1 (mVar 5) (mTup [(mCallD F__law_odd_name [.own 0, .val (mVar 4)]), (mO2 oIx (mOwn2 1 wIx (mVar 5)) (mC (.int 1)))]))
  sNil)
  (sSeq (sIf (mTest (mO2 oEq (mVar 3) (mC (.int 1))))
  (sPut 2 (mVar 6) (mO2 oCatT (mTup [(mCallD F__law_odd_name [.own 0, .val (mVar 4)])]) (mSl slT (mVar 7) (some (mC (.int 1))) none)))
  sNil)
  (sSeq (sIf (mTest (mO2 oEq (mVar 3) (mC (.int 2))))
  (sPut 1 (mVar 5) (mTup [(mO2 oIx (mOwn2 1 wIx (mVar 5)) (mC (.int 0))), (mCallD F__law_pick [.own 0, .val (mFz (mLst [(mO1 oNeg (mC (.int 1))), (mC (.int 25)), (mC (.int 30)), (mO1 oNeg (mC (.int 7))), (mC (.int 24))]))])]))
  sNil)
  (sSeq (sIf (mTest (mO2 oEq (mVar 3) (mC (.int 3))))
  (sPut 2 (mVar 6) (mO2 oCatT (mTup [(mO2 oIx (mVar 7) (mC (.int 0))), (mCallD F__law_pick [.own 0, .val (mFz (mLst [(mO1 oNeg (mC (.int 1))), (mOwn 1 wLen), (mC (.int 6)), (mC (.int 9))]))])]) (mSl slT (mVar 7) (some (mC (.int 2))) none)))
  sNil)
  (sSeq (sIf (mTest (mO2 oEq (mVar 3) (mC (.int 4))))
  (sPut 2 (mVar 6) (mO2 oCatT (mO2 oCatT (mSl slT (mVar 7) none (some (mC (.int 2)))) (mTup [(mCallD F__law_pick [.own 0, .val (mFz (mLst [(mO1 oNeg (mC (.int 1))), (mOwn 1 wLen), (mC (.int 7))]))])])) (mSl slT (mVar 7) (some (mC (.int 3))) none)))
  sNil)
  (sSeq (sIf (mTest (mO2 oEq (mVar 3) (mC (.int 5))))
  (sPut 2 (mVar 6) (mO2 oCatT (mSl slT (mVar 7) none (some (mC (.int 3)))) (mTup [(mCallD F__law_pick [.own 0, .val (mFz (mLst [(mO1 oNeg (mC (.int 1))), (mC (.int 10)), (mC (.int 9)), (mC (.int 0)), (mC (.int 100))]))]), (mO2 oIx (mVar 7) (mC (.int 4)))])))
  sNil)
  (sSeq (sIf (mTest (mO2 oEq (mVar 3) (mC (.int 6))))
  (sPut 2 (mVar 6) (mO2 oCatT (mSl slT (mVar 7) none (some (mC (.int 4)))) (mTup [(mCallD F__law_pick [.own 0, .val (mFz (mLst [(mC (.str t42)), (mC (.str t39)), (mC (.str t41)), (mC (.str t6)), (mC (.str t5))]))])])))
  sNil)
  (sSeq (sIf (mTest (mO2 oEq (mVar 3) (mC (.int 7))))
  (sFor (mRg1 (mC (.int 7))) (gN 8)
  (sApp 1 (mTup [(mO2 oAdd (mO2 oAdd (mC (.str t43)) (mO1 oStr (mVar 8))) (mC (.str t44))), (mC (.int 1))])))
  sNil)
  (sSeq (sIf (mTest (mO2 oEq (mVar 3) (mC (.int 8))))
  (sFor (mRg1 (mC (.int 13))) (gN 8)
  (sApp 2 (mTup [(mO2 oAdd (mO2 oAdd (mC (.str t45)) (mO1 oStr (mVar 8))) (mC (.str t44))), (mC (.int 0)), (mC (.int 0)), (mC (.int 1)), (mC (.str t4))])))
  sNil)
  (sIf (mTest (mO2 oEq (mVar 3) (mC (.int 9))))
  (sPut 1 (mVar 5) (mTup [(mO2 oIx (mOwn2 1 wIx (mVar 5)) (mC (.int 0))), (mCallD F__law_pick [.own 0, .val (mFz (mLst [(mC (.int 24)), (mC (.int 20)), (mC (.int 12))]))])]))
  sNil)))))))))))))))
def F__law_with_fault : Fn := mkFn 3 6 m__law_with_fault
def m__law_due_kind : MS :=
  (sSeq (sSet (mO2 oIx (mVar 0) (mVar 1)) (gT [(gN 2), (gN 3)]))
  (sSeq (sIf (mNot (mTruth (mCallD F__law_name_good [.val (mVar 2)])))
  (sRet (mTup [(mC (.str t23)), (mVar 2)]))
  sNil)
  (sSeq (sIf (mTest (mO2 oIn (mVar 2) (mFz (mLc (mIt itL (mFz (mSlN slL (mVar 0) none (some (mVar 1))))) (gN 4) mYes (mO2 oIx (mVar 4) (mC (.int 0))) [4]))))
  (sRet (mTup [(mC (.str t25)), (mVar 2)]))
  sNil)
  (sSeq (sIf (mNot (mTest (mChain oLe oLe (mC (.int 0)) (mVar 3) (mC (.int 24)))))
  (sRet (mTup [(mC (.str t20)), (mVar 3)]))
  sNil)
  (sRet (mC .non))))))
def F__law_due_kind : Fn := mkFn 2 3 m__law_due_kind
def m__law_due_label : MS :=
  (sSeq (sSet (mO2 oIx (mVar 1) (mVar 2)) (gT [(gN 3), (gN 4), (gN 5), (gN 6), (gN 7)]))
  (sSeq (sIf (mNot (mTruth (mCallD F__law_name_good [.val (mVar 3)])))
  (sRet (mTup [(mC (.str t23)), (mVar 3)]))
  sNil)
  (sSeq (sIf (mTest (mO2 oIn (mVar 3) (mFz (mN2 oCat (mFz (mLc (mIt itL (mVar 0)) (gN 9) mYes (mO2 oIx (mVar 9) (mC (.int 0))) [9])) (mFz (mLc (mIt itL (mFz (mSlN slL (mVar 1) none (some (mVar 2))))) (gN 9) mYes (mO2 oIx (mVar 9) (mC (.int 0))) [9]))))))
  (sRet (mTup [(mC (.str t25)), (mVar 3)]))
  sNil)
  (sSeq (sFor (mIt itT (mTup [(mVar 4), (mVar 5)])) (gN 8)
  (sIf (mNot (mTest (mChain oLe oLt (mC (.int 0)) (mVar 8) (mO1 oLen (mVar 0)))))
  (sRet (mTup [(mC (.str t20)), (mVar 8)]))
  sNil))
  (sSeq (sIf (mNot (mTest (mChain oLe oLe (mC (.int 0)) (mVar 6) (mC (.int 9)))))
  (sRet (mTup [(mC (.str t20)), (mVar 6)]))
  sNil)
  (sSeq (sIf (mOr (mTest (mO2 oNi (mVar 7) (mTup [(mC (.str t4)), (mC (.str t5)), (mC (.str t6))]))) (mAnd (mTest (mO2 oEq (mVar 7) (mC (.str t6)))) (mTest (mO2 oNe (mVar 4) (mVar 5)))))
  (sRet (mTup [(mC (.str t26)), (mVar 3)]))
  sNil)
  (sRet (mC .non))))))))
def F__law_due_label : Fn := mkFn 3 7 m__law_due_label
def m__law_due : MS :=
  (sSeq (sIf (mTest (mO2 oGt (mO1 oLen (mVar 0)) (mC (.int 6))))
  (sRet (mTup [(mC (.str t17)), (mC (.str t16))]))
  sNil)
  (sSeq (sIf (mTest (mO2 oGt (mO1 oLen (mVar 1)) (mC (.int 12))))
  (sRet (mTup [(mC (.str t17)), (mC (.str t19))]))
  sNil)
  (sSeq (sFor (mRg1 (mO1 oLen (mVar 0))) (gN 2)
  (sSeq (sSet (mCallD F__law_due_kind [.val (mVar 0), .val (mVar 2)]) (gN 3))
  (sIf (mTest (mO2 oNoN (mVar 3) (mC .non)))
  (sRet (mVar 3))
  sNil)))
  (sSeq (sFor (mRg1 (mO1 oLen (mVar 1))) (gN 2)
  (sSeq (sSet (mCallD F__law_due_label [.val (mVar 0), .val (mVar 1), .val (mVar 2)]) (gN 3))
  (sIf (mTest (mO2 oNoN (mVar 3) (mC .non)))
  (sRet (mVar 3))
  sNil)))
  (sSeq (sIf (mTest (mO2 oGt (mO1 oSum (mFz (mLc (mIt itL (mVar 0)) (gN 4) mYes (mO2 oIx (mVar 4) (mC (.int 1))) [4]))) (mC (.int 24))))
  (sRet (mTup [(mC (.str t17)), (mC (.str t22))]))
  sNil)
  (sRet (mC .non)))))))
def F__law_due : Fn := mkFn 2 3 m__law_due
def m__law_class : MS :=
  (sSeq (sSetO 1 (mLst []))
  (sSeq (sIf (mAnd (mTruth (mIsX tab_BadName (mVar 0))) (mTruth (mIsX tab_SchemaError (mVar 0))))
  (sApp 1 (mTup [(mC (.str t23)), (mFld t24 (mVar 0))]))
  sNil)
  (sSeq (sIf (mAnd (mTruth (mIsX tab_Twice (mVar 0))) (mTruth (mIsX tab_SchemaError (mVar 0))))
  (sApp 1 (mTup [(mC (.str t25)), (mFld t24 (mVar 0))]))
  sNil)
  (sSeq (sIf (mAnd (mTruth (mIsX tab_BadNumber (mVar 0))) (mTruth (mIsX tab_SchemaError (mVar 0))))
  (sApp 1 (mTup [(mC (.str t20)), (mFld t21 (mVar 0))]))
  sNil)
  (sSeq (sIf (mAnd (mTruth (mIsX tab_BadRule (mVar 0))) (mTruth (mIsX tab_SchemaError (mVar 0))))
  (sApp 1 (mTup [(mC (.str t26)), (mFld t24 (mVar 0))]))
  sNil)
  (sSeq (sIf (mAnd (mTruth (mIsX tab_TooLarge (mVar 0))) (mTruth (mIsX tab_LimitError (mVar 0))))
  (sApp 1 (mTup [(mC (.str t17)), (mFld t18 (mVar 0))]))
  sNil)
  (sSeq (sIf (mOr (mTruth (mIsX tab_Unknown (mVar 0))) (mNot (mTruth (mIsX tab_ValueError (mVar 0)))))
  (sApp 1 (mTup [(mC (.str t46)), (mC (.str t39))]))
  sNil)
  (sSeq (sIf (mAnd (mTruth (mIsX tab_SchemaError (mVar 0))) (mTruth (mIsX tab_LimitError (mVar 0))))
  (sApp 1 (mTup [(mC (.str t46)), (mC (.str t39))]))
  sNil)
  (sRetV 1)))))))))
def F__law_class : Fn := mkFn 1 1 m__law_class
def m__law_checked : MS :=
  (sSeq (sTryF (sIf (mTest (mO2 oNoN (mCallD F_check_schema [.val (mVar 0)]) (mC .non)))
  (sRetO (mLst [(mTup [(mC (.str t46)), (mC (.str t39))])]))
  sNil) tab_AwayError 1 F__law_class)
  (sRetO (mLst [])))
def F__law_checked : Fn := mkFn 1 1 m__law_checked
def m__law_nodes_right : MS :=
  (sSeq (sSet (mCallD F_node_count [.val (mVar 0)]) (gN 1))
  (sSeq (sIf (mOr (mNot (mTruth (mCallD F__law_is_int [.val (mVar 1)]))) (mTest (mO2 oNe (mVar 1) (mO1 oSum (mFz (mLc (mIt itT (mO2 oIx (mVar 0) (mC (.int 1)))) (gN 5) mYes (mO2 oIx (mVar 5) (mC (.int 1))) [5]))))))
  (sRet (mC (.bl false)))
  sNil)
  (sSeq (sFor (mRg1 (mO1 oLen (mO2 oIx (mVar 0) (mC (.int 1))))) (gN 2)
  (sSeq (sSet (mFz (mCallO F__law_nodes [.val (mVar 0), .val (mVar 2)])) (gN 3))
  (sSeq (sIf (mTest (mO2 oNeD (mCallD F_nodes_of [.val (mVar 0), .val (mVar 2)]) (mO1 oTup (mVar 3))))
  (sRet (mC (.bl false)))
  sNil)
  (sFor (mIt itL (mVar 3)) (gN 4)
  (sIf (mOr (mTest (mO2 oNeD (mCallD F_kind_of [.val (mVar 0), .val (mVar 4)]) (mVar 2))) (mNot (mTruth (mCallD F__law_is_int [.val (mCallD F_kind_of [.val (mVar 0), .val (mVar 4)])]))))
  (sRet (mC (.bl false)))
  sNil)))))
  (sRet (mC (.bl true))))))
def F__law_nodes_right : Fn := mkFn 1 5 m__law_nodes_right
def m__law_edges_right : MS :=
  (sSeq (sFor (mRg1 (mO1 oLen (mO2 oIx (mVar 1) (mC (.int 2))))) (gN 2)
  (sIf (mTest (mO2 oNeD (mCallD F_edges_let [.val (mVar 1), .val (mVar 2)]) (mO1 oTup (mFz (mN1 oSortT (mFz (mCallO F__law_let [.val (mVar 1), .val (mVar 2)])))))))
  (sRet (mC (.bl false)))
  sNil))
  (sSeq (sSet (mO1 oSum (mFz (mLc (mIt itT (mO2 oIx (mVar 1) (mC (.int 1)))) (gN 9) mYes (mO2 oIx (mVar 9) (mC (.int 1))) [9]))) (gN 3))
  (sSeq (sFor (mRg1 (mC (.int 8))) (gN 4)
  (sSeq (sSet (mO2 oSub (mCallD F__law_draw [.own 0, .val (mO2 oAdd (mO1 oLen (mO2 oIx (mVar 1) (mC (.int 2)))) (mC (.int 2)))]) (mC (.int 1))) (gN 2))
  (sSeq (sSet (mO2 oSub (mCallD F__law_draw [.own 0, .val (mO2 oAdd (mVar 3) (mC (.int 3)))]) (mC (.int 1))) (gN 5))
  (sSeq (sSet (mCallD F__law_pick [.own 0, .val (mFz (mLst [(mVar 5), (mVar 5), (mO2 oSub (mCallD F__law_draw [.own 0, .val (mO2 oAdd (mVar 3) (mC (.int 3)))]) (mC (.int 1))), (mO1 oNeg (mC (.int 1000000)))]))]) (gN 6))
  (sSeq (sSet (mChain oLe oLt (mC (.int 0)) (mVar 2) (mO1 oLen (mO2 oIx (mVar 1) (mC (.int 2))))) (gN 7))
  (sSeq (sIf (mTruth (mVar 7))
  (sSet (mO2 oInD (mTup [(mVar 5), (mVar 2), (mVar 6)]) (mFz (mCallO F__law_let [.val (mVar 1), .val (mVar 2)]))) (gN 7))
  sNil)
  (sSeq (sSet (mCallD F_is_edge [.val (mVar 1), .val (mTup [(mVar 5), (mVar 2), (mVar 6)])]) (gN 8))
  (sIf (mOr (mTest (mO2 oNe (mVar 8) (mVar 7))) (mNot (mTruth (mO1 oIsB (mVar 8)))))
  (sRet (mC (.bl false)))
  sNil))))))))
  (sRet (mC (.bl true))))))
def F__law_edges_right : Fn := mkFn 2 8 m__law_edges_right
def m__law_names_right : MS :=
  (sSeq (sSet (mFz (mLst [(mC (.str t54)), (mC (.str t53)), (mC (.str t52)), (mC (.str t51)), (mC (.str t50)), (mC (.str t49)), (mC (.str t48)), (mC (.str t47))])) (gN 1))
  (sSeq (sFor (mIt itL (mFz (mLst [(mCallD F__law_odd_name [.own 0, .val (mFz (mLst []))]), (mCallD F__law_pick [.own 0, .val (mVar 1)]), (mO2 oAdd (mCallD F__law_pick [.own 0, .val (mVar 1)]) (mCallD F__law_pick [.own 0, .val (mFz (mLst [(mC (.str t39)), (mC (.str t56)), (mC (.str t29)), (mC (.str t55))]))]))]))) (gN 2)
  (sSeq (sSet (mCallD F_is_name [.val (mVar 2)]) (gN 3))
  (sIf (mOr (mTest (mO2 oNe (mVar 3) (mCallD F__law_name_good [.val (mVar 2)]))) (mNot (mTruth (mO1 oIsB (mVar 3)))))
  (sRet (mC (.bl false)))
  sNil)))
  (sRet (mC (.bl true)))))
def F__law_names_right : Fn := mkFn 1 3 m__law_names_right
def m_law : MS :=
  (sSeq (sSet (mCallD F__law_schema [.own 1, .val (mO2 oAdd (mC (.int 1)) (mCallD F__law_draw [.own 1, .val (mC (.int 3))])), .val (mO2 oAdd (mC (.int 1)) (mCallD F__law_draw [.own 1, .val (mC (.int 4))])), .val (mC (.int 6))]) (gN 2))
  (sSeq (sSetO 3 (mN1 listD (mO2 oIx (mVar 2) (mC (.int 1)))))
  (sSeq (sSetO 4 (mN1 listD (mO2 oIx (mVar 2) (mC (.int 2)))))
  (sSeq (sIf (mTest (mO2 oEq (mCallD F__law_draw [.own 1, .val (mC (.int 5))]) (mC (.int 3))))
  (sPut 3 (mCallD F__law_draw [.own 1, .val (mOwn 3 wLen)]) (mTup [(mC (.str t57)), (mCallD F__law_pick [.own 1, .val (mFz (mLst [(mC (.int 0)), (mC (.int 8)), (mC (.int 11))]))])]))
  sNil)
  (sSeq (sIf (mTest (mO2 oGt (mCallD F__law_draw [.own 1, .val (mC (.int 3))]) (mC (.int 0))))
  (sFor (mRg1 (mO2 oAdd (mC (.int 1)) (mCallD F__law_draw [.own 1, .val (mC (.int 3))]))) (gN 5)
  (sDrop (mCallD F__law_with_fault [.own 1, .own 3, .own 4])))
  sNil)
  (sFrz 3 (sFrz 4 (sSeq (sSet (mCallD F__law_due [.val (mVar 3), .val (mVar 4)]) (gN 6))
  (sSeq (sSet (mFz (mCallO F__law_checked [.val (mTup [(mC (.str t30)), (mO1 oTup (mVar 3)), (mO1 oTup (mVar 4))])])) (gN 7))
  (sSeq (sIf (mTest (mO2 oNoN (mVar 6) (mC .non)))
  (sIf (mOr (mTest (mO2 oNeD (mVar 7) (mFz (mLst [(mVar 6)])))) (mTruth (mO1 oIsB (mO2 oIx (mO2 oIx (mVar 7) (mC (.int 0))) (mC (.int 1))))))
  (sRet (mC (.bl false)))
  sNil)
  (sIf (mTest (mO2 oNeD (mVar 7) (mFz (mLst []))))
  (sRet (mC (.bl false)))
  sNil))
  (sSeq (sIf (mOr (mTest (mO2 oNeD (mFz (mCallO F__law_checked [.val (mVar 2)])) (mFz (mLst [])))) (mNot (mTruth (mCallD F__law_names_right [.own 1]))))
  (sRet (mC (.bl false)))
  sNil)
  (sSeq (sSet (mVar 2) (gN 8))
  (sSeq (sIf (mTest (mO2 oIsN (mVar 6) (mC .non)))
  (sSet (mTup [(mC (.str t30)), (mO1 oTup (mVar 3)), (mO1 oTup (mVar 4))]) (gN 8))
  sNil)
  (sRet (mAndV (mCallD F__law_nodes_right [.val (mVar 8)]) (mCallD F__law_edges_right [.own 1, .val (mVar 8)]))))))))))))))))
end K01

set_option Elab.async false
set_option linter.all false
set_option maxRecDepth 100000
set_option maxHeartbeats 4000000
namespace K01
open PySem PySem.Spec PyProof.Rows L2 Ml
def topS (i : Nat) : Stmt := PySem.Challenge.pw_edgesaway_k01_schemas_checked.main.body.getD i (.Pass ⟨0, 0, 0, 0⟩)
theorem t0_eq : (("abcdefghijklmnopqrstuvwxyz" : Str)) = sOf t0 := by decide +kernel
theorem t1_eq : (("0123456789" : Str)) = sOf t1 := by decide +kernel
theorem t2_eq : (("kind" : Str)) = sOf t2 := by decide +kernel
theorem t3_eq : (("label" : Str)) = sOf t3 := by decide +kernel
theorem t4_eq : (("many" : Str)) = sOf t4 := by decide +kernel
theorem t5_eq : (("single" : Str)) = sOf t5 := by decide +kernel
theorem t6_eq : (("mark" : Str)) = sOf t6 := by decide +kernel
theorem t7_eq : (("firm" : Str)) = sOf t7 := by decide +kernel
theorem t8_eq : (("edge" : Str)) = sOf t8 := by decide +kernel
theorem t9_eq : (("find" : Str)) = sOf t9 := by decide +kernel
theorem t10_eq : (("way" : Str)) = sOf t10 := by decide +kernel
theorem t11_eq : (("and" : Str)) = sOf t11 := by decide +kernel
theorem t12_eq : (("or" : Str)) = sOf t12 := by decide +kernel
theorem t13_eq : (("not" : Str)) = sOf t13 := by decide +kernel
theorem t14_eq : (("stay" : Str)) = sOf t14 := by decide +kernel
theorem t15_eq : (("at" : Str)) = sOf t15 := by decide +kernel
theorem t16_eq : (("kinds" : Str)) = sOf t16 := by decide +kernel
theorem t17_eq : (("TooLarge" : Str)) = sOf t17 := by decide +kernel
theorem t18_eq : (("part" : Str)) = sOf t18 := by decide +kernel
theorem t19_eq : (("labels" : Str)) = sOf t19 := by decide +kernel
theorem t20_eq : (("BadNumber" : Str)) = sOf t20 := by decide +kernel
theorem t21_eq : (("number" : Str)) = sOf t21 := by decide +kernel
theorem t22_eq : (("nodes" : Str)) = sOf t22 := by decide +kernel
theorem t23_eq : (("BadName" : Str)) = sOf t23 := by decide +kernel
theorem t24_eq : (("name" : Str)) = sOf t24 := by decide +kernel
theorem t25_eq : (("Twice" : Str)) = sOf t25 := by decide +kernel
theorem t26_eq : (("BadRule" : Str)) = sOf t26 := by decide +kernel
theorem t27_eq : (("a b2 town road r k0 seat z9z full tail n m8 aa busy shop p t4 even2 ab1 ship u v2 w lane high mid " : Str)) = sOf t27 := by decide +kernel
theorem t28_eq : (("s t e f g h j x y q7 deep turn gate l5 hold next1 c0 d2 two zz1 near far9 last ring2 aaaaaaa8" : Str)) = sOf t28 := by decide +kernel
theorem t29_eq : ((" " : Str)) = sOf t29 := by decide +kernel
theorem t30_eq : (("schema" : Str)) = sOf t30 := by decide +kernel
theorem t31_eq : (("-" : Str)) = sOf t31 := by decide +kernel
theorem t32_eq : (("z" : Str)) = sOf t32 := by decide +kernel
theorem t33_eq : (("q7Q" : Str)) = sOf t33 := by decide +kernel
theorem t34_eq : (("a b" : Str)) = sOf t34 := by decide +kernel
theorem t35_eq : (("a_b" : Str)) = sOf t35 := by decide +kernel
theorem t36_eq : (("aaaaaaaaa" : Str)) = sOf t36 := by decide +kernel
theorem t37_eq : (("9a" : Str)) = sOf t37 := by decide +kernel
theorem t38_eq : (("Town" : Str)) = sOf t38 := by decide +kernel
theorem t39_eq : (("" : Str)) = sOf t39 := by decide +kernel
theorem t40_eq : (("kind label many single mark firm edge find way and or not stay at" : Str)) = sOf t40 := by decide +kernel
theorem t41_eq : (("Mark" : Str)) = sOf t41 := by decide +kernel
theorem t42_eq : (("some" : Str)) = sOf t42 := by decide +kernel
theorem t43_eq : (("w" : Str)) = sOf t43 := by decide +kernel
theorem t44_eq : (("xyz" : Str)) = sOf t44 := by decide +kernel
theorem t45_eq : (("v" : Str)) = sOf t45 := by decide +kernel
theorem t46_eq : (("odd" : Str)) = sOf t46 := by decide +kernel
theorem t47_eq : (("b9999999" : Str)) = sOf t47 := by decide +kernel
theorem t48_eq : (("ways" : Str)) = sOf t48 := by decide +kernel
theorem t49_eq : (("and1" : Str)) = sOf t49 := by decide +kernel
theorem t50_eq : (("road" : Str)) = sOf t50 := by decide +kernel
theorem t51_eq : (("a1" : Str)) = sOf t51 := by decide +kernel
theorem t52_eq : (("abcdefgh" : Str)) = sOf t52 := by decide +kernel
theorem t53_eq : (("a" : Str)) = sOf t53 := by decide +kernel
theorem t54_eq : (("town" : Str)) = sOf t54 := by decide +kernel
theorem t55_eq : (("A" : Str)) = sOf t55 := by decide +kernel
theorem t56_eq : (("x" : Str)) = sOf t56 := by decide +kernel
theorem t57_eq : (("gone0" : Str)) = sOf t57 := by decide +kernel
abbrev NL : List Str := ["name", "number", "part"]
section
variable {P : Program} {w : World} {K : PySem.W.Frag} {mg : Str → Option Value} {base : Heap}
theorem sc_BadName : FnScope ["self", "name"] ["self", "name"] (defScope (initS (topS 4))) := ⟨rfl, rfl, rfl, by decide +kernel, rfl, by decide +kernel, by decide +kernel⟩
theorem sc_BadNumber : FnScope ["self", "number"] ["self", "number"] (defScope (initS (topS 6))) := ⟨rfl, rfl, rfl, by decide +kernel, rfl, by decide +kernel, by decide +kernel⟩
theorem sc_BadRule : FnScope ["self", "name"] ["self", "name"] (defScope (initS (topS 7))) := ⟨rfl, rfl, rfl, by decide +kernel, rfl, by decide +kernel, by decide +kernel⟩
theorem sc_TooLarge : FnScope ["self", "part"] ["self", "part"] (defScope (initS (topS 9))) := ⟨rfl, rfl, rfl, by decide +kernel, rfl, by decide +kernel, by decide +kernel⟩
theorem sc_Twice : FnScope ["self", "name"] ["self", "name"] (defScope (initS (topS 5))) := ⟨rfl, rfl, rfl, by decide +kernel, rfl, by decide +kernel, by decide +kernel⟩
abbrev s_is_name : Stmt := topS 20
abbrev N_is_name : List Str := ["text", "sign"]
theorem sc_is_name : FnScope N_is_name ["text"] (defScope (topS 20)) := ⟨rfl, rfl, rfl, by decide +kernel, rfl, by decide +kernel, by decide +kernel⟩
theorem cl_is_name (M : Mg K mg) (D : DefK K "is_name" s_is_name) (z_len : FreeK K "len") (c_DIGITS : ConK K "DIGITS" (.str ("0123456789" : Str))) (c_LETTERS : ConK K "LETTERS" (.str ("abcdefghijklmnopqrstuvwxyz" : Str))) (c_LONGEST_NAME : ConK K "LONGEST_NAME" (.int 8)) (c_RESERVED : ConT K "RESERVED" (.tup [.str t2, .str t3, .str t4, .str t5, .str t6, .str t7, .str t8, .str t9, .str t10, .str t11, .str t12, .str t13, .str t14, .str t15])) : Kept P w K mg base CX0 1 "is_name" (spM K (REk K) F_is_name) := by
  obtain ⟨v_RESERVED, g_RESERVED, r_RESERVED⟩ := c_RESERVED
  refine cl_of (k := 0) D M (fun _ _ _ _ _ _ us hl => match us, hl with | [_], _ => rfl) sc_is_name rfl rfl rfl fun f cdv A outer s H E hr => ?_
  have nd := sc_is_name.nd
  refine ⟨?A, _, (pss_cons (ps_if (PW.pt (pw_or (pt_not (pt_chain op_le op_le pe_int (pe_callB (id := "len") (lenK (K := K) rfl) (by rfl) (M.free z_len) (by decide +kernel) (pa_cons (pv 0) pa_nil)) (C8.pe_gc rfl (M.con c_LONGEST_NAME)))) (pw_or1 (pt_cmpR op_notIn_sign (pe_ix (ixK (K := K) rfl) (pv 0) pe_int (fun _ _ => rfl)) (C8.pe_gc rfl (M.con c_LETTERS)) (by rfl))))) (pss_one (ps_ret pe_bl)) pss_nil)
      (pss_cons (ps_for PassesOwn.never rfl (pi_str (pv 0)) (pg_name (i := 1) nd rfl (Or.inl rfl))
      (pss_one (ps_if (PW.pt (pw_and (pt_cmpR op_notIn_sign (pv 1) (C8.pe_gc rfl (M.con c_LETTERS)) (by rfl)) (pw_and1 (pt_cmpR op_notIn_sign (pv 1) (C8.pe_gc rfl (M.con c_DIGITS)) (by rfl))))) (pss_one (ps_ret pe_bl)) pss_nil)))
      (pss_one (ps_ret (pe_cmpR (niK (K := K) rfl) (pv 0) (C8.pe_gc rfl (M.con g_RESERVED)) (by rfl)))))), fun sc Hs Ps => ?z⟩
  case z => exact (ss_seq (ss_if (st_or (st_not (st_test (se_chain rv_le rv_le se_i (se_cb1 (r1_len rfl) se_var) se_i))) (st_test (se_op rv_niS (se_op (rv_ix rfl) se_var se_i) (se_s t0_eq)))) (ss_ret se_b) ss_nil)
      (ss_seq (ss_for (si_str se_var) sg_name
      (ss_if (st_and (st_test (se_op rv_niS se_var (se_s t0_eq))) (st_test (se_op rv_niS se_var (se_s t1_eq)))) (ss_ret se_b) ss_nil))
      (ss_ret (se_op (rv_ni rfl) se_var (se_k (C := ⟨K, sc, H, Ps, Hs, (fun c od _ H => E c od H), REk K⟩) (fun Hs => r_RESERVED _ Hs))))))
abbrev s_check_label : Stmt := topS 23
abbrev N_check_label : List Str := ["label", "kind_count", "name", "source", "target", "price", "rule", "kind"]
theorem sc_check_label : FnScope N_check_label ["label", "kind_count"] (defScope (topS 23)) := ⟨rfl, rfl, rfl, by decide +kernel, rfl, by decide +kernel, by decide +kernel⟩
theorem cl_check_label (M : Mg K mg) (D : DefK K "check_label" s_check_label) {C_BadNumber : Addr} (e_BadNumber : ErrC P w K mg base NL "BadNumber" "number" C_BadNumber) {C_BadRule : Addr} (e_BadRule : ErrC P w K mg base NL "BadRule" "name" C_BadRule) (c_MOST_PRICE : ConK K "MOST_PRICE" (.int 9)) (c_RULES : ConT K "RULES" (.tup [.str t4, .str t5, .str t6])) : Kept P w K mg base (L2.CX P w) 3 "check_label" (spM K (REk K) F_check_label) := by
  obtain ⟨v_RULES, g_RULES, r_RULES⟩ := c_RULES
  refine cl_ofX (k := 2) D M (fun _ _ _ _ _ _ us hl => match us, hl with | [_, _], _ => rfl) sc_check_label rfl rfl rfl fun f cdv A outer s H E hr tk po => ?_
  have nd := sc_check_label.nd
  refine ⟨?A, _, (pss_cons (ps_asg (pv 0) (pg_tupK (K := K) (n := 5) rfl rfl (pgs_cons (pg_name (i := 2) nd rfl (Or.inl rfl)) (pgs_cons (pg_name (i := 3) nd rfl (Or.inl rfl)) (pgs_cons (pg_name (i := 4) nd rfl (Or.inl rfl)) (pgs_cons (pg_name (i := 5) nd rfl (Or.inl rfl)) (pgs_cons (pg_name (i := 6) nd rfl (Or.inl rfl)) pgs_nil)))))))
      (pss_cons (ps_for po rfl (pi_tupK (K := K) rfl (pe_tup (pa_cons (pv 3) (pa_cons (pv 4) pa_nil)))) (pg_name (i := 7) nd rfl (Or.inl rfl))
      (pss_one (ps_if (pt_not (pt_chain op_le op_lt pe_int (pv 7) (pv 1))) (pss_one (ps_raiseE rfl tk e_BadNumber (hr.mono (by decide)) (by rfl) (pv 7))) pss_nil)))
      (pss_cons (ps_if (pt_not (pt_chain op_le op_le pe_int (pv 5) (C8.pe_gc rfl (M.con c_MOST_PRICE)))) (pss_one (ps_raiseE rfl tk e_BadNumber (hr.mono (by decide)) (by rfl) (pv 5))) pss_nil)
      (pss_one (ps_if (PW.pt (pw_or (pt_cmpR (niK (K := K) rfl) (pv 6) (C8.pe_gc rfl (M.con g_RULES)) (by rfl)) (pw_or1 (PW.pt (pw_and (pt_cmpR op_eq (pv 6) pe_str (nomark _)) (pw_and1 (pt_cmpR op_ne (pv 3) (pv 4) (nomark _)))))))) (pss_one (ps_raiseE rfl tk e_BadRule (hr.mono (by decide)) (by rfl) (pv 2))) pss_nil))))), fun sc Hs Ps => ?z⟩
  case z => exact (ss_seq (ss_set se_var (sg_tup (sgs_cons sg_name (sgs_cons sg_name (sgs_cons sg_name (sgs_cons sg_name (sgs_cons sg_name sgs_nil)))))))
      (ss_seq (ss_for (si_tup rfl (se_tup (sa_cons se_var (sa_cons se_var sa_nil)))) sg_name
      (ss_if (st_not (st_test (se_chain rv_le rv_lt se_i se_var se_var))) (ss_raise (C := ⟨K, sc, H, Ps, Hs, (fun c od _ H => E c od H), REk K⟩) rfl rfl t20_eq t21_eq e_BadNumber se_var) ss_nil))
      (ss_seq (ss_if (st_not (st_test (se_chain rv_le rv_le se_i se_var se_i))) (ss_raise (C := ⟨K, sc, H, Ps, Hs, (fun c od _ H => E c od H), REk K⟩) rfl rfl t20_eq t21_eq e_BadNumber se_var) ss_nil)
      (ss_if (st_or (st_test (se_op (rv_ni rfl) se_var (se_k (C := ⟨K, sc, H, Ps, Hs, (fun c od _ H => E c od H), REk K⟩) (fun Hs => r_RULES _ Hs)))) (st_and (st_test (se_op rv_eq se_var (se_s t6_eq))) (st_test (se_op rv_ne se_var se_var)))) (ss_raise (C := ⟨K, sc, H, Ps, Hs, (fun c od _ H => E c od H), REk K⟩) rfl rfl t26_eq t24_eq e_BadRule se_var) ss_nil))))
abbrev s_check_new_name : Stmt := topS 22
abbrev N_check_new_name : List Str := ["names", "name"]
theorem sc_check_new_name : FnScope N_check_new_name ["names", "name"] (defScope (topS 22)) := ⟨rfl, rfl, rfl, by decide +kernel, rfl, by decide +kernel, by decide +kernel⟩
theorem cl_check_new_name (M : Mg K mg) (D : DefK K "check_new_name" s_check_new_name) (k_is_name : Kept P w K mg base CX0 1 "is_name" (spM K (REk K) F_is_name)) {C_BadName : Addr} (e_BadName : ErrC P w K mg base NL "BadName" "name" C_BadName) {C_Twice : Addr} (e_Twice : ErrC P w K mg base NL "Twice" "name" C_Twice) : Kept P w K mg base (L2.CX P w) 3 "check_new_name" (spM K (REk K) F_check_new_name) := by
  refine cl_ofX (k := 2) D M (fun _ _ _ _ _ _ us hl => match us, hl with | [_, _], _ => rfl) sc_check_new_name rfl rfl rfl fun f cdv A outer s H E hr tk po => ?_
  have nd := sc_check_new_name.nd
  refine ⟨?A, _, (pss_cons (ps_if (pt_not (pt_tr (K := K) rfl (pe_clS k_is_name hr (by decide) (by rfl) (pass0S (E := L2.WE (fun c od _ H => E c od H))) (pa_cons (pv 1) pa_nil)) (by intro _; rfl))) (pss_one (ps_raiseE rfl tk e_BadName (hr.mono (by decide)) (by rfl) (pv 1))) pss_nil)
      (pss_one (ps_if (pt_cmpR (inK (K := K) rfl) (pv 1) (pv 0) (by rfl)) (pss_one (ps_raiseE rfl tk e_Twice (hr.mono (by decide)) (by rfl) (pv 1))) pss_nil))), fun sc Hs Ps => ?z⟩
  case z => exact (ss_seq (ss_if (st_not (st_truth rfl (se_call (sm_val se_var sm_nil)))) (ss_raise (C := ⟨K, sc, H, Ps, Hs, (fun c od _ H => E c od H), REk K⟩) rfl rfl t23_eq t24_eq e_BadName se_var) ss_nil)
      (ss_if (st_test (se_inO (neg := false) rfl se_var)) (ss_raise (C := ⟨K, sc, H, Ps, Hs, (fun c od _ H => E c od H), REk K⟩) rfl rfl t25_eq t24_eq e_Twice se_var) ss_nil))
abbrev s_node_count : Stmt := topS 24
abbrev N_node_count : List Str := ["schema", "_", "many"]
theorem sc_node_count : FnScope N_node_count ["schema"] (defScope (topS 24)) := ⟨rfl, rfl, rfl, by decide +kernel, rfl, by decide +kernel, by decide +kernel⟩
theorem cl_node_count (M : Mg K mg) (D : DefK K "node_count" s_node_count) (z_sum : FreeK K "sum") : Kept P w K mg base CX0 1 "node_count" (spM K (REk K) F_node_count) := by
  refine cl_of (k := 0) D M (fun _ _ _ _ _ _ us hl => match us, hl with | [_], _ => rfl) sc_node_count rfl rfl rfl fun f cdv A outer s H E hr => ?_
  have nd := sc_node_count.nd
  refine ⟨?A, _, (pss_one (ps_ret (pe_callB (id := "sum") (sumK (K := K) rfl rfl) (by rfl) (M.free z_sum) (by decide +kernel) (pa_cons (pe_lc (own := [("_", 1), ("many", 2)]) rfl nd (pi_tupK (K := K) rfl (pe_ix (ixK (K := K) rfl) (pv 0) pe_int (fun _ _ => rfl))) (blkOk_by (N := N_node_count) (sc := defScope s_node_count) (by decide +kernel)) (fun _ _ _ _ _ => (pg_tupK (K := K) (n := 2) rfl rfl (pgs_cons (pg_name (i := 1) nd rfl (Or.inl rfl)) (pgs_cons (pg_name (i := 2) nd rfl (Or.inl rfl)) pgs_nil)))) (fun _ _ _ _ _ => pts_nil) (fun _ _ _ _ _ => (pv 2))) pa_nil)))), fun sc Hs Ps => ?z⟩
  case z => exact (ss_ret (se_cb1 (r1_sum rfl) (se_fz (seo_lc (A := [1, 2]) (vs := [1, 2]) (si_tup rfl (se_op (rv_ix rfl) se_var se_i)) (sg_tup (sgs_cons sg_name (sgs_cons sg_name sgs_nil))) st_yes se_var))))
abbrev s_check_schema : Stmt := topS 21
abbrev N_check_schema : List Str := ["schema", "kinds", "labels", "names", "name", "many", "label"]
theorem sc_check_schema : FnScope N_check_schema ["schema"] (defScope (topS 21)) := ⟨rfl, rfl, rfl, by decide +kernel, rfl, by decide +kernel, by decide +kernel⟩
theorem cl_check_schema (M : Mg K mg) (D : DefK K "check_schema" s_check_schema) (k_check_label : Kept P w K mg base (L2.CX P w) 3 "check_label" (spM K (REk K) F_check_label)) (k_check_new_name : Kept P w K mg base (L2.CX P w) 3 "check_new_name" (spM K (REk K) F_check_new_name)) (k_node_count : Kept P w K mg base CX0 1 "node_count" (spM K (REk K) F_node_count)) {C_BadNumber : Addr} (e_BadNumber : ErrC P w K mg base NL "BadNumber" "number" C_BadNumber) {C_TooLarge : Addr} (e_TooLarge : ErrC P w K mg base NL "TooLarge" "part" C_TooLarge) (z_len : FreeK K "len") (c_MOST_KINDS : ConK K "MOST_KINDS" (.int 6)) (c_MOST_LABELS : ConK K "MOST_LABELS" (.int 12)) (c_MOST_NODES : ConK K "MOST_NODES" (.int 24)) : Kept P w K mg base (L2.CX P w) 4 "check_schema" (spM K (REk K) F_check_schema) := by
  refine cl_ofX (k := 3) D M (fun _ _ _ _ _ _ us hl => match us, hl with | [_], _ => rfl) sc_check_schema rfl rfl rfl fun f cdv A outer s H E hr tk po => ?_
  have nd := sc_check_schema.nd
  refine ⟨?A, _, (pss_cons (ps_set (i := 1) nd rfl (Or.inl rfl) (pe_ix (ixK (K := K) rfl) (pv 0) pe_int (fun _ _ => rfl)))
      (pss_cons (ps_set (i := 2) nd rfl (Or.inl rfl) (pe_ix (ixK (K := K) rfl) (pv 0) pe_int (fun _ _ => rfl)))
      (pss_cons (ps_if (pt_cmpR op_gt (pe_callB (id := "len") (lenK (K := K) rfl) (by rfl) (M.free z_len) (by decide +kernel) (pa_cons (pv 1) pa_nil)) (C8.pe_gc rfl (M.con c_MOST_KINDS)) (nomark _)) (pss_one (ps_raiseE rfl tk e_TooLarge (hr.mono (by decide)) (by rfl) pe_str)) pss_nil)
      (pss_cons (ps_if (pt_cmpR op_gt (pe_callB (id := "len") (lenK (K := K) rfl) (by rfl) (M.free z_len) (by decide +kernel) (pa_cons (pv 2) pa_nil)) (C8.pe_gc rfl (M.con c_MOST_LABELS)) (nomark _)) (pss_one (ps_raiseE rfl tk e_TooLarge (hr.mono (by decide)) (by rfl) pe_str)) pss_nil)
      (pss_cons (ps_set (i := 3) nd rfl (Or.inl rfl) (pe_lst pa_nil))
      (pss_cons (ps_for po rfl (pi_tupK (K := K) rfl (pv 1)) (pg_tupK (K := K) (n := 2) rfl rfl (pgs_cons (pg_name (i := 4) nd rfl (Or.inl rfl)) (pgs_cons (pg_name (i := 5) nd rfl (Or.inl rfl)) pgs_nil)))
      (pss_cons (ps_expr (pe_clS k_check_new_name hr (by decide) (by rfl) (fun σ => passAt tk σ) (pa_cons (pv 3) (pa_cons (pv 4) pa_nil))))
      (pss_cons (ps_if (pt_not (pt_chain op_le op_le pe_int (pv 5) (C8.pe_gc rfl (M.con c_MOST_NODES)))) (pss_one (ps_raiseE rfl tk e_BadNumber (hr.mono (by decide)) (by rfl) (pv 5))) pss_nil)
      (pss_one (ps_expr (pe_bm PySem.F.plainAttrs_list PySem.F.slot_list_append PySem.F.type_list_append mt_append (pv 3) (pa_cons (pv 4) pa_nil)))))))
      (pss_cons (ps_for po rfl (pi_tupK (K := K) rfl (pv 2)) (pg_name (i := 6) nd rfl (Or.inl rfl))
      (pss_cons (ps_expr (pe_clS k_check_new_name hr (by decide) (by rfl) (fun σ => passAt tk σ) (pa_cons (pv 3) (pa_cons (pe_ix (ixK (K := K) rfl) (pv 6) pe_int (fun _ _ => rfl)) pa_nil))))
      (pss_cons (ps_expr (pe_clS k_check_label hr (by decide) (by rfl) (fun σ => passAt tk σ) (pa_cons (pv 6) (pa_cons (pe_callB (id := "len") (lenK (K := K) rfl) (by rfl) (M.free z_len) (by decide +kernel) (pa_cons (pv 1) pa_nil)) pa_nil))))
      (pss_one (ps_expr (pe_bm PySem.F.plainAttrs_list PySem.F.slot_list_append PySem.F.type_list_append mt_append (pv 3) (pa_cons (pe_ix (ixK (K := K) rfl) (pv 6) pe_int (fun _ _ => rfl)) pa_nil)))))))
      (pss_one (ps_if (pt_cmpR op_gt (pe_clS k_node_count hr (by decide) (by rfl) (pass0S (E := L2.WE (fun c od _ H => E c od H))) (pa_cons (pv 0) pa_nil)) (C8.pe_gc rfl (M.con c_MOST_NODES)) (nomark _)) (pss_one (ps_raiseE rfl tk e_TooLarge (hr.mono (by decide)) (by rfl) pe_str)) pss_nil))))))))), fun sc Hs Ps => ?z⟩
  case z => exact (ss_seq (ss_set (se_op (rv_ix rfl) se_var se_i) sg_name)
      (ss_seq (ss_set (se_op (rv_ix rfl) se_var se_i) sg_name)
      (ss_seq (ss_if (st_test (se_op rv_gt (se_cb1 (r1_len rfl) se_var) se_i)) (ss_raise (C := ⟨K, sc, H, Ps, Hs, (fun c od _ H => E c od H), REk K⟩) rfl rfl t17_eq t18_eq e_TooLarge (se_s t16_eq)) ss_nil)
      (ss_seq (ss_if (st_test (se_op rv_gt (se_cb1 (r1_len rfl) se_var) se_i)) (ss_raise (C := ⟨K, sc, H, Ps, Hs, (fun c od _ H => E c od H), REk K⟩) rfl rfl t17_eq t18_eq e_TooLarge (se_s t19_eq)) ss_nil)
      (ss_seq (ss_setO (seo_lst sa_nil))
      (ss_seq (ss_for (si_tup rfl se_var) (sg_tup (sgs_cons sg_name (sgs_cons sg_name sgs_nil)))
      (ss_seq (ss_drop (se_call (sm_own (sm_val se_var sm_nil))))
      (ss_seq (ss_if (st_not (st_test (se_chain rv_le rv_le se_i se_var se_i))) (ss_raise (C := ⟨K, sc, H, Ps, Hs, (fun c od _ H => E c od H), REk K⟩) rfl rfl t20_eq t21_eq e_BadNumber se_var) ss_nil)
      (ss_app se_var))))
      (ss_seq (ss_for (si_tup rfl se_var) sg_name
      (ss_seq (ss_drop (se_call (sm_own (sm_val (se_op (rv_ix rfl) se_var se_i) sm_nil))))
      (ss_seq (ss_drop (se_call (sm_val se_var (sm_val (se_cb1 (r1_len rfl) se_var) sm_nil))))
      (ss_app (se_op (rv_ix rfl) se_var se_i)))))
      (ss_if (st_test (se_op rv_gt (se_call (sm_val se_var sm_nil)) se_i)) (ss_raise (C := ⟨K, sc, H, Ps, Hs, (fun c od _ H => E c od H), REk K⟩) rfl rfl t17_eq t18_eq e_TooLarge (se_s t22_eq)) ss_nil))))))))
abbrev s_first_node : Stmt := topS 25
abbrev N_first_node : List Str := ["schema", "kind", "_", "many"]
theorem sc_first_node : FnScope N_first_node ["schema", "kind"] (defScope (topS 25)) := ⟨rfl, rfl, rfl, by decide +kernel, rfl, by decide +kernel, by decide +kernel⟩
theorem cl_first_node (M : Mg K mg) (D : DefK K "first_node" s_first_node) (z_sum : FreeK K "sum") : Kept P w K mg base CX0 1 "first_node" (spM K (REk K) F_first_node) := by
  refine cl_of (k := 0) D M (fun _ _ _ _ _ _ us hl => match us, hl with | [_, _], _ => rfl) sc_first_node rfl rfl rfl fun f cdv A outer s H E hr => ?_
  have nd := sc_first_node.nd
  refine ⟨?A, _, (pss_one (ps_ret (pe_callB (id := "sum") (sumK (K := K) rfl rfl) (by rfl) (M.free z_sum) (by decide +kernel) (pa_cons (pe_lc (own := [("_", 2), ("many", 3)]) rfl nd (pi_tupK (K := K) rfl (pe_slice (slaK (K := K) rfl) (pe_ix (ixK (K := K) rfl) (pv 0) pe_int (fun _ _ => rfl)) po_none (po_some (pv 1)))) (blkOk_by (N := N_first_node) (sc := defScope s_first_node) (by decide +kernel)) (fun _ _ _ _ _ => (pg_tupK (K := K) (n := 2) rfl rfl (pgs_cons (pg_name (i := 2) nd rfl (Or.inl rfl)) (pgs_cons (pg_name (i := 3) nd rfl (Or.inl rfl)) pgs_nil)))) (fun _ _ _ _ _ => pts_nil) (fun _ _ _ _ _ => (pv 3))) pa_nil)))), fun sc Hs Ps => ?z⟩
  case z => exact (ss_ret (se_cb1 (r1_sum rfl) (se_fz (seo_lc (A := [2, 3]) (vs := [2, 3]) (si_tup rfl (se_slT rfl (se_op (rv_ix rfl) se_var se_i) so_none (so_some se_var))) (sg_tup (sgs_cons sg_name (sgs_cons sg_name sgs_nil))) st_yes se_var))))
abbrev s_nodes_of : Stmt := topS 26
abbrev N_nodes_of : List Str := ["schema", "kind", "first"]
theorem sc_nodes_of : FnScope N_nodes_of ["schema", "kind"] (defScope (topS 26)) := ⟨rfl, rfl, rfl, by decide +kernel, rfl, by decide +kernel, by decide +kernel⟩
theorem cl_nodes_of (M : Mg K mg) (D : DefK K "nodes_of" s_nodes_of) (k_first_node : Kept P w K mg base CX0 1 "first_node" (spM K (REk K) F_first_node)) (z_range : FreeK K "range") (z_tuple : FreeK K "tuple") : Kept P w K mg base CX0 2 "nodes_of" (spM K (REk K) F_nodes_of) := by
  refine cl_of (k := 1) D M (fun _ _ _ _ _ _ us hl => match us, hl with | [_, _], _ => rfl) sc_nodes_of rfl rfl rfl fun f cdv A outer s H E hr => ?_
  have nd := sc_nodes_of.nd
  refine ⟨?A, _, (pss_cons (ps_set (i := 2) nd rfl (Or.inl rfl) (pe_clS k_first_node hr (by decide) (by rfl) (pass0S (E := L2.WE (fun c od _ H => E c od H))) (pa_cons (pv 0) (pa_cons (pv 1) pa_nil))))
      (pss_one (ps_ret (pe_tupRg rfl (by rfl) (M.free z_tuple) (prg_2 (by rfl) (M.free z_range) (pv 2) (pe_op (op_add.or op_add_str) (pv 2) (pe_ix (ixK (K := K) rfl) (pe_ix (ixK (K := K) rfl) (pe_ix (ixK (K := K) rfl) (pv 0) pe_int (fun _ _ => rfl)) (pv 1) (fun _ _ => rfl)) pe_int (fun _ _ => rfl)))))))), fun sc Hs Ps => ?z⟩
  case z => exact (ss_seq (ss_set (se_call (sm_val se_var (sm_val se_var sm_nil))) sg_name)
      (ss_ret (se_tupR (sr_2 se_var (se_op rv_add se_var (se_op (rv_ix rfl) (se_op (rv_ix rfl) (se_op (rv_ix rfl) se_var se_i) se_var) se_i))))))
abbrev s_kind_of : Stmt := topS 27
abbrev N_kind_of : List Str := ["schema", "node", "behind", "kind", "_", "many"]
theorem sc_kind_of : FnScope N_kind_of ["schema", "node"] (defScope (topS 27)) := ⟨rfl, rfl, rfl, by decide +kernel, rfl, by decide +kernel, by decide +kernel⟩
theorem cl_kind_of (M : Mg K mg) (D : DefK K "kind_of" s_kind_of) (z_enumerate : FreeK K "enumerate") : Kept P w K mg base CX0 1 "kind_of" (spM K (REk K) F_kind_of) := by
  refine cl_of (k := 0) D M (fun _ _ _ _ _ _ us hl => match us, hl with | [_, _], _ => rfl) sc_kind_of rfl rfl rfl fun f cdv A outer s H E hr => ?_
  have nd := sc_kind_of.nd
  refine ⟨?A, _, (pss_cons (ps_if (pt_cmpR op_lt (pv 1) pe_int (nomark _)) (pss_one (ps_ret pe_non)) pss_nil)
      (pss_cons (ps_set (i := 2) nd rfl (Or.inl rfl) pe_int)
      (pss_cons (ps_for PassesOwn.never rfl (pi_enumT (by rfl) (M.free z_enumerate) (pa_cons (pe_ix (ixK (K := K) rfl) (pv 0) pe_int (fun _ _ => rfl)) pa_nil)) (pg_tupK (K := K) (n := 2) rfl rfl (pgs_cons (pg_name (i := 3) nd rfl (Or.inl rfl)) (pgs_cons (pg_tupK (K := K) (n := 2) rfl rfl (pgs_cons (pg_name (i := 4) nd rfl (Or.inl rfl)) (pgs_cons (pg_name (i := 5) nd rfl (Or.inl rfl)) pgs_nil))) pgs_nil)))
      (pss_cons (ps_aug (i := 2) nd rfl (Or.inl rfl) (pv 5) ip_add)
      (pss_one (ps_if (pt_cmpR op_lt (pv 1) (pv 2) (nomark _)) (pss_one (ps_ret (pv 3))) pss_nil))))
      (pss_one (ps_ret pe_non))))), fun sc Hs Ps => ?z⟩
  case z => exact (ss_seq (ss_if (st_test (se_op rv_lt se_var se_i)) (ss_ret se_n) ss_nil)
      (ss_seq (ss_set se_i sg_name)
      (ss_seq (ss_for (si_enumT rfl (se_op (rv_ix rfl) se_var se_i)) (sg_tup (sgs_cons sg_name (sgs_cons (sg_tup (sgs_cons sg_name (sgs_cons sg_name sgs_nil))) sgs_nil)))
      (ss_seq (ss_aug rv_ipadd se_var)
      (ss_if (st_test (se_op rv_lt se_var se_var)) (ss_ret se_var) ss_nil)))
      (ss_ret se_n))))
abbrev s_label_kinds : Stmt := topS 28
abbrev N_label_kinds : List Str := ["schema", "label"]
theorem sc_label_kinds : FnScope N_label_kinds ["schema", "label"] (defScope (topS 28)) := ⟨rfl, rfl, rfl, by decide +kernel, rfl, by decide +kernel, by decide +kernel⟩
theorem cl_label_kinds (M : Mg K mg) (D : DefK K "label_kinds" s_label_kinds)  : Kept P w K mg base CX0 1 "label_kinds" (spM K (REk K) F_label_kinds) := by
  refine cl_of (k := 0) D M (fun _ _ _ _ _ _ us hl => match us, hl with | [_, _], _ => rfl) sc_label_kinds rfl rfl rfl fun f cdv A outer s H E hr => ?_
  have nd := sc_label_kinds.nd
  refine ⟨?A, _, (pss_one (ps_ret (pe_slice (slaK (K := K) rfl) (pe_ix (ixK (K := K) rfl) (pe_ix (ixK (K := K) rfl) (pv 0) pe_int (fun _ _ => rfl)) (pv 1) (fun _ _ => rfl)) (po_some pe_int) (po_some pe_int)))), fun sc Hs Ps => ?z⟩
  case z => exact (ss_ret (se_slT rfl (se_op (rv_ix rfl) (se_op (rv_ix rfl) se_var se_i) se_var) (so_some se_i) (so_some se_i)))
abbrev s_is_mark : Stmt := topS 29
abbrev N_is_mark : List Str := ["schema", "label"]
theorem sc_is_mark : FnScope N_is_mark ["schema", "label"] (defScope (topS 29)) := ⟨rfl, rfl, rfl, by decide +kernel, rfl, by decide +kernel, by decide +kernel⟩
theorem cl_is_mark (M : Mg K mg) (D : DefK K "is_mark" s_is_mark)  : Kept P w K mg base CX0 1 "is_mark" (spM K (REk K) F_is_mark) := by
  refine cl_of (k := 0) D M (fun _ _ _ _ _ _ us hl => match us, hl with | [_, _], _ => rfl) sc_is_mark rfl rfl rfl fun f cdv A outer s H E hr => ?_
  have nd := sc_is_mark.nd
  refine ⟨?A, _, (pss_one (ps_ret (pe_cmpR op_eq (pe_ix (ixK (K := K) rfl) (pe_ix (ixK (K := K) rfl) (pe_ix (ixK (K := K) rfl) (pv 0) pe_int (fun _ _ => rfl)) (pv 1) (fun _ _ => rfl)) pe_int (fun _ _ => rfl)) pe_str (nomark _)))), fun sc Hs Ps => ?z⟩
  case z => exact (ss_ret (se_op rv_eq (se_op (rv_ix rfl) (se_op (rv_ix rfl) (se_op (rv_ix rfl) se_var se_i) se_var) se_i) (se_s t6_eq)))
abbrev s_is_edge : Stmt := topS 30
abbrev N_is_edge : List Str := ["schema", "edge", "source", "label", "target"]
theorem sc_is_edge : FnScope N_is_edge ["schema", "edge"] (defScope (topS 30)) := ⟨rfl, rfl, rfl, by decide +kernel, rfl, by decide +kernel, by decide +kernel⟩
theorem cl_is_edge (M : Mg K mg) (D : DefK K "is_edge" s_is_edge) (k_is_mark : Kept P w K mg base CX0 1 "is_mark" (spM K (REk K) F_is_mark)) (k_kind_of : Kept P w K mg base CX0 1 "kind_of" (spM K (REk K) F_kind_of)) (k_label_kinds : Kept P w K mg base CX0 1 "label_kinds" (spM K (REk K) F_label_kinds)) (z_len : FreeK K "len") : Kept P w K mg base CX0 2 "is_edge" (spM K (REk K) F_is_edge) := by
  refine cl_of (k := 1) D M (fun _ _ _ _ _ _ us hl => match us, hl with | [_, _], _ => rfl) sc_is_edge rfl rfl rfl fun f cdv A outer s H E hr => ?_
  have nd := sc_is_edge.nd
  refine ⟨?A, _, (pss_cons (ps_asg (pv 1) (pg_tupK (K := K) (n := 3) rfl rfl (pgs_cons (pg_name (i := 2) nd rfl (Or.inl rfl)) (pgs_cons (pg_name (i := 3) nd rfl (Or.inl rfl)) (pgs_cons (pg_name (i := 4) nd rfl (Or.inl rfl)) pgs_nil)))))
      (pss_cons (ps_if (pt_not (pt_chain op_le op_lt pe_int (pv 3) (pe_callB (id := "len") (lenK (K := K) rfl) (by rfl) (M.free z_len) (by decide +kernel) (pa_cons (pe_ix (ixK (K := K) rfl) (pv 0) pe_int (fun _ _ => rfl)) pa_nil)))) (pss_one (ps_ret pe_bl)) pss_nil)
      (pss_cons (ps_if (pt_cmpR (nedK (K := K) rfl hr.units) (pe_tup (pa_cons (pe_clS k_kind_of hr (by decide) (by rfl) (pass0S (E := L2.WE (fun c od _ H => E c od H))) (pa_cons (pv 0) (pa_cons (pv 2) pa_nil))) (pa_cons (pe_clS k_kind_of hr (by decide) (by rfl) (pass0S (E := L2.WE (fun c od _ H => E c od H))) (pa_cons (pv 0) (pa_cons (pv 4) pa_nil))) pa_nil))) (pe_clS k_label_kinds hr (by decide) (by rfl) (pass0S (E := L2.WE (fun c od _ H => E c od H))) (pa_cons (pv 0) (pa_cons (pv 3) pa_nil))) (nomark _)) (pss_one (ps_ret pe_bl)) pss_nil)
      (pss_one (ps_ret (pe_or (pe_cmpR op_eq (pv 2) (pv 4) (nomark _)) (pe_one (pe_not (pe_clS k_is_mark hr (by decide) (by rfl) (pass0S (E := L2.WE (fun c od _ H => E c od H))) (pa_cons (pv 0) (pa_cons (pv 3) pa_nil))))))))))), fun sc Hs Ps => ?z⟩
  case z => exact (ss_seq (ss_set se_var (sg_tup (sgs_cons sg_name (sgs_cons sg_name (sgs_cons sg_name sgs_nil)))))
      (ss_seq (ss_if (st_not (st_test (se_chain rv_le rv_lt se_i se_var (se_cb1 (r1_len rfl) (se_op (rv_ix rfl) se_var se_i))))) (ss_ret se_b) ss_nil)
      (ss_seq (ss_if (st_test (se_op (rv_neD rfl) (se_tup (sa_cons (se_call (sm_val se_var (sm_val se_var sm_nil))) (sa_cons (se_call (sm_val se_var (sm_val se_var sm_nil))) sa_nil))) (se_call (sm_val se_var (sm_val se_var sm_nil))))) (ss_ret se_b) ss_nil)
      (ss_ret (se_orV (se_op rv_eq se_var se_var) (se_notV (se_call (sm_val se_var (sm_val se_var sm_nil)))))))))
abbrev s_edges_let : Stmt := topS 31
abbrev N_edges_let : List Str := ["schema", "label", "begin", "end", "targets", "node", "source", "target"]
theorem sc_edges_let : FnScope N_edges_let ["schema", "label"] (defScope (topS 31)) := ⟨rfl, rfl, rfl, by decide +kernel, rfl, by decide +kernel, by decide +kernel⟩
theorem cl_edges_let (M : Mg K mg) (D : DefK K "edges_let" s_edges_let) (k_is_mark : Kept P w K mg base CX0 1 "is_mark" (spM K (REk K) F_is_mark)) (k_label_kinds : Kept P w K mg base CX0 1 "label_kinds" (spM K (REk K) F_label_kinds)) (k_nodes_of : Kept P w K mg base CX0 2 "nodes_of" (spM K (REk K) F_nodes_of)) (z_tuple : FreeK K "tuple") : Kept P w K mg base CX0 3 "edges_let" (spM K (REk K) F_edges_let) := by
  refine cl_of (k := 2) D M (fun _ _ _ _ _ _ us hl => match us, hl with | [_, _], _ => rfl) sc_edges_let rfl rfl rfl fun f cdv A outer s H E hr => ?_
  have nd := sc_edges_let.nd
  refine ⟨?A, _, (pss_cons (ps_asg (pe_clS k_label_kinds hr (by decide) (by rfl) (pass0S (E := L2.WE (fun c od _ H => E c od H))) (pa_cons (pv 0) (pa_cons (pv 1) pa_nil))) (pg_tupK (K := K) (n := 2) rfl rfl (pgs_cons (pg_name (i := 2) nd rfl (Or.inl rfl)) (pgs_cons (pg_name (i := 3) nd rfl (Or.inl rfl)) pgs_nil))))
      (pss_cons (ps_if (pt_tr (K := K) rfl (pe_clS k_is_mark hr (by decide) (by rfl) (pass0S (E := L2.WE (fun c od _ H => E c od H))) (pa_cons (pv 0) (pa_cons (pv 1) pa_nil))) (by intro _; rfl)) (pss_one (ps_ret (pe_callTy (T := "tuple") (tupK (K := K) rfl) (by rfl) (M.free z_tuple) (by decide +kernel) (pa_cons (pe_lc (own := [("node", 5)]) rfl nd (pi_tupK (K := K) rfl (pe_clS k_nodes_of hr (by decide) (by rfl) (pass0S (E := L2.WE (fun c od _ H => E c od H))) (pa_cons (pv 0) (pa_cons (pv 2) pa_nil)))) (blkOk_by (N := N_edges_let) (sc := defScope s_edges_let) (by decide +kernel)) (fun _ _ _ _ _ => (pg_name (i := 5) nd rfl (Or.inl rfl))) (fun _ _ _ _ _ => pts_nil) (fun _ _ _ _ _ => (pe_tup (pa_cons (pv 5) (pa_cons (pv 1) (pa_cons (pv 5) pa_nil)))))) pa_nil)))) pss_nil)
      (pss_cons (ps_set (i := 4) nd rfl (Or.inr rfl) (pe_clS k_nodes_of hr (by decide) (by rfl) (pass0S (E := L2.WE (fun c od _ H => E c od H))) (pa_cons (pv 0) (pa_cons (pv 3) pa_nil))))
      (pss_one (ps_ret (pe_callTy (T := "tuple") (tupK (K := K) rfl) (by rfl) (M.free z_tuple) (by decide +kernel) (pa_cons (pe_lc2 (own := [("source", 6), ("target", 7)]) (vs1 := [7]) rfl nd (pi_tupK (K := K) rfl (pe_clS k_nodes_of hr (by decide) (by rfl) (pass0S (E := L2.WE (fun c od _ H => E c od H))) (pa_cons (pv 0) (pa_cons (pv 2) pa_nil)))) (blkOk_by (N := N_edges_let) (sc := defScope s_edges_let) (by decide +kernel)) (by decide) (fun _ _ _ _ _ => (pg_name (i := 6) nd rfl (Or.inl rfl))) (fun _ _ _ _ _ => pts_nil) (fun _ _ _ _ _ => (pi_tupK (K := K) rfl (pv 4))) (fun _ _ _ _ _ => (pg_name (i := 7) nd rfl (Or.inl rfl))) (fun _ _ _ _ _ => pts_nil) (fun _ _ _ _ _ => (pe_tup (pa_cons (pv 6) (pa_cons (pv 1) (pa_cons (pv 7) pa_nil)))))) pa_nil))))))), fun sc Hs Ps => ?z⟩
  case z => exact (ss_seq (ss_set (se_call (sm_val se_var (sm_val se_var sm_nil))) (sg_tup (sgs_cons sg_name (sgs_cons sg_name sgs_nil))))
      (ss_seq (ss_if (st_truth rfl (se_call (sm_val se_var (sm_val se_var sm_nil)))) (ss_ret (se_cb1 (r1_tup rfl) (se_fz (seo_lc (A := [5]) (vs := [5]) (si_tup rfl (se_call (sm_val se_var (sm_val se_var sm_nil)))) sg_name st_yes (se_tup (sa_cons se_var (sa_cons se_var (sa_cons se_var sa_nil)))))))) ss_nil)
      (ss_seq (ss_set (se_call (sm_val se_var (sm_val se_var sm_nil))) sg_name)
      (ss_ret (se_cb1 (r1_tup rfl) (se_fz (seo_lc2 (A := [6]) (A1 := [7]) (vs := [6, 7]) (vs1 := [7]) (si_tup rfl (se_call (sm_val se_var (sm_val se_var sm_nil)))) sg_name st_yes (si_tup rfl se_var) sg_name st_yes (se_tup (sa_cons se_var (sa_cons se_var (sa_cons se_var sa_nil)))))))))))
abbrev s__law_draw : Stmt := topS 34
abbrev N__law_draw : List Str := ["_law_d", "_law_many", "_law_found", "_law_size", "_law_cell"]
theorem sc__law_draw : FnScope N__law_draw ["_law_d", "_law_many"] (defScope (topS 34)) := ⟨rfl, rfl, rfl, by decide +kernel, rfl, by decide +kernel, by decide +kernel⟩
theorem cl__law_draw (M : Mg K mg) (D : DefK K "_law_draw" s__law_draw) (z_abs : FreeK K "abs") (z_int : FreeK K "int") (z_len : FreeK K "len") : Kept P w K mg base CX0 1 "_law_draw" (spM K (REk K) F__law_draw) := by
  refine cl_of (k := 0) D M (fun _ _ _ _ _ _ us hl => match us, hl with | [_, _], _ => rfl) sc__law_draw rfl rfl rfl fun f cdv A outer s H E hr => ?_
  have nd := sc__law_draw.nd
  refine ⟨?A, _, (pss_cons (ps_if (pt_cmpR op_gt (pe_ix (ixL (K := K) rfl) (pv 0) pe_int (fun _ _ => rfl)) pe_int (nomark _)) (pss_cons (ps_set (i := 2) nd rfl (Or.inl rfl) (pe_ix (ixL (K := K) rfl) (pv 0) pe_int (fun _ _ => rfl)))
      (pss_cons (ps_asg (pe_op op_fdivN (pv 2) (pv 1)) (pg_sub (pv 0) pe_int set_list))
      (pss_one (ps_ret (pe_op op_modN (pe_callTy (T := "int") call_int1 (by rfl) (M.free z_int) (by decide +kernel) (pa_cons (pv 2) pa_nil)) (pv 1)))))) pss_nil)
      (pss_cons (ps_set (i := 3) nd rfl (Or.inl rfl) pe_int)
      (pss_cons (ps_if (pt_cmpR op_lt (pe_ix (ixL (K := K) rfl) (pv 0) pe_int (fun _ _ => rfl)) (pe_callB (id := "len") (lenK (K := K) rfl) (by rfl) (M.free z_len) (by decide +kernel) (pa_cons (pe_ix (ixL (K := K) rfl) (pv 0) pe_int (fun _ _ => rfl)) pa_nil)) (nomark _)) (pss_cons (ps_set (i := 4) nd rfl (Or.inl rfl) (pe_ix (ixK (K := K) rfl) (pe_ix (ixL (K := K) rfl) (pv 0) pe_int (fun _ _ => rfl)) (pe_ix (ixL (K := K) rfl) (pv 0) pe_int (fun _ _ => rfl)) (fun _ _ => rfl)))
      (pss_one (ps_set (i := 3) nd rfl (Or.inl rfl) (pe_op (op_add.or op_add_str) (pe_op op_mul pe_int (pe_callB (id := "abs") call_abs (by rfl) (M.free z_abs) (by decide +kernel) (pa_cons (pv 4) pa_nil))) (pe_callTy (T := "int") call_int1 (by rfl) (M.free z_int) (by decide +kernel) (pa_cons (pe_cmpR op_lt (pv 4) pe_int (nomark _)) pa_nil)))))) pss_nil)
      (pss_cons (ps_augS (pv 0) pe_int (getK (K := K) rfl) pe_int ip_add set_list)
      (pss_cons (ps_if (pt_cmpR op_ge (pv 3) (pe_op op_mul pe_int (pe_op op_pow pe_int pe_int)) (nomark _)) (pss_cons (ps_set (i := 2) nd rfl (Or.inl rfl) (pe_op op_modN (pe_callTy (T := "int") call_int1 (by rfl) (M.free z_int) (by decide +kernel) (pa_cons (pe_op op_fdivN (pv 3) pe_int) pa_nil)) (pe_op op_shl pe_int pe_int)))
      (pss_cons (ps_asg (pe_op op_fdivN (pv 2) (pv 1)) (pg_sub (pv 0) pe_int set_list))
      (pss_one (ps_ret (pe_op op_modN (pe_callTy (T := "int") call_int1 (by rfl) (M.free z_int) (by decide +kernel) (pa_cons (pv 2) pa_nil)) (pv 1)))))) pss_nil)
      (pss_cons (ps_asg (pe_op op_modN (pe_callTy (T := "int") call_int1 (by rfl) (M.free z_int) (by decide +kernel) (pa_cons (pe_op (op_add.or op_add_str) (pe_op (op_add.or op_add_str) (pe_op (op_add.or op_add_str) (pe_op op_mul (pe_ix (ixL (K := K) rfl) (pv 0) pe_int (fun _ _ => rfl)) pe_int) (pe_op op_mul (pe_op op_modN (pe_callTy (T := "int") call_int1 (by rfl) (M.free z_int) (by decide +kernel) (pa_cons (pv 3) pa_nil)) pe_int) pe_int)) (pe_op op_mul (pe_ix (ixL (K := K) rfl) (pv 0) pe_int (fun _ _ => rfl)) pe_int)) pe_int) pa_nil)) pe_int) (pg_sub (pv 0) pe_int set_list))
      (pss_one (ps_ret (pe_op op_modN (pe_callTy (T := "int") call_int1 (by rfl) (M.free z_int) (by decide +kernel) (pa_cons (pe_op op_fdivN (pe_ix (ixL (K := K) rfl) (pv 0) pe_int (fun _ _ => rfl)) pe_int) pa_nil)) (pv 1)))))))))), fun sc Hs Ps => ?z⟩
  case z => exact (ss_seq (ss_if (st_test (se_op rv_gt (se_opO (rw_ix rfl) se_i) se_i)) (ss_seq (ss_set (se_opO (rw_ix rfl) se_i) sg_name)
      (ss_seq (ss_put (se_op rv_div se_var se_var) se_i)
      (ss_ret (se_op rv_mod (se_cb1 r1_int se_var) se_var)))) ss_nil)
      (ss_seq (ss_set se_i sg_name)
      (ss_seq (ss_if (st_test (se_op rv_lt (se_opO (rw_ix rfl) se_i) (se_cb1 (r1_len rfl) (se_opO (rw_ix rfl) se_i)))) (ss_seq (ss_set (se_op (rv_ix rfl) (se_opO (rw_ix rfl) se_i) (se_opO (rw_ix rfl) se_i)) sg_name)
      (ss_set (se_op rv_add (se_op rv_mul se_i (se_cb1 r1_abs se_var)) (se_cb1 r1_int (se_op rv_lt se_var se_i))) sg_name)) ss_nil)
      (ss_seq (ss_putAug se_i rv_ipadd se_i)
      (ss_seq (ss_if (st_test (se_op rv_ge se_var (se_op rv_mul se_i (se_op rv_pow se_i se_i)))) (ss_seq (ss_set (se_op rv_mod (se_cb1 r1_int (se_op rv_div se_var se_i)) (se_op rv_shl se_i se_i)) sg_name)
      (ss_seq (ss_put (se_op rv_div se_var se_var) se_i)
      (ss_ret (se_op rv_mod (se_cb1 r1_int se_var) se_var)))) ss_nil)
      (ss_seq (ss_put (se_op rv_mod (se_cb1 r1_int (se_op rv_add (se_op rv_add (se_op rv_add (se_op rv_mul (se_opO (rw_ix rfl) se_i) se_i) (se_op rv_mul (se_op rv_mod (se_cb1 r1_int se_var) se_i) se_i)) (se_op rv_mul (se_opO (rw_ix rfl) se_i) se_i)) se_i)) se_i) se_i)
      (ss_ret (se_op rv_mod (se_cb1 r1_int (se_op rv_div (se_opO (rw_ix rfl) se_i) se_i)) se_var))))))))
abbrev s__law_pick : Stmt := topS 35
abbrev N__law_pick : List Str := ["_law_d", "_law_row"]
theorem sc__law_pick : FnScope N__law_pick ["_law_d", "_law_row"] (defScope (topS 35)) := ⟨rfl, rfl, rfl, by decide +kernel, rfl, by decide +kernel, by decide +kernel⟩
theorem cl__law_pick (M : Mg K mg) (D : DefK K "_law_pick" s__law_pick) (k__law_draw : Kept P w K mg base CX0 1 "_law_draw" (spM K (REk K) F__law_draw)) (z_len : FreeK K "len") : Kept P w K mg base CX0 2 "_law_pick" (spM K (REk K) F__law_pick) := by
  refine cl_of (k := 1) D M (fun _ _ _ _ _ _ us hl => match us, hl with | [_, _], _ => rfl) sc__law_pick rfl rfl rfl fun f cdv A outer s H E hr => ?_
  have nd := sc__law_pick.nd
  refine ⟨?A, _, (pss_one (ps_ret (pe_ix (ixK (K := K) rfl) (pv 1) (pe_clS k__law_draw hr (by decide) (by rfl) (pass0S (E := L2.WE (fun c od _ H => E c od H))) (pa_cons (pv 0) (pa_cons (pe_callB (id := "len") (lenK (K := K) rfl) (by rfl) (M.free z_len) (by decide +kernel) (pa_cons (pv 1) pa_nil)) pa_nil))) (fun _ _ => rfl)))), fun sc Hs Ps => ?z⟩
  case z => exact (ss_ret (se_op (rv_ix rfl) se_var (se_call (sm_own (sm_val (se_cb1 (r1_len rfl) se_var) sm_nil)))))
abbrev s__law_pop : Stmt := topS 36
abbrev N__law_pop : List Str := ["_law_d", "_law_row"]
theorem sc__law_pop : FnScope N__law_pop ["_law_d", "_law_row"] (defScope (topS 36)) := ⟨rfl, rfl, rfl, by decide +kernel, rfl, by decide +kernel, by decide +kernel⟩
theorem cl__law_pop (M : Mg K mg) (D : DefK K "_law_pop" s__law_pop) (k__law_draw : Kept P w K mg base CX0 1 "_law_draw" (spM K (REk K) F__law_draw)) (z_len : FreeK K "len") : Kept P w K mg base CX0 2 "_law_pop" (spM K (REk K) F__law_pop) := by
  refine cl_of (k := 1) D M (fun _ _ _ _ _ _ us hl => match us, hl with | [_, _], _ => rfl) sc__law_pop rfl rfl rfl fun f cdv A outer s H E hr => ?_
  have nd := sc__law_pop.nd
  refine ⟨?A, _, (pss_one (ps_ret (pe_bm PySem.F.plainAttrs_list PySem.F.slot_list_pop PySem.F.type_list_pop mt_popAt (pv 1) (pa_cons (pe_clS k__law_draw hr (by decide) (by rfl) (pass0S (E := L2.WE (fun c od _ H => E c od H))) (pa_cons (pv 0) (pa_cons (pe_callB (id := "len") (lenK (K := K) rfl) (by rfl) (M.free z_len) (by decide +kernel) (pa_cons (pv 1) pa_nil)) pa_nil))) pa_nil)))), fun sc Hs Ps => ?z⟩
  case z => exact (ss_ret (se_popAt (se_call (sm_own (sm_val (se_cb1O (rw_len rfl)) sm_nil)))))
abbrev s__law_rare : Stmt := topS 37
abbrev N__law_rare : List Str := ["_law_d", "_law_many"]
theorem sc__law_rare : FnScope N__law_rare ["_law_d", "_law_many"] (defScope (topS 37)) := ⟨rfl, rfl, rfl, by decide +kernel, rfl, by decide +kernel, by decide +kernel⟩
theorem cl__law_rare (M : Mg K mg) (D : DefK K "_law_rare" s__law_rare) (k__law_draw : Kept P w K mg base CX0 1 "_law_draw" (spM K (REk K) F__law_draw)) : Kept P w K mg base CX0 2 "_law_rare" (spM K (REk K) F__law_rare) := by
  refine cl_of (k := 1) D M (fun _ _ _ _ _ _ us hl => match us, hl with | [_, _], _ => rfl) sc__law_rare rfl rfl rfl fun f cdv A outer s H E hr => ?_
  have nd := sc__law_rare.nd
  refine ⟨?A, _, (pss_one (ps_ret (pe_cmpR op_eq (pe_clS k__law_draw hr (by decide) (by rfl) (pass0S (E := L2.WE (fun c od _ H => E c od H))) (pa_cons (pv 0) (pa_cons (pv 1) pa_nil))) (pe_op op_fdivN (pv 1) pe_int) (nomark _)))), fun sc Hs Ps => ?z⟩
  case z => exact (ss_ret (se_op rv_eq (se_call (sm_own (sm_val se_var sm_nil))) (se_op rv_div se_var se_i)))
abbrev s__law_pool : Stmt := topS 38
abbrev N__law_pool : List Str := ["_law_text"]
theorem sc__law_pool : FnScope N__law_pool [] (defScope (topS 38)) := ⟨rfl, rfl, rfl, by decide +kernel, rfl, by decide +kernel, by decide +kernel⟩
theorem cl__law_pool (M : Mg K mg) (D : DefK K "_law_pool" s__law_pool)  : Kept P w K mg base CX0 1 "_law_pool" (spM K (REk K) F__law_pool) := by
  refine cl_of (k := 0) D M (fun _ _ _ _ _ _ us hl => match us, hl with | [], _ => rfl) sc__law_pool rfl rfl rfl fun f cdv A outer s H E hr => ?_
  have nd := sc__law_pool.nd
  refine ⟨?A, _, (pss_cons (ps_set (i := 0) nd rfl (Or.inl rfl) pe_str)
      (pss_cons (ps_set (i := 0) nd rfl (Or.inl rfl) (pe_op (op_add.or op_add_str) (pv 0) pe_str))
      (pss_one (ps_ret (pe_split (pv 0) pe_str))))), fun sc Hs Ps => ?z⟩
  case z => exact (ss_seq (ss_set (se_s t27_eq) sg_name)
      (ss_seq (ss_set (se_op rv_add se_var (se_s t28_eq)) sg_name)
      (ss_retO (seo_split se_var (se_s t29_eq)))))
abbrev s__law_is_int : Stmt := topS 39
abbrev N__law_is_int : List Str := ["_law_thing"]
theorem sc__law_is_int : FnScope N__law_is_int ["_law_thing"] (defScope (topS 39)) := ⟨rfl, rfl, rfl, by decide +kernel, rfl, by decide +kernel, by decide +kernel⟩
theorem cl__law_is_int (M : Mg K mg) (D : DefK K "_law_is_int" s__law_is_int) (z_bool : FreeK K "bool") (z_int : FreeK K "int") (z_isinstance : FreeK K "isinstance") : Kept P w K mg base CX0 1 "_law_is_int" (spM K (REk K) F__law_is_int) := by
  refine cl_of (k := 0) D M (fun _ _ _ _ _ _ us hl => match us, hl with | [_], _ => rfl) sc__law_is_int rfl rfl rfl fun f cdv A outer s H E hr => ?_
  have nd := sc__law_is_int.nd
  refine ⟨?A, _, (pss_one (ps_ret (pe_and (pe_callB (id := "isinstance") (isiK (K := K) rfl) (by rfl) (M.free z_isinstance) (by decide +kernel) (pa_cons (pv 0) (pa_cons (pe_bltn (v := .ty "int") (u := .type "int") (by rfl) (M.free z_int) (by decide +kernel) rfl) pa_nil))) (pe_one (pe_not (pe_callB (id := "isinstance") (isiK (K := K) rfl) (by rfl) (M.free z_isinstance) (by decide +kernel) (pa_cons (pv 0) (pa_cons (pe_bltn (v := .ty "bool") (u := .type "bool") (by rfl) (M.free z_bool) (by decide +kernel) rfl) pa_nil)))))))), fun sc Hs Ps => ?z⟩
  case z => exact (ss_ret (se_andV (se_isI rfl se_var) (se_notV (se_isB rfl se_var))))
abbrev s__law_first : Stmt := topS 40
abbrev N__law_first : List Str := ["_law_schema_here", "_law_kind", "_law_row"]
theorem sc__law_first : FnScope N__law_first ["_law_schema_here", "_law_kind"] (defScope (topS 40)) := ⟨rfl, rfl, rfl, by decide +kernel, rfl, by decide +kernel, by decide +kernel⟩
theorem cl__law_first (M : Mg K mg) (D : DefK K "_law_first" s__law_first) (z_sum : FreeK K "sum") : Kept P w K mg base CX0 1 "_law_first" (spM K (REk K) F__law_first) := by
  refine cl_of (k := 0) D M (fun _ _ _ _ _ _ us hl => match us, hl with | [_, _], _ => rfl) sc__law_first rfl rfl rfl fun f cdv A outer s H E hr => ?_
  have nd := sc__law_first.nd
  refine ⟨?A, _, (pss_one (ps_ret (pe_callB (id := "sum") (sumK (K := K) rfl rfl) (by rfl) (M.free z_sum) (by decide +kernel) (pa_cons (pe_lc (own := [("_law_row", 2)]) rfl nd (pi_tupK (K := K) rfl (pe_slice (slaK (K := K) rfl) (pe_ix (ixK (K := K) rfl) (pv 0) pe_int (fun _ _ => rfl)) po_none (po_some (pv 1)))) (blkOk_by (N := N__law_first) (sc := defScope s__law_first) (by decide +kernel)) (fun _ _ _ _ _ => (pg_name (i := 2) nd rfl (Or.inl rfl))) (fun _ _ _ _ _ => pts_nil) (fun _ _ _ _ _ => (pe_ix (ixK (K := K) rfl) (pv 2) pe_int (fun _ _ => rfl)))) pa_nil)))), fun sc Hs Ps => ?z⟩
  case z => exact (ss_ret (se_cb1 (r1_sum rfl) (se_fz (seo_lc (A := [2]) (vs := [2]) (si_tup rfl (se_slT rfl (se_op (rv_ix rfl) se_var se_i) so_none (so_some se_var))) sg_name st_yes (se_op (rv_ix rfl) se_var se_i)))))
abbrev s__law_nodes : Stmt := topS 41
abbrev N__law_nodes : List Str := ["_law_schema_here", "_law_kind", "_law_first_here", "_law_k"]
theorem sc__law_nodes : FnScope N__law_nodes ["_law_schema_here", "_law_kind"] (defScope (topS 41)) := ⟨rfl, rfl, rfl, by decide +kernel, rfl, by decide +kernel, by decide +kernel⟩
theorem cl__law_nodes (M : Mg K mg) (D : DefK K "_law_nodes" s__law_nodes) (k__law_first : Kept P w K mg base CX0 1 "_law_first" (spM K (REk K) F__law_first)) (z_range : FreeK K "range") : Kept P w K mg base CX0 2 "_law_nodes" (spM K (REk K) F__law_nodes) := by
  refine cl_of (k := 1) D M (fun _ _ _ _ _ _ us hl => match us, hl with | [_, _], _ => rfl) sc__law_nodes rfl rfl rfl fun f cdv A outer s H E hr => ?_
  have nd := sc__law_nodes.nd
  refine ⟨?A, _, (pss_cons (ps_set (i := 2) nd rfl (Or.inr rfl) (pe_clS k__law_first hr (by decide) (by rfl) (pass0S (E := L2.WE (fun c od _ H => E c od H))) (pa_cons (pv 0) (pa_cons (pv 1) pa_nil))))
      (pss_one (ps_ret (pe_lc (own := [("_law_k", 3)]) rfl nd (pi_range1 (by rfl) (M.free z_range) (pa_cons (pe_ix (ixK (K := K) rfl) (pe_ix (ixK (K := K) rfl) (pe_ix (ixK (K := K) rfl) (pv 0) pe_int (fun _ _ => rfl)) (pv 1) (fun _ _ => rfl)) pe_int (fun _ _ => rfl)) pa_nil)) (blkOk_by (N := N__law_nodes) (sc := defScope s__law_nodes) (by decide +kernel)) (fun _ _ _ _ _ => (pg_name (i := 3) nd rfl (Or.inl rfl))) (fun _ _ _ _ _ => pts_nil) (fun _ _ _ _ _ => (pe_op (op_add.or op_add_str) (pv 2) (pv 3))))))), fun sc Hs Ps => ?z⟩
  case z => exact (ss_seq (ss_set (se_call (sm_val se_var (sm_val se_var sm_nil))) sg_name)
      (ss_retO (seo_lc (A := [3]) (vs := [3]) (si_rng1 (se_op (rv_ix rfl) (se_op (rv_ix rfl) (se_op (rv_ix rfl) se_var se_i) se_var) se_i)) sg_name st_yes (se_op rv_add se_var se_var))))
abbrev s__law_let : Stmt := topS 42
abbrev N__law_let : List Str := ["_law_schema_here", "_law_label", "_law_row", "_law_found", "_law_source", "_law_target"]
theorem sc__law_let : FnScope N__law_let ["_law_schema_here", "_law_label"] (defScope (topS 42)) := ⟨rfl, rfl, rfl, by decide +kernel, rfl, by decide +kernel, by decide +kernel⟩
theorem cl__law_let (M : Mg K mg) (D : DefK K "_law_let" s__law_let) (k__law_nodes : Kept P w K mg base CX0 2 "_law_nodes" (spM K (REk K) F__law_nodes)) : Kept P w K mg base CX0 3 "_law_let" (spM K (REk K) F__law_let) := by
  refine cl_of (k := 2) D M (fun _ _ _ _ _ _ us hl => match us, hl with | [_, _], _ => rfl) sc__law_let rfl rfl rfl fun f cdv A outer s H E hr => ?_
  have nd := sc__law_let.nd
  refine ⟨?A, _, (pss_cons (ps_set (i := 2) nd rfl (Or.inl rfl) (pe_ix (ixK (K := K) rfl) (pe_ix (ixK (K := K) rfl) (pv 0) pe_int (fun _ _ => rfl)) (pv 1) (fun _ _ => rfl)))
      (pss_cons (ps_set (i := 3) nd rfl (Or.inl rfl) (pe_lst pa_nil))
      (pss_cons (ps_for PassesOwn.never rfl (pi_listK (K := K) rfl (pe_clS k__law_nodes hr (by decide) (by rfl) (pass0S (E := L2.WE (fun c od _ H => E c od H))) (pa_cons (pv 0) (pa_cons (pe_ix (ixK (K := K) rfl) (pv 2) pe_int (fun _ _ => rfl)) pa_nil)))) (pg_name (i := 4) nd rfl (Or.inl rfl))
      (pss_one (ps_for PassesOwn.never rfl (pi_listK (K := K) rfl (pe_clS k__law_nodes hr (by decide) (by rfl) (pass0S (E := L2.WE (fun c od _ H => E c od H))) (pa_cons (pv 0) (pa_cons (pe_ix (ixK (K := K) rfl) (pv 2) pe_int (fun _ _ => rfl)) pa_nil)))) (pg_name (i := 5) nd rfl (Or.inl rfl))
      (pss_one (ps_if (PW.pt (pw_or (pt_cmpR op_ne (pe_ix (ixK (K := K) rfl) (pv 2) pe_int (fun _ _ => rfl)) pe_str (nomark _)) (pw_or1 (pt_cmpR op_eq (pv 4) (pv 5) (nomark _))))) (pss_one (ps_expr (pe_bm PySem.F.plainAttrs_list PySem.F.slot_list_append PySem.F.type_list_append mt_append (pv 3) (pa_cons (pe_tup (pa_cons (pv 4) (pa_cons (pv 1) (pa_cons (pv 5) pa_nil)))) pa_nil)))) pss_nil)))))
      (pss_one (ps_ret (pv 3)))))), fun sc Hs Ps => ?z⟩
  case z => exact (ss_seq (ss_set (se_op (rv_ix rfl) (se_op (rv_ix rfl) se_var se_i) se_var) sg_name)
      (ss_seq (ss_setO (seo_lst sa_nil))
      (ss_seq (ss_for (si_list rfl (se_fz (seo_call (sm_val se_var (sm_val (se_op (rv_ix rfl) se_var se_i) sm_nil))))) sg_name
      (ss_for (si_list rfl (se_fz (seo_call (sm_val se_var (sm_val (se_op (rv_ix rfl) se_var se_i) sm_nil))))) sg_name
      (ss_if (st_or (st_test (se_op rv_ne (se_op (rv_ix rfl) se_var se_i) (se_s t6_eq))) (st_test (se_op rv_eq se_var se_var))) (ss_app (se_tup (sa_cons se_var (sa_cons se_var (sa_cons se_var sa_nil))))) ss_nil)))
      ss_retV)))
abbrev s__law_schema : Stmt := topS 43
abbrev N__law_schema : List Str := ["_law_d", "_law_kinds", "_law_labels", "_law_most", "_law_names", "_law_rows", "_law_k", "_law_told", "_law_source", "_law_target", "_law_way", "_law_rule", "_law_price"]
theorem sc__law_schema : FnScope N__law_schema ["_law_d", "_law_kinds", "_law_labels", "_law_most"] (defScope (topS 43)) := ⟨rfl, rfl, rfl, by decide +kernel, rfl, by decide +kernel, by decide +kernel⟩
theorem cl__law_schema (M : Mg K mg) (D : DefK K "_law_schema" s__law_schema) (k__law_draw : Kept P w K mg base CX0 1 "_law_draw" (spM K (REk K) F__law_draw)) (k__law_pool : Kept P w K mg base CX0 1 "_law_pool" (spM K (REk K) F__law_pool)) (k__law_pop : Kept P w K mg base CX0 2 "_law_pop" (spM K (REk K) F__law_pop)) (k__law_rare : Kept P w K mg base CX0 2 "_law_rare" (spM K (REk K) F__law_rare)) (z_range : FreeK K "range") (z_tuple : FreeK K "tuple") : Kept P w K mg base CX0 3 "_law_schema" (spM K (REk K) F__law_schema) := by
  refine cl_of (k := 2) D M (fun _ _ _ _ _ _ us hl => match us, hl with | [_, _, _, _], _ => rfl) sc__law_schema rfl rfl rfl fun f cdv A outer s H E hr => ?_
  have nd := sc__law_schema.nd
  refine ⟨?A, _, (pss_cons (ps_set (i := 4) nd rfl (Or.inl rfl) (pe_clS0 k__law_pool hr (by decide) (by rfl) (pass0S (E := L2.WE (fun c od _ H => E c od H)))))
      (pss_cons (ps_set (i := 5) nd rfl (Or.inl rfl) (pe_lst pa_nil))
      (pss_cons (ps_for PassesOwn.never rfl (pi_range1 (by rfl) (M.free z_range) (pa_cons (pv 1) pa_nil)) (pg_name (i := 6) nd rfl (Or.inl rfl))
      (pss_one (ps_expr (pe_bm PySem.F.plainAttrs_list PySem.F.slot_list_append PySem.F.type_list_append mt_append (pv 5) (pa_cons (pe_tup (pa_cons (pe_clS k__law_pop hr (by decide) (by rfl) (pass0S (E := L2.WE (fun c od _ H => E c od H))) (pa_cons (pv 0) (pa_cons (pv 4) pa_nil))) (pa_cons (pe_op (op_add.or op_add_str) pe_int (pe_clS k__law_draw hr (by decide) (by rfl) (pass0S (E := L2.WE (fun c od _ H => E c od H))) (pa_cons (pv 0) (pa_cons (pv 3) pa_nil)))) pa_nil))) pa_nil)))))
      (pss_cons (ps_set (i := 7) nd rfl (Or.inl rfl) (pe_lst pa_nil))
      (pss_cons (ps_for PassesOwn.never rfl (pi_range1 (by rfl) (M.free z_range) (pa_cons (pv 2) pa_nil)) (pg_name (i := 6) nd rfl (Or.inl rfl))
      (pss_cons (ps_set (i := 8) nd rfl (Or.inl rfl) (pe_clS k__law_draw hr (by decide) (by rfl) (pass0S (E := L2.WE (fun c od _ H => E c od H))) (pa_cons (pv 0) (pa_cons (pv 1) pa_nil))))
      (pss_cons (ps_set (i := 9) nd rfl (Or.inl rfl) (pe_clS k__law_draw hr (by decide) (by rfl) (pass0S (E := L2.WE (fun c od _ H => E c od H))) (pa_cons (pv 0) (pa_cons (pv 1) pa_nil))))
      (pss_cons (ps_set (i := 10) nd rfl (Or.inl rfl) (pe_clS k__law_draw hr (by decide) (by rfl) (pass0S (E := L2.WE (fun c od _ H => E c od H))) (pa_cons (pv 0) (pa_cons pe_int pa_nil))))
      (pss_cons (ps_set (i := 11) nd rfl (Or.inl rfl) pe_str)
      (pss_cons (ps_if (pt_cmpR (inK (K := K) rfl) (pv 10) (pe_tup (pa_cons pe_int (pa_cons pe_int pa_nil))) (by rfl)) (pss_one (ps_set (i := 11) nd rfl (Or.inl rfl) pe_str)) pss_nil)
      (pss_cons (ps_if (pt_cmpR op_eq (pv 10) pe_int (nomark _)) (pss_cons (ps_set (i := 11) nd rfl (Or.inl rfl) pe_str)
      (pss_one (ps_set (i := 9) nd rfl (Or.inl rfl) (pv 8)))) pss_nil)
      (pss_cons (ps_set (i := 12) nd rfl (Or.inl rfl) (pe_op (op_add.or op_add_str) pe_int (pe_clS k__law_draw hr (by decide) (by rfl) (pass0S (E := L2.WE (fun c od _ H => E c od H))) (pa_cons (pv 0) (pa_cons pe_int pa_nil)))))
      (pss_cons (ps_if (pt_cmpR op_eq (pe_clS k__law_draw hr (by decide) (by rfl) (pass0S (E := L2.WE (fun c od _ H => E c od H))) (pa_cons (pv 0) (pa_cons pe_int pa_nil))) pe_int (nomark _)) (pss_one (ps_set (i := 12) nd rfl (Or.inl rfl) pe_int)) pss_nil)
      (pss_cons (ps_if (pt_tr (K := K) rfl (pe_clS k__law_rare hr (by decide) (by rfl) (pass0S (E := L2.WE (fun c od _ H => E c od H))) (pa_cons (pv 0) (pa_cons pe_int pa_nil))) (by intro _; rfl)) (pss_one (ps_set (i := 12) nd rfl (Or.inl rfl) pe_int)) pss_nil)
      (pss_one (ps_expr (pe_bm PySem.F.plainAttrs_list PySem.F.slot_list_append PySem.F.type_list_append mt_append (pv 7) (pa_cons (pe_tup (pa_cons (pe_clS k__law_pop hr (by decide) (by rfl) (pass0S (E := L2.WE (fun c od _ H => E c od H))) (pa_cons (pv 0) (pa_cons (pv 4) pa_nil))) (pa_cons (pv 8) (pa_cons (pv 9) (pa_cons (pv 12) (pa_cons (pv 11) pa_nil)))))) pa_nil))))))))))))))
      (pss_one (ps_ret (pe_tup (pa_cons pe_str (pa_cons (pe_callTy (T := "tuple") (tupK (K := K) rfl) (by rfl) (M.free z_tuple) (by decide +kernel) (pa_cons (pv 5) pa_nil)) (pa_cons (pe_callTy (T := "tuple") (tupK (K := K) rfl) (by rfl) (M.free z_tuple) (by decide +kernel) (pa_cons (pv 7) pa_nil)) pa_nil))))))))))), fun sc Hs Ps => ?z⟩
  case z => exact (ss_seq (ss_setO (seo_call sm_nil))
      (ss_seq (ss_setO (seo_lst sa_nil))
      (ss_seq (ss_for (si_rng1 se_var) sg_name
      (ss_app (se_tup (sa_cons (se_call (sm_own (sm_own sm_nil))) (sa_cons (se_op rv_add se_i (se_call (sm_own (sm_val se_var sm_nil)))) sa_nil)))))
      (ss_frz (i := 5) (ss_seq (ss_setO (seo_lst sa_nil))
      (ss_seq (ss_for (si_rng1 se_var) sg_name
      (ss_seq (ss_set (se_call (sm_own (sm_val se_var sm_nil))) sg_name)
      (ss_seq (ss_set (se_call (sm_own (sm_val se_var sm_nil))) sg_name)
      (ss_seq (ss_set (se_call (sm_own (sm_val se_i sm_nil))) sg_name)
      (ss_seq (ss_set (se_s t4_eq) sg_name)
      (ss_seq (ss_if (st_test (se_op (rv_in rfl) se_var (se_tup (sa_cons se_i (sa_cons se_i sa_nil))))) (ss_set (se_s t5_eq) sg_name) ss_nil)
      (ss_seq (ss_if (st_test (se_op rv_eq se_var se_i)) (ss_seq (ss_set (se_s t6_eq) sg_name)
      (ss_set se_var sg_name)) ss_nil)
      (ss_seq (ss_set (se_op rv_add se_i (se_call (sm_own (sm_val se_i sm_nil)))) sg_name)
      (ss_seq (ss_if (st_test (se_op rv_eq (se_call (sm_own (sm_val se_i sm_nil))) se_i)) (ss_set se_i sg_name) ss_nil)
      (ss_seq (ss_if (st_truth rfl (se_call (sm_own (sm_val se_i sm_nil)))) (ss_set se_i sg_name) ss_nil)
      (ss_app (se_tup (sa_cons (se_call (sm_own (sm_own sm_nil))) (sa_cons se_var (sa_cons se_var (sa_cons se_var (sa_cons se_var sa_nil)))))))))))))))))
      (ss_frz (i := 7) (ss_ret (se_tup (sa_cons (se_s t30_eq) (sa_cons (se_cb1 (r1_tup rfl) se_var) (sa_cons (se_cb1 (r1_tup rfl) se_var) sa_nil))))))))))))
abbrev s__law_odd_name : Stmt := topS 44
abbrev N__law_odd_name : List Str := ["_law_d", "_law_names", "_law_odd"]
theorem sc__law_odd_name : FnScope N__law_odd_name ["_law_d", "_law_names"] (defScope (topS 44)) := ⟨rfl, rfl, rfl, by decide +kernel, rfl, by decide +kernel, by decide +kernel⟩
theorem cl__law_odd_name (M : Mg K mg) (D : DefK K "_law_odd_name" s__law_odd_name) (k__law_draw : Kept P w K mg base CX0 1 "_law_draw" (spM K (REk K) F__law_draw)) (k__law_pick : Kept P w K mg base CX0 2 "_law_pick" (spM K (REk K) F__law_pick)) (z_len : FreeK K "len") : Kept P w K mg base CX0 3 "_law_odd_name" (spM K (REk K) F__law_odd_name) := by
  refine cl_of (k := 2) D M (fun _ _ _ _ _ _ us hl => match us, hl with | [_, _], _ => rfl) sc__law_odd_name rfl rfl rfl fun f cdv A outer s H E hr => ?_
  have nd := sc__law_odd_name.nd
  refine ⟨?A, _, (pss_cons (ps_set (i := 2) nd rfl (Or.inl rfl) (pe_lst (pa_cons pe_str (pa_cons pe_str (pa_cons pe_str (pa_cons pe_str (pa_cons pe_str (pa_cons pe_str (pa_cons pe_str (pa_cons pe_str (pa_cons pe_str (pa_cons pe_str (pa_cons pe_str (pa_cons (pe_op op_mul_str pe_str pe_int) (pa_cons pe_str pa_nil)))))))))))))))
      (pss_cons (ps_if (PW.pt (pw_and (pt_cmpR op_gt (pe_callB (id := "len") (lenK (K := K) rfl) (by rfl) (M.free z_len) (by decide +kernel) (pa_cons (pv 1) pa_nil)) pe_int (nomark _)) (pw_and1 (pt_cmpR op_eq (pe_clS k__law_draw hr (by decide) (by rfl) (pass0S (E := L2.WE (fun c od _ H => E c od H))) (pa_cons (pv 0) (pa_cons pe_int pa_nil))) pe_int (nomark _))))) (pss_one (ps_ret (pe_clS k__law_pick hr (by decide) (by rfl) (pass0S (E := L2.WE (fun c od _ H => E c od H))) (pa_cons (pv 0) (pa_cons (pv 1) pa_nil))))) pss_nil)
      (pss_one (ps_ret (pe_clS k__law_pick hr (by decide) (by rfl) (pass0S (E := L2.WE (fun c od _ H => E c od H))) (pa_cons (pv 0) (pa_cons (pv 2) pa_nil))))))), fun sc Hs Ps => ?z⟩
  case z => exact (ss_seq (ss_set (se_fz (seo_lst (sa_cons (se_s t39_eq) (sa_cons (se_s t38_eq) (sa_cons (se_s t37_eq) (sa_cons (se_s t36_eq) (sa_cons (se_s t2_eq) (sa_cons (se_s t35_eq) (sa_cons (se_s t34_eq) (sa_cons (se_s t15_eq) (sa_cons (se_s t33_eq) (sa_cons (se_s t14_eq) (sa_cons (se_s t8_eq) (sa_cons (se_op rv_mulS (se_s t32_eq) se_i) (sa_cons (se_s t31_eq) sa_nil))))))))))))))) sg_name)
      (ss_seq (ss_if (st_and (st_test (se_op rv_gt (se_cb1 (r1_len rfl) se_var) se_i)) (st_test (se_op rv_eq (se_call (sm_own (sm_val se_i sm_nil))) se_i))) (ss_ret (se_call (sm_own (sm_val se_var sm_nil)))) ss_nil)
      (ss_ret (se_call (sm_own (sm_val se_var sm_nil))))))
abbrev s__law_name_good : Stmt := topS 45
abbrev N__law_name_good : List Str := ["_law_text", "_law_reserved", "_law_letters", "_law_sign"]
theorem sc__law_name_good : FnScope N__law_name_good ["_law_text"] (defScope (topS 45)) := ⟨rfl, rfl, rfl, by decide +kernel, rfl, by decide +kernel, by decide +kernel⟩
theorem cl__law_name_good (M : Mg K mg) (D : DefK K "_law_name_good" s__law_name_good) (z_all : FreeK K "all") (z_len : FreeK K "len") : Kept P w K mg base CX0 1 "_law_name_good" (spM K (REk K) F__law_name_good) := by
  refine cl_of (k := 0) D M (fun _ _ _ _ _ _ us hl => match us, hl with | [_], _ => rfl) sc__law_name_good rfl rfl rfl fun f cdv A outer s H E hr => ?_
  have nd := sc__law_name_good.nd
  refine ⟨?A, _, (pss_cons (ps_set (i := 1) nd rfl (Or.inl rfl) (pe_split pe_str pe_str))
      (pss_cons (ps_set (i := 2) nd rfl (Or.inr rfl) pe_str)
      (pss_cons (ps_if (PW.pt (pw_or (pt_not (pt_chain op_le op_le pe_int (pe_callB (id := "len") (lenK (K := K) rfl) (by rfl) (M.free z_len) (by decide +kernel) (pa_cons (pv 0) pa_nil)) pe_int)) (pw_or (pt_cmpR (inK (K := K) rfl) (pv 0) (pv 1) (by rfl)) (pw_or1 (pt_cmpR op_notIn_sign (pe_ix (ixK (K := K) rfl) (pv 0) pe_int (fun _ _ => rfl)) (pv 2) (by rfl)))))) (pss_one (ps_ret pe_bl)) pss_nil)
      (pss_one (ps_ret (pe_callB (id := "all") (allK (K := K) rfl rfl) (by rfl) (M.free z_all) (by decide +kernel) (pa_cons (pe_lc (own := [("_law_sign", 3)]) rfl nd (pi_str (pv 0)) (blkOk_by (N := N__law_name_good) (sc := defScope s__law_name_good) (by decide +kernel)) (fun _ _ _ _ _ => (pg_name (i := 3) nd rfl (Or.inl rfl))) (fun _ _ _ _ _ => pts_nil) (fun _ _ _ _ _ => (pe_cmpR op_in_sign (pv 3) (pe_op (op_add.or op_add_str) (pv 2) pe_str) (by rfl)))) pa_nil))))))), fun sc Hs Ps => ?z⟩
  case z => exact (ss_seq (ss_set (se_fz (seo_split (se_s t40_eq) (se_s t29_eq))) sg_name)
      (ss_seq (ss_set (se_s t0_eq) sg_name)
      (ss_seq (ss_if (st_or (st_not (st_test (se_chain rv_le rv_le se_i (se_cb1 (r1_len rfl) se_var) se_i))) (st_or (st_test (se_op (rv_in rfl) se_var se_var)) (st_test (se_op rv_niS (se_op (rv_ix rfl) se_var se_i) se_var)))) (ss_ret se_b) ss_nil)
      (ss_ret (se_cb1 (r1_all rfl) (se_fz (seo_lc (A := [3]) (vs := [3]) (si_str se_var) sg_name st_yes (se_op rv_inS se_var (se_op rv_add se_var (se_s t1_eq))))))))))
abbrev s__law_with_fault : Stmt := topS 46
abbrev N__law_with_fault : List Str := ["_law_d", "_law_kinds", "_law_labels", "_law_way", "_law_names", "_law_at", "_law_to", "_law_row", "_law_k"]
theorem sc__law_with_fault : FnScope N__law_with_fault ["_law_d", "_law_kinds", "_law_labels"] (defScope (topS 46)) := ⟨rfl, rfl, rfl, by decide +kernel, rfl, by decide +kernel, by decide +kernel⟩
theorem cl__law_with_fault (M : Mg K mg) (D : DefK K "_law_with_fault" s__law_with_fault) (k__law_draw : Kept P w K mg base CX0 1 "_law_draw" (spM K (REk K) F__law_draw)) (k__law_odd_name : Kept P w K mg base CX0 3 "_law_odd_name" (spM K (REk K) F__law_odd_name)) (k__law_pick : Kept P w K mg base CX0 2 "_law_pick" (spM K (REk K) F__law_pick)) (z_len : FreeK K "len") (z_range : FreeK K "range") (z_str : FreeK K "str") : Kept P w K mg base CX0 4 "_law_with_fault" (spM K (REk K) F__law_with_fault) := by
  refine cl_of (k := 3) D M (fun _ _ _ _ _ _ us hl => match us, hl with | [_, _, _], _ => rfl) sc__law_with_fault rfl rfl rfl fun f cdv A outer s H E hr => ?_
  have nd := sc__law_with_fault.nd
  refine ⟨?A, _, (pss_cons (ps_set (i := 3) nd rfl (Or.inl rfl) (pe_clS k__law_draw hr (by decide) (by rfl) (pass0S (E := L2.WE (fun c od _ H => E c od H))) (pa_cons (pv 0) (pa_cons pe_int pa_nil))))
      (pss_cons (ps_set (i := 4) nd rfl (Or.inl rfl) (pe_op op_cat (pe_lc (own := [("_law_row", 7)]) rfl nd (pi_list (pv 1)) (blkOk_by (N := N__law_with_fault) (sc := defScope s__law_with_fault) (by decide +kernel)) (fun _ _ _ _ _ => (pg_name (i := 7) nd rfl (Or.inl rfl))) (fun _ _ _ _ _ => pts_nil) (fun _ _ _ _ _ => (pe_ix (ixK (K := K) rfl) (pv 7) pe_int (fun _ _ => rfl)))) (pe_lc (own := [("_law_row", 7)]) rfl nd (pi_list (pv 2)) (blkOk_by (N := N__law_with_fault) (sc := defScope s__law_with_fault) (by decide +kernel)) (fun _ _ _ _ _ => (pg_name (i := 7) nd rfl (Or.inl rfl))) (fun _ _ _ _ _ => pts_nil) (fun _ _ _ _ _ => (pe_ix (ixK (K := K) rfl) (pv 7) pe_int (fun _ _ => rfl))))))
      (pss_cons (ps_set (i := 5) nd rfl (Or.inl rfl) (pe_clS k__law_draw hr (by decide) (by rfl) (pass0S (E := L2.WE (fun c od _ H => E c od H))) (pa_cons (pv 0) (pa_cons (pe_callB (id := "len") (lenK (K := K) rfl) (by rfl) (M.free z_len) (by decide +kernel) (pa_cons (pv 1) pa_nil)) pa_nil))))
      (pss_cons (ps_set (i := 6) nd rfl (Or.inl rfl) (pe_clS k__law_draw hr (by decide) (by rfl) (pass0S (E := L2.WE (fun c od _ H => E c od H))) (pa_cons (pv 0) (pa_cons (pe_callB (id := "len") (lenK (K := K) rfl) (by rfl) (M.free z_len) (by decide +kernel) (pa_cons (pv 2) pa_nil)) pa_nil))))
      (pss_cons (ps_set (i := 7) nd rfl (Or.inl rfl) (pe_ix (ixL (K := K) rfl) (pv 2) (pv 6) (fun _ _ => rfl)))
      (pss_cons (ps_if (pt_cmpR op_eq (pv 3) pe_int (nomark _)) (pss_one (ps_asg (pe_tup (pa_cons (pe_clS k__law_odd_name hr (by decide) (by rfl) (pass0S (E := L2.WE (fun c od _ H => E c od H))) (pa_cons (pv 0) (pa_cons (pv 4) pa_nil))) (pa_cons (pe_ix (ixK (K := K) rfl) (pe_ix (ixL (K := K) rfl) (pv 1) (pv 5) (fun _ _ => rfl)) pe_int (fun _ _ => rfl)) pa_nil))) (pg_sub (pv 1) (pv 5) set_list))) pss_nil)
      (pss_cons (ps_if (pt_cmpR op_eq (pv 3) pe_int (nomark _)) (pss_one (ps_asg (pe_op (catTK (K := K) rfl) (pe_tup (pa_cons (pe_clS k__law_odd_name hr (by decide) (by rfl) (pass0S (E := L2.WE (fun c od _ H => E c od H))) (pa_cons (pv 0) (pa_cons (pv 4) pa_nil))) pa_nil)) (pe_slice (slaK (K := K) rfl) (pv 7) (po_some pe_int) po_none)) (pg_sub (pv 2) (pv 6) set_list))) pss_nil)
      (pss_cons (ps_if (pt_cmpR op_eq (pv 3) pe_int (nomark _)) (pss_one (ps_asg (pe_tup (pa_cons (pe_ix (ixK (K := K) rfl) (pe_ix (ixL (K := K) rfl) (pv 1) (pv 5) (fun _ _ => rfl)) pe_int (fun _ _ => rfl)) (pa_cons (pe_clS k__law_pick hr (by decide) (by rfl) (pass0S (E := L2.WE (fun c od _ H => E c od H))) (pa_cons (pv 0) (pa_cons (pe_lst (pa_cons (pe_un un_neg pe_int) (pa_cons pe_int (pa_cons pe_int (pa_cons (pe_un un_neg pe_int) (pa_cons pe_int pa_nil)))))) pa_nil))) pa_nil))) (pg_sub (pv 1) (pv 5) set_list))) pss_nil)
      (pss_cons (ps_if (pt_cmpR op_eq (pv 3) pe_int (nomark _)) (pss_one (ps_asg (pe_op (catTK (K := K) rfl) (pe_tup (pa_cons (pe_ix (ixK (K := K) rfl) (pv 7) pe_int (fun _ _ => rfl)) (pa_cons (pe_clS k__law_pick hr (by decide) (by rfl) (pass0S (E := L2.WE (fun c od _ H => E c od H))) (pa_cons (pv 0) (pa_cons (pe_lst (pa_cons (pe_un un_neg pe_int) (pa_cons (pe_callB (id := "len") (lenK (K := K) rfl) (by rfl) (M.free z_len) (by decide +kernel) (pa_cons (pv 1) pa_nil)) (pa_cons pe_int (pa_cons pe_int pa_nil))))) pa_nil))) pa_nil))) (pe_slice (slaK (K := K) rfl) (pv 7) (po_some pe_int) po_none)) (pg_sub (pv 2) (pv 6) set_list))) pss_nil)
      (pss_cons (ps_if (pt_cmpR op_eq (pv 3) pe_int (nomark _)) (pss_one (ps_asg (pe_op (catTK (K := K) rfl) (pe_op (catTK (K := K) rfl) (pe_slice (slaK (K := K) rfl) (pv 7) po_none (po_some pe_int)) (pe_tup (pa_cons (pe_clS k__law_pick hr (by decide) (by rfl) (pass0S (E := L2.WE (fun c od _ H => E c od H))) (pa_cons (pv 0) (pa_cons (pe_lst (pa_cons (pe_un un_neg pe_int) (pa_cons (pe_callB (id := "len") (lenK (K := K) rfl) (by rfl) (M.free z_len) (by decide +kernel) (pa_cons (pv 1) pa_nil)) (pa_cons pe_int pa_nil)))) pa_nil))) pa_nil))) (pe_slice (slaK (K := K) rfl) (pv 7) (po_some pe_int) po_none)) (pg_sub (pv 2) (pv 6) set_list))) pss_nil)
      (pss_cons (ps_if (pt_cmpR op_eq (pv 3) pe_int (nomark _)) (pss_one (ps_asg (pe_op (catTK (K := K) rfl) (pe_slice (slaK (K := K) rfl) (pv 7) po_none (po_some pe_int)) (pe_tup (pa_cons (pe_clS k__law_pick hr (by decide) (by rfl) (pass0S (E := L2.WE (fun c od _ H => E c od H))) (pa_cons (pv 0) (pa_cons (pe_lst (pa_cons (pe_un un_neg pe_int) (pa_cons pe_int (pa_cons pe_int (pa_cons pe_int (pa_cons pe_int pa_nil)))))) pa_nil))) (pa_cons (pe_ix (ixK (K := K) rfl) (pv 7) pe_int (fun _ _ => rfl)) pa_nil)))) (pg_sub (pv 2) (pv 6) set_list))) pss_nil)
      (pss_cons (ps_if (pt_cmpR op_eq (pv 3) pe_int (nomark _)) (pss_one (ps_asg (pe_op (catTK (K := K) rfl) (pe_slice (slaK (K := K) rfl) (pv 7) po_none (po_some pe_int)) (pe_tup (pa_cons (pe_clS k__law_pick hr (by decide) (by rfl) (pass0S (E := L2.WE (fun c od _ H => E c od H))) (pa_cons (pv 0) (pa_cons (pe_lst (pa_cons pe_str (pa_cons pe_str (pa_cons pe_str (pa_cons pe_str (pa_cons pe_str pa_nil)))))) pa_nil))) pa_nil))) (pg_sub (pv 2) (pv 6) set_list))) pss_nil)
      (pss_cons (ps_if (pt_cmpR op_eq (pv 3) pe_int (nomark _)) (pss_one (ps_for PassesOwn.never rfl (pi_range1 (by rfl) (M.free z_range) (pa_cons pe_int pa_nil)) (pg_name (i := 8) nd rfl (Or.inl rfl))
      (pss_one (ps_expr (pe_bm PySem.F.plainAttrs_list PySem.F.slot_list_append PySem.F.type_list_append mt_append (pv 1) (pa_cons (pe_tup (pa_cons (pe_op (op_add.or op_add_str) (pe_op (op_add.or op_add_str) pe_str (pe_callTy (T := "str") call_str_int (by rfl) (M.free z_str) (by decide +kernel) (pa_cons (pv 8) pa_nil))) pe_str) (pa_cons pe_int pa_nil))) pa_nil)))))) pss_nil)
      (pss_cons (ps_if (pt_cmpR op_eq (pv 3) pe_int (nomark _)) (pss_one (ps_for PassesOwn.never rfl (pi_range1 (by rfl) (M.free z_range) (pa_cons pe_int pa_nil)) (pg_name (i := 8) nd rfl (Or.inl rfl))
      (pss_one (ps_expr (pe_bm PySem.F.plainAttrs_list PySem.F.slot_list_append PySem.F.type_list_append mt_append (pv 2) (pa_cons (pe_tup (pa_cons (pe_op (op_add.or op_add_str) (pe_op (op_add.or op_add_str) pe_str (pe_callTy (T := "str") call_str_int (by rfl) (M.free z_str) (by decide +kernel) (pa_cons (pv 8) pa_nil))) pe_str) (pa_cons pe_int (pa_cons pe_int (pa_cons pe_int (pa_cons pe_str pa_nil)))))) pa_nil)))))) pss_nil)
      (pss_one (ps_if (pt_cmpR op_eq (pv 3) pe_int (nomark _)) (pss_one (ps_asg (pe_tup (pa_cons (pe_ix (ixK (K := K) rfl) (pe_ix (ixL (K := K) rfl) (pv 1) (pv 5) (fun _ _ => rfl)) pe_int (fun _ _ => rfl)) (pa_cons (pe_clS k__law_pick hr (by decide) (by rfl) (pass0S (E := L2.WE (fun c od _ H => E c od H))) (pa_cons (pv 0) (pa_cons (pe_lst (pa_cons pe_int (pa_cons pe_int (pa_cons pe_int pa_nil)))) pa_nil))) pa_nil))) (pg_sub (pv 1) (pv 5) set_list))) pss_nil)))))))))))))))), fun sc Hs Ps => ?z⟩
  case z => exact (ss_seq (ss_set (se_call (sm_own (sm_val se_i sm_nil))) sg_name)
      (ss_seq (ss_set (se_fz (seo_op rn_cat (se_fz (seo_lcO (i := 1) rfl (A := [7]) (vs := [7]) sg_name st_yes (se_op (rv_ix rfl) se_var se_i))) (se_fz (seo_lcO (i := 2) rfl (A := [7]) (vs := [7]) sg_name st_yes (se_op (rv_ix rfl) se_var se_i))))) sg_name)
      (ss_seq (ss_set (se_call (sm_own (sm_val (se_cb1O (rw_len rfl)) sm_nil))) sg_name)
      (ss_seq (ss_set (se_call (sm_own (sm_val (se_cb1O (rw_len rfl)) sm_nil))) sg_name)
      (ss_seq (ss_set (se_opO (rw_ix rfl) se_var) sg_name)
      (ss_seq (ss_if (st_test (se_op rv_eq se_var se_i)) (ss_put (se_tup (sa_cons (se_call (sm_own (sm_val se_var sm_nil))) (sa_cons (se_op (rv_ix rfl) (se_opO (rw_ix rfl) se_var) se_i) sa_nil))) se_var) ss_nil)
      (ss_seq (ss_if (st_test (se_op rv_eq se_var se_i)) (ss_put (se_op (rv_catT rfl) (se_tup (sa_cons (se_call (sm_own (sm_val se_var sm_nil))) sa_nil)) (se_slT rfl se_var (so_some se_i) so_none)) se_var) ss_nil)
      (ss_seq (ss_if (st_test (se_op rv_eq se_var se_i)) (ss_put (se_tup (sa_cons (se_op (rv_ix rfl) (se_opO (rw_ix rfl) se_var) se_i) (sa_cons (se_call (sm_own (sm_val (se_fz (seo_lst (sa_cons (se_op1 r1_neg se_i) (sa_cons se_i (sa_cons se_i (sa_cons (se_op1 r1_neg se_i) (sa_cons se_i sa_nil))))))) sm_nil))) sa_nil))) se_var) ss_nil)
      (ss_seq (ss_if (st_test (se_op rv_eq se_var se_i)) (ss_put (se_op (rv_catT rfl) (se_tup (sa_cons (se_op (rv_ix rfl) se_var se_i) (sa_cons (se_call (sm_own (sm_val (se_fz (seo_lst (sa_cons (se_op1 r1_neg se_i) (sa_cons (se_cb1O (rw_len rfl)) (sa_cons se_i (sa_cons se_i sa_nil)))))) sm_nil))) sa_nil))) (se_slT rfl se_var (so_some se_i) so_none)) se_var) ss_nil)
      (ss_seq (ss_if (st_test (se_op rv_eq se_var se_i)) (ss_put (se_op (rv_catT rfl) (se_op (rv_catT rfl) (se_slT rfl se_var so_none (so_some se_i)) (se_tup (sa_cons (se_call (sm_own (sm_val (se_fz (seo_lst (sa_cons (se_op1 r1_neg se_i) (sa_cons (se_cb1O (rw_len rfl)) (sa_cons se_i sa_nil))))) sm_nil))) sa_nil))) (se_slT rfl se_var (so_some se_i) so_none)) se_var) ss_nil)
      (ss_seq (ss_if (st_test (se_op rv_eq se_var se_i)) (ss_put (se_op (rv_catT rfl) (se_slT rfl se_var so_none (so_some se_i)) (se_tup (sa_cons (se_call (sm_own (sm_val (se_fz (seo_lst (sa_cons (se_op1 r1_neg se_i) (sa_cons se_i (sa_cons se_i (sa_cons se_i (sa_cons se_i sa_nil))))))) sm_nil))) (sa_cons (se_op (rv_ix rfl) se_var se_i) sa_nil)))) se_var) ss_nil)
      (ss_seq (ss_if (st_test (se_op rv_eq se_var se_i)) (ss_put (se_op (rv_catT rfl) (se_slT rfl se_var so_none (so_some se_i)) (se_tup (sa_cons (se_call (sm_own (sm_val (se_fz (seo_lst (sa_cons (se_s t42_eq) (sa_cons (se_s t39_eq) (sa_cons (se_s t41_eq) (sa_cons (se_s t6_eq) (sa_cons (se_s t5_eq) sa_nil))))))) sm_nil))) sa_nil))) se_var) ss_nil)
      (ss_seq (ss_if (st_test (se_op rv_eq se_var se_i)) (ss_for (si_rng1 se_i) sg_name
      (ss_app (se_tup (sa_cons (se_op rv_add (se_op rv_add (se_s t43_eq) (se_cb1 r1_str se_var)) (se_s t44_eq)) (sa_cons se_i sa_nil))))) ss_nil)
      (ss_seq (ss_if (st_test (se_op rv_eq se_var se_i)) (ss_for (si_rng1 se_i) sg_name
      (ss_app (se_tup (sa_cons (se_op rv_add (se_op rv_add (se_s t45_eq) (se_cb1 r1_str se_var)) (se_s t44_eq)) (sa_cons se_i (sa_cons se_i (sa_cons se_i (sa_cons (se_s t4_eq) sa_nil)))))))) ss_nil)
      (ss_if (st_test (se_op rv_eq se_var se_i)) (ss_put (se_tup (sa_cons (se_op (rv_ix rfl) (se_opO (rw_ix rfl) se_var) se_i) (sa_cons (se_call (sm_own (sm_val (se_fz (seo_lst (sa_cons se_i (sa_cons se_i (sa_cons se_i sa_nil))))) sm_nil))) sa_nil))) se_var) ss_nil)))))))))))))))
abbrev s__law_due_kind : Stmt := topS 47
abbrev N__law_due_kind : List Str := ["_law_kinds", "_law_at", "_law_name", "_law_many", "_law_row"]
theorem sc__law_due_kind : FnScope N__law_due_kind ["_law_kinds", "_law_at"] (defScope (topS 47)) := ⟨rfl, rfl, rfl, by decide +kernel, rfl, by decide +kernel, by decide +kernel⟩
theorem cl__law_due_kind (M : Mg K mg) (D : DefK K "_law_due_kind" s__law_due_kind) (k__law_name_good : Kept P w K mg base CX0 1 "_law_name_good" (spM K (REk K) F__law_name_good)) : Kept P w K mg base CX0 2 "_law_due_kind" (spM K (REk K) F__law_due_kind) := by
  refine cl_of (k := 1) D M (fun _ _ _ _ _ _ us hl => match us, hl with | [_, _], _ => rfl) sc__law_due_kind rfl rfl rfl fun f cdv A outer s H E hr => ?_
  have nd := sc__law_due_kind.nd
  refine ⟨?A, _, (pss_cons (ps_asg (pe_ix (ixK (K := K) rfl) (pv 0) (pv 1) (fun _ _ => rfl)) (pg_tupK (K := K) (n := 2) rfl rfl (pgs_cons (pg_name (i := 2) nd rfl (Or.inl rfl)) (pgs_cons (pg_name (i := 3) nd rfl (Or.inl rfl)) pgs_nil))))
      (pss_cons (ps_if (pt_not (pt_tr (K := K) rfl (pe_clS k__law_name_good hr (by decide) (by rfl) (pass0S (E := L2.WE (fun c od _ H => E c od H))) (pa_cons (pv 2) pa_nil)) (by intro _; rfl))) (pss_one (ps_ret (pe_tup (pa_cons pe_str (pa_cons (pv 2) pa_nil))))) pss_nil)
      (pss_cons (ps_if (pt_cmpR (inK (K := K) rfl) (pv 2) (pe_lc (own := [("_law_row", 4)]) rfl nd (pi_listK (K := K) rfl (pe_slice (sllK (K := K) rfl) (pv 0) po_none (po_some (pv 1)))) (blkOk_by (N := N__law_due_kind) (sc := defScope s__law_due_kind) (by decide +kernel)) (fun _ _ _ _ _ => (pg_name (i := 4) nd rfl (Or.inl rfl))) (fun _ _ _ _ _ => pts_nil) (fun _ _ _ _ _ => (pe_ix (ixK (K := K) rfl) (pv 4) pe_int (fun _ _ => rfl)))) (by rfl)) (pss_one (ps_ret (pe_tup (pa_cons pe_str (pa_cons (pv 2) pa_nil))))) pss_nil)
      (pss_cons (ps_if (pt_not (pt_chain op_le op_le pe_int (pv 3) pe_int)) (pss_one (ps_ret (pe_tup (pa_cons pe_str (pa_cons (pv 3) pa_nil))))) pss_nil)
      (pss_one (ps_ret pe_non)))))), fun sc Hs Ps => ?z⟩
  case z => exact (ss_seq (ss_set (se_op (rv_ix rfl) se_var se_var) (sg_tup (sgs_cons sg_name (sgs_cons sg_name sgs_nil))))
      (ss_seq (ss_if (st_not (st_truth rfl (se_call (sm_val se_var sm_nil)))) (ss_ret (se_tup (sa_cons (se_s t23_eq) (sa_cons se_var sa_nil)))) ss_nil)
      (ss_seq (ss_if (st_test (se_op (rv_in rfl) se_var (se_fz (seo_lc (A := [4]) (vs := [4]) (si_list rfl (se_fz (seo_slL rfl se_var so_none (so_some se_var)))) sg_name st_yes (se_op (rv_ix rfl) se_var se_i))))) (ss_ret (se_tup (sa_cons (se_s t25_eq) (sa_cons se_var sa_nil)))) ss_nil)
      (ss_seq (ss_if (st_not (st_test (se_chain rv_le rv_le se_i se_var se_i))) (ss_ret (se_tup (sa_cons (se_s t20_eq) (sa_cons se_var sa_nil)))) ss_nil)
      (ss_ret se_n)))))
abbrev s__law_due_label : Stmt := topS 48
abbrev N__law_due_label : List Str := ["_law_kinds", "_law_labels", "_law_at", "_law_name", "_law_source", "_law_target", "_law_price", "_law_rule", "_law_number", "_law_row"]
theorem sc__law_due_label : FnScope N__law_due_label ["_law_kinds", "_law_labels", "_law_at"] (defScope (topS 48)) := ⟨rfl, rfl, rfl, by decide +kernel, rfl, by decide +kernel, by decide +kernel⟩
theorem cl__law_due_label (M : Mg K mg) (D : DefK K "_law_due_label" s__law_due_label) (k__law_name_good : Kept P w K mg base CX0 1 "_law_name_good" (spM K (REk K) F__law_name_good)) (z_len : FreeK K "len") : Kept P w K mg base CX0 2 "_law_due_label" (spM K (REk K) F__law_due_label) := by
  refine cl_of (k := 1) D M (fun _ _ _ _ _ _ us hl => match us, hl with | [_, _, _], _ => rfl) sc__law_due_label rfl rfl rfl fun f cdv A outer s H E hr => ?_
  have nd := sc__law_due_label.nd
  refine ⟨?A, _, (pss_cons (ps_asg (pe_ix (ixK (K := K) rfl) (pv 1) (pv 2) (fun _ _ => rfl)) (pg_tupK (K := K) (n := 5) rfl rfl (pgs_cons (pg_name (i := 3) nd rfl (Or.inl rfl)) (pgs_cons (pg_name (i := 4) nd rfl (Or.inl rfl)) (pgs_cons (pg_name (i := 5) nd rfl (Or.inl rfl)) (pgs_cons (pg_name (i := 6) nd rfl (Or.inl rfl)) (pgs_cons (pg_name (i := 7) nd rfl (Or.inl rfl)) pgs_nil)))))))
      (pss_cons (ps_if (pt_not (pt_tr (K := K) rfl (pe_clS k__law_name_good hr (by decide) (by rfl) (pass0S (E := L2.WE (fun c od _ H => E c od H))) (pa_cons (pv 3) pa_nil)) (by intro _; rfl))) (pss_one (ps_ret (pe_tup (pa_cons pe_str (pa_cons (pv 3) pa_nil))))) pss_nil)
      (pss_cons (ps_if (pt_cmpR (inK (K := K) rfl) (pv 3) (pe_op op_cat (pe_lc (own := [("_law_row", 9)]) rfl nd (pi_listK (K := K) rfl (pv 0)) (blkOk_by (N := N__law_due_label) (sc := defScope s__law_due_label) (by decide +kernel)) (fun _ _ _ _ _ => (pg_name (i := 9) nd rfl (Or.inl rfl))) (fun _ _ _ _ _ => pts_nil) (fun _ _ _ _ _ => (pe_ix (ixK (K := K) rfl) (pv 9) pe_int (fun _ _ => rfl)))) (pe_lc (own := [("_law_row", 9)]) rfl nd (pi_listK (K := K) rfl (pe_slice (sllK (K := K) rfl) (pv 1) po_none (po_some (pv 2)))) (blkOk_by (N := N__law_due_label) (sc := defScope s__law_due_label) (by decide +kernel)) (fun _ _ _ _ _ => (pg_name (i := 9) nd rfl (Or.inl rfl))) (fun _ _ _ _ _ => pts_nil) (fun _ _ _ _ _ => (pe_ix (ixK (K := K) rfl) (pv 9) pe_int (fun _ _ => rfl))))) (by rfl)) (pss_one (ps_ret (pe_tup (pa_cons pe_str (pa_cons (pv 3) pa_nil))))) pss_nil)
      (pss_cons (ps_for PassesOwn.never rfl (pi_tupK (K := K) rfl (pe_tup (pa_cons (pv 4) (pa_cons (pv 5) pa_nil)))) (pg_name (i := 8) nd rfl (Or.inl rfl))
      (pss_one (ps_if (pt_not (pt_chain op_le op_lt pe_int (pv 8) (pe_callB (id := "len") (lenK (K := K) rfl) (by rfl) (M.free z_len) (by decide +kernel) (pa_cons (pv 0) pa_nil)))) (pss_one (ps_ret (pe_tup (pa_cons pe_str (pa_cons (pv 8) pa_nil))))) pss_nil)))
      (pss_cons (ps_if (pt_not (pt_chain op_le op_le pe_int (pv 6) pe_int)) (pss_one (ps_ret (pe_tup (pa_cons pe_str (pa_cons (pv 6) pa_nil))))) pss_nil)
      (pss_cons (ps_if (PW.pt (pw_or (pt_cmpR (niK (K := K) rfl) (pv 7) (pe_tup (pa_cons pe_str (pa_cons pe_str (pa_cons pe_str pa_nil)))) (by rfl)) (pw_or1 (PW.pt (pw_and (pt_cmpR op_eq (pv 7) pe_str (nomark _)) (pw_and1 (pt_cmpR op_ne (pv 4) (pv 5) (nomark _)))))))) (pss_one (ps_ret (pe_tup (pa_cons pe_str (pa_cons (pv 3) pa_nil))))) pss_nil)
      (pss_one (ps_ret pe_non)))))))), fun sc Hs Ps => ?z⟩
  case z => exact (ss_seq (ss_set (se_op (rv_ix rfl) se_var se_var) (sg_tup (sgs_cons sg_name (sgs_cons sg_name (sgs_cons sg_name (sgs_cons sg_name (sgs_cons sg_name sgs_nil)))))))
      (ss_seq (ss_if (st_not (st_truth rfl (se_call (sm_val se_var sm_nil)))) (ss_ret (se_tup (sa_cons (se_s t23_eq) (sa_cons se_var sa_nil)))) ss_nil)
      (ss_seq (ss_if (st_test (se_op (rv_in rfl) se_var (se_fz (seo_op rn_cat (se_fz (seo_lc (A := [9]) (vs := [9]) (si_list rfl se_var) sg_name st_yes (se_op (rv_ix rfl) se_var se_i))) (se_fz (seo_lc (A := [9]) (vs := [9]) (si_list rfl (se_fz (seo_slL rfl se_var so_none (so_some se_var)))) sg_name st_yes (se_op (rv_ix rfl) se_var se_i))))))) (ss_ret (se_tup (sa_cons (se_s t25_eq) (sa_cons se_var sa_nil)))) ss_nil)
      (ss_seq (ss_for (si_tup rfl (se_tup (sa_cons se_var (sa_cons se_var sa_nil)))) sg_name
      (ss_if (st_not (st_test (se_chain rv_le rv_lt se_i se_var (se_cb1 (r1_len rfl) se_var)))) (ss_ret (se_tup (sa_cons (se_s t20_eq) (sa_cons se_var sa_nil)))) ss_nil))
      (ss_seq (ss_if (st_not (st_test (se_chain rv_le rv_le se_i se_var se_i))) (ss_ret (se_tup (sa_cons (se_s t20_eq) (sa_cons se_var sa_nil)))) ss_nil)
      (ss_seq (ss_if (st_or (st_test (se_op (rv_ni rfl) se_var (se_tup (sa_cons (se_s t4_eq) (sa_cons (se_s t5_eq) (sa_cons (se_s t6_eq) sa_nil)))))) (st_and (st_test (se_op rv_eq se_var (se_s t6_eq))) (st_test (se_op rv_ne se_var se_var)))) (ss_ret (se_tup (sa_cons (se_s t26_eq) (sa_cons se_var sa_nil)))) ss_nil)
      (ss_ret se_n)))))))
abbrev s__law_due : Stmt := topS 49
abbrev N__law_due : List Str := ["_law_kinds", "_law_labels", "_law_at", "_law_due_here", "_law_row"]
theorem sc__law_due : FnScope N__law_due ["_law_kinds", "_law_labels"] (defScope (topS 49)) := ⟨rfl, rfl, rfl, by decide +kernel, rfl, by decide +kernel, by decide +kernel⟩
theorem cl__law_due (M : Mg K mg) (D : DefK K "_law_due" s__law_due) (k__law_due_kind : Kept P w K mg base CX0 2 "_law_due_kind" (spM K (REk K) F__law_due_kind)) (k__law_due_label : Kept P w K mg base CX0 2 "_law_due_label" (spM K (REk K) F__law_due_label)) (z_len : FreeK K "len") (z_range : FreeK K "range") (z_sum : FreeK K "sum") : Kept P w K mg base CX0 3 "_law_due" (spM K (REk K) F__law_due) := by
  refine cl_of (k := 2) D M (fun _ _ _ _ _ _ us hl => match us, hl with | [_, _], _ => rfl) sc__law_due rfl rfl rfl fun f cdv A outer s H E hr => ?_
  have nd := sc__law_due.nd
  refine ⟨?A, _, (pss_cons (ps_if (pt_cmpR op_gt (pe_callB (id := "len") (lenK (K := K) rfl) (by rfl) (M.free z_len) (by decide +kernel) (pa_cons (pv 0) pa_nil)) pe_int (nomark _)) (pss_one (ps_ret (pe_tup (pa_cons pe_str (pa_cons pe_str pa_nil))))) pss_nil)
      (pss_cons (ps_if (pt_cmpR op_gt (pe_callB (id := "len") (lenK (K := K) rfl) (by rfl) (M.free z_len) (by decide +kernel) (pa_cons (pv 1) pa_nil)) pe_int (nomark _)) (pss_one (ps_ret (pe_tup (pa_cons pe_str (pa_cons pe_str pa_nil))))) pss_nil)
      (pss_cons (ps_for PassesOwn.never rfl (pi_range1 (by rfl) (M.free z_range) (pa_cons (pe_callB (id := "len") (lenK (K := K) rfl) (by rfl) (M.free z_len) (by decide +kernel) (pa_cons (pv 0) pa_nil)) pa_nil)) (pg_name (i := 2) nd rfl (Or.inl rfl))
      (pss_cons (ps_set (i := 3) nd rfl (Or.inl rfl) (pe_clS k__law_due_kind hr (by decide) (by rfl) (pass0S (E := L2.WE (fun c od _ H => E c od H))) (pa_cons (pv 0) (pa_cons (pv 2) pa_nil))))
      (pss_one (ps_if (pt_cmpR op_notN (pv 3) pe_non (by rfl)) (pss_one (ps_ret (pv 3))) pss_nil))))
      (pss_cons (ps_for PassesOwn.never rfl (pi_range1 (by rfl) (M.free z_range) (pa_cons (pe_callB (id := "len") (lenK (K := K) rfl) (by rfl) (M.free z_len) (by decide +kernel) (pa_cons (pv 1) pa_nil)) pa_nil)) (pg_name (i := 2) nd rfl (Or.inl rfl))
      (pss_cons (ps_set (i := 3) nd rfl (Or.inl rfl) (pe_clS k__law_due_label hr (by decide) (by rfl) (pass0S (E := L2.WE (fun c od _ H => E c od H))) (pa_cons (pv 0) (pa_cons (pv 1) (pa_cons (pv 2) pa_nil)))))
      (pss_one (ps_if (pt_cmpR op_notN (pv 3) pe_non (by rfl)) (pss_one (ps_ret (pv 3))) pss_nil))))
      (pss_cons (ps_if (pt_cmpR op_gt (pe_callB (id := "sum") (sumK (K := K) rfl rfl) (by rfl) (M.free z_sum) (by decide +kernel) (pa_cons (pe_lc (own := [("_law_row", 4)]) rfl nd (pi_listK (K := K) rfl (pv 0)) (blkOk_by (N := N__law_due) (sc := defScope s__law_due) (by decide +kernel)) (fun _ _ _ _ _ => (pg_name (i := 4) nd rfl (Or.inl rfl))) (fun _ _ _ _ _ => pts_nil) (fun _ _ _ _ _ => (pe_ix (ixK (K := K) rfl) (pv 4) pe_int (fun _ _ => rfl)))) pa_nil)) pe_int (nomark _)) (pss_one (ps_ret (pe_tup (pa_cons pe_str (pa_cons pe_str pa_nil))))) pss_nil)
      (pss_one (ps_ret pe_non))))))), fun sc Hs Ps => ?z⟩
  case z => exact (ss_seq (ss_if (st_test (se_op rv_gt (se_cb1 (r1_len rfl) se_var) se_i)) (ss_ret (se_tup (sa_cons (se_s t17_eq) (sa_cons (se_s t16_eq) sa_nil)))) ss_nil)
      (ss_seq (ss_if (st_test (se_op rv_gt (se_cb1 (r1_len rfl) se_var) se_i)) (ss_ret (se_tup (sa_cons (se_s t17_eq) (sa_cons (se_s t19_eq) sa_nil)))) ss_nil)
      (ss_seq (ss_for (si_rng1 (se_cb1 (r1_len rfl) se_var)) sg_name
      (ss_seq (ss_set (se_call (sm_val se_var (sm_val se_var sm_nil))) sg_name)
      (ss_if (st_test (se_op rv_noN se_var se_n)) (ss_ret se_var) ss_nil)))
      (ss_seq (ss_for (si_rng1 (se_cb1 (r1_len rfl) se_var)) sg_name
      (ss_seq (ss_set (se_call (sm_val se_var (sm_val se_var (sm_val se_var sm_nil)))) sg_name)
      (ss_if (st_test (se_op rv_noN se_var se_n)) (ss_ret se_var) ss_nil)))
      (ss_seq (ss_if (st_test (se_op rv_gt (se_cb1 (r1_sum rfl) (se_fz (seo_lc (A := [4]) (vs := [4]) (si_list rfl se_var) sg_name st_yes (se_op (rv_ix rfl) se_var se_i)))) se_i)) (ss_ret (se_tup (sa_cons (se_s t17_eq) (sa_cons (se_s t22_eq) sa_nil)))) ss_nil)
      (ss_ret se_n))))))
abbrev s__law_class : Stmt := topS 50
abbrev N__law_class : List Str := ["_law_bad", "_law_found"]
theorem sc__law_class : FnScope N__law_class ["_law_bad"] (defScope (topS 50)) := ⟨rfl, rfl, rfl, by decide +kernel, rfl, by decide +kernel, by decide +kernel⟩
theorem cl__law_class (M : Mg K mg) (D : DefK K "_law_class" s__law_class) {C_BadName : Addr} (n_BadName : PySem.W.nsIn K mainGlobals "BadName" = some (some (.ref C_BadName))) {C_BadNumber : Addr} (n_BadNumber : PySem.W.nsIn K mainGlobals "BadNumber" = some (some (.ref C_BadNumber))) {C_BadRule : Addr} (n_BadRule : PySem.W.nsIn K mainGlobals "BadRule" = some (some (.ref C_BadRule))) {C_LimitError : Addr} (n_LimitError : PySem.W.nsIn K mainGlobals "LimitError" = some (some (.ref C_LimitError))) {C_SchemaError : Addr} (n_SchemaError : PySem.W.nsIn K mainGlobals "SchemaError" = some (some (.ref C_SchemaError))) {C_TooLarge : Addr} (n_TooLarge : PySem.W.nsIn K mainGlobals "TooLarge" = some (some (.ref C_TooLarge))) {C_Twice : Addr} (n_Twice : PySem.W.nsIn K mainGlobals "Twice" = some (some (.ref C_Twice))) {C_Unknown : Addr} (n_Unknown : PySem.W.nsIn K mainGlobals "Unknown" = some (some (.ref C_Unknown))) (kt_BadName : ∀ c b E0, tab_BadName.lookup c = some b → PySem.W.nsIn K mainGlobals (sOf c) = some (some (.ref E0)) → PySem.W.kitOne K (.ref E0) (.ref C_BadName) = some b) (kt_BadNumber : ∀ c b E0, tab_BadNumber.lookup c = some b → PySem.W.nsIn K mainGlobals (sOf c) = some (some (.ref E0)) → PySem.W.kitOne K (.ref E0) (.ref C_BadNumber) = some b) (kt_BadRule : ∀ c b E0, tab_BadRule.lookup c = some b → PySem.W.nsIn K mainGlobals (sOf c) = some (some (.ref E0)) → PySem.W.kitOne K (.ref E0) (.ref C_BadRule) = some b) (kt_LimitError : ∀ c b E0, tab_LimitError.lookup c = some b → PySem.W.nsIn K mainGlobals (sOf c) = some (some (.ref E0)) → PySem.W.kitOne K (.ref E0) (.ref C_LimitError) = some b) (kt_SchemaError : ∀ c b E0, tab_SchemaError.lookup c = some b → PySem.W.nsIn K mainGlobals (sOf c) = some (some (.ref E0)) → PySem.W.kitOne K (.ref E0) (.ref C_SchemaError) = some b) (kt_TooLarge : ∀ c b E0, tab_TooLarge.lookup c = some b → PySem.W.nsIn K mainGlobals (sOf c) = some (some (.ref E0)) → PySem.W.kitOne K (.ref E0) (.ref C_TooLarge) = some b) (kt_Twice : ∀ c b E0, tab_Twice.lookup c = some b → PySem.W.nsIn K mainGlobals (sOf c) = some (some (.ref E0)) → PySem.W.kitOne K (.ref E0) (.ref C_Twice) = some b) (kt_Unknown : ∀ c b E0, tab_Unknown.lookup c = some b → PySem.W.nsIn K mainGlobals (sOf c) = some (some (.ref E0)) → PySem.W.kitOne K (.ref E0) (.ref C_Unknown) = some b) (kt_ValueError : ∀ c b E0, tab_ValueError.lookup c = some b → PySem.W.nsIn K mainGlobals (sOf c) = some (some (.ref E0)) → PySem.W.kitOne K (.ref E0) (.type "ValueError") = some b) (z_ValueError : FreeK K "ValueError") (z_isinstance : FreeK K "isinstance") : KeptH P w K mg base 1 "_law_class" (spH K (REk K) NL F__law_class) := by
  refine cl_ofH (k := 0) D M (fun _ _ _ _ _ _ us hl => match us, hl with | [_], _ => rfl) sc__law_class rfl rfl rfl fun f cdv A outer s H E p E0 dd hz hfl hr ef => ?_
  have nd := sc__law_class.nd
  refine ⟨?A, _, (pss_cons (ps_set (i := 1) nd rfl (Or.inl rfl) (pe_lst pa_nil))
      (pss_cons (ps_if (PW.pt (pw_and (pt_tr (K := K) rfl (pe_callB (id := "isinstance") (call_isP ef List.mem_cons_self hz hfl) (by rfl) (M.free z_isinstance) (by decide +kernel) (pa_cons (pv 0) (pa_cons (C8.pe_gc rfl (M.con (conR n_BadName))) pa_nil))) (by intro _; rfl)) (pw_and1 (pt_tr (K := K) rfl (pe_callB (id := "isinstance") (call_isP ef List.mem_cons_self hz hfl) (by rfl) (M.free z_isinstance) (by decide +kernel) (pa_cons (pv 0) (pa_cons (C8.pe_gc rfl (M.con (conR n_SchemaError))) pa_nil))) (by intro _; rfl))))) (pss_one (ps_expr (pe_bm PySem.F.plainAttrs_list PySem.F.slot_list_append PySem.F.type_list_append mt_append (pv 1) (pa_cons (pe_tup (pa_cons pe_str (pa_cons (pe_xfP ef (by decide) List.mem_cons_self hz hfl (pv 0)) pa_nil))) pa_nil)))) pss_nil)
      (pss_cons (ps_if (PW.pt (pw_and (pt_tr (K := K) rfl (pe_callB (id := "isinstance") (call_isP ef List.mem_cons_self hz hfl) (by rfl) (M.free z_isinstance) (by decide +kernel) (pa_cons (pv 0) (pa_cons (C8.pe_gc rfl (M.con (conR n_Twice))) pa_nil))) (by intro _; rfl)) (pw_and1 (pt_tr (K := K) rfl (pe_callB (id := "isinstance") (call_isP ef List.mem_cons_self hz hfl) (by rfl) (M.free z_isinstance) (by decide +kernel) (pa_cons (pv 0) (pa_cons (C8.pe_gc rfl (M.con (conR n_SchemaError))) pa_nil))) (by intro _; rfl))))) (pss_one (ps_expr (pe_bm PySem.F.plainAttrs_list PySem.F.slot_list_append PySem.F.type_list_append mt_append (pv 1) (pa_cons (pe_tup (pa_cons pe_str (pa_cons (pe_xfP ef (by decide) List.mem_cons_self hz hfl (pv 0)) pa_nil))) pa_nil)))) pss_nil)
      (pss_cons (ps_if (PW.pt (pw_and (pt_tr (K := K) rfl (pe_callB (id := "isinstance") (call_isP ef List.mem_cons_self hz hfl) (by rfl) (M.free z_isinstance) (by decide +kernel) (pa_cons (pv 0) (pa_cons (C8.pe_gc rfl (M.con (conR n_BadNumber))) pa_nil))) (by intro _; rfl)) (pw_and1 (pt_tr (K := K) rfl (pe_callB (id := "isinstance") (call_isP ef List.mem_cons_self hz hfl) (by rfl) (M.free z_isinstance) (by decide +kernel) (pa_cons (pv 0) (pa_cons (C8.pe_gc rfl (M.con (conR n_SchemaError))) pa_nil))) (by intro _; rfl))))) (pss_one (ps_expr (pe_bm PySem.F.plainAttrs_list PySem.F.slot_list_append PySem.F.type_list_append mt_append (pv 1) (pa_cons (pe_tup (pa_cons pe_str (pa_cons (pe_xfP ef (by decide) List.mem_cons_self hz hfl (pv 0)) pa_nil))) pa_nil)))) pss_nil)
      (pss_cons (ps_if (PW.pt (pw_and (pt_tr (K := K) rfl (pe_callB (id := "isinstance") (call_isP ef List.mem_cons_self hz hfl) (by rfl) (M.free z_isinstance) (by decide +kernel) (pa_cons (pv 0) (pa_cons (C8.pe_gc rfl (M.con (conR n_BadRule))) pa_nil))) (by intro _; rfl)) (pw_and1 (pt_tr (K := K) rfl (pe_callB (id := "isinstance") (call_isP ef List.mem_cons_self hz hfl) (by rfl) (M.free z_isinstance) (by decide +kernel) (pa_cons (pv 0) (pa_cons (C8.pe_gc rfl (M.con (conR n_SchemaError))) pa_nil))) (by intro _; rfl))))) (pss_one (ps_expr (pe_bm PySem.F.plainAttrs_list PySem.F.slot_list_append PySem.F.type_list_append mt_append (pv 1) (pa_cons (pe_tup (pa_cons pe_str (pa_cons (pe_xfP ef (by decide) List.mem_cons_self hz hfl (pv 0)) pa_nil))) pa_nil)))) pss_nil)
      (pss_cons (ps_if (PW.pt (pw_and (pt_tr (K := K) rfl (pe_callB (id := "isinstance") (call_isP ef List.mem_cons_self hz hfl) (by rfl) (M.free z_isinstance) (by decide +kernel) (pa_cons (pv 0) (pa_cons (C8.pe_gc rfl (M.con (conR n_TooLarge))) pa_nil))) (by intro _; rfl)) (pw_and1 (pt_tr (K := K) rfl (pe_callB (id := "isinstance") (call_isP ef List.mem_cons_self hz hfl) (by rfl) (M.free z_isinstance) (by decide +kernel) (pa_cons (pv 0) (pa_cons (C8.pe_gc rfl (M.con (conR n_LimitError))) pa_nil))) (by intro _; rfl))))) (pss_one (ps_expr (pe_bm PySem.F.plainAttrs_list PySem.F.slot_list_append PySem.F.type_list_append mt_append (pv 1) (pa_cons (pe_tup (pa_cons pe_str (pa_cons (pe_xfP ef (by decide) List.mem_cons_self hz hfl (pv 0)) pa_nil))) pa_nil)))) pss_nil)
      (pss_cons (ps_if (PW.pt (pw_or (pt_tr (K := K) rfl (pe_callB (id := "isinstance") (call_isP ef List.mem_cons_self hz hfl) (by rfl) (M.free z_isinstance) (by decide +kernel) (pa_cons (pv 0) (pa_cons (C8.pe_gc rfl (M.con (conR n_Unknown))) pa_nil))) (by intro _; rfl)) (pw_or1 (pt_not (pt_tr (K := K) rfl (pe_callB (id := "isinstance") (call_isP ef List.mem_cons_self hz hfl) (by rfl) (M.free z_isinstance) (by decide +kernel) (pa_cons (pv 0) (pa_cons (pe_bltn (v := .ty "ValueError") (u := .type "ValueError") (by rfl) (M.free z_ValueError) (by decide +kernel) rfl) pa_nil))) (by intro _; rfl)))))) (pss_one (ps_expr (pe_bm PySem.F.plainAttrs_list PySem.F.slot_list_append PySem.F.type_list_append mt_append (pv 1) (pa_cons (pe_tup (pa_cons pe_str (pa_cons pe_str pa_nil))) pa_nil)))) pss_nil)
      (pss_cons (ps_if (PW.pt (pw_and (pt_tr (K := K) rfl (pe_callB (id := "isinstance") (call_isP ef List.mem_cons_self hz hfl) (by rfl) (M.free z_isinstance) (by decide +kernel) (pa_cons (pv 0) (pa_cons (C8.pe_gc rfl (M.con (conR n_SchemaError))) pa_nil))) (by intro _; rfl)) (pw_and1 (pt_tr (K := K) rfl (pe_callB (id := "isinstance") (call_isP ef List.mem_cons_self hz hfl) (by rfl) (M.free z_isinstance) (by decide +kernel) (pa_cons (pv 0) (pa_cons (C8.pe_gc rfl (M.con (conR n_LimitError))) pa_nil))) (by intro _; rfl))))) (pss_one (ps_expr (pe_bm PySem.F.plainAttrs_list PySem.F.slot_list_append PySem.F.type_list_append mt_append (pv 1) (pa_cons (pe_tup (pa_cons pe_str (pa_cons pe_str pa_nil))) pa_nil)))) pss_nil)
      (pss_one (ps_ret (pv 1))))))))))), fun sc Hs Ps hx => ?z⟩
  case z => exact (ss_seq (ss_setO (seo_lst sa_nil))
      (ss_seq (ss_if (st_and (st_truth rfl (se_isX (C := ⟨K, sc, H, Ps, Hs, (fun c od _ H => E c od H), REk K⟩) rfl hx (cls := .ref C_BadName) (cv := .ref C_BadName) (tab := tab_BadName) (fun u h => h) (fun c b => kt_BadName c b E0) se_var)) (st_truth rfl (se_isX (C := ⟨K, sc, H, Ps, Hs, (fun c od _ H => E c od H), REk K⟩) rfl hx (cls := .ref C_SchemaError) (cv := .ref C_SchemaError) (tab := tab_SchemaError) (fun u h => h) (fun c b => kt_SchemaError c b E0) se_var))) (ss_app (se_tup (sa_cons (se_s t23_eq) (sa_cons (se_fld (C := ⟨K, sc, H, Ps, Hs, (fun c od _ H => E c od H), REk K⟩) hx t24_eq se_var) sa_nil)))) ss_nil)
      (ss_seq (ss_if (st_and (st_truth rfl (se_isX (C := ⟨K, sc, H, Ps, Hs, (fun c od _ H => E c od H), REk K⟩) rfl hx (cls := .ref C_Twice) (cv := .ref C_Twice) (tab := tab_Twice) (fun u h => h) (fun c b => kt_Twice c b E0) se_var)) (st_truth rfl (se_isX (C := ⟨K, sc, H, Ps, Hs, (fun c od _ H => E c od H), REk K⟩) rfl hx (cls := .ref C_SchemaError) (cv := .ref C_SchemaError) (tab := tab_SchemaError) (fun u h => h) (fun c b => kt_SchemaError c b E0) se_var))) (ss_app (se_tup (sa_cons (se_s t25_eq) (sa_cons (se_fld (C := ⟨K, sc, H, Ps, Hs, (fun c od _ H => E c od H), REk K⟩) hx t24_eq se_var) sa_nil)))) ss_nil)
      (ss_seq (ss_if (st_and (st_truth rfl (se_isX (C := ⟨K, sc, H, Ps, Hs, (fun c od _ H => E c od H), REk K⟩) rfl hx (cls := .ref C_BadNumber) (cv := .ref C_BadNumber) (tab := tab_BadNumber) (fun u h => h) (fun c b => kt_BadNumber c b E0) se_var)) (st_truth rfl (se_isX (C := ⟨K, sc, H, Ps, Hs, (fun c od _ H => E c od H), REk K⟩) rfl hx (cls := .ref C_SchemaError) (cv := .ref C_SchemaError) (tab := tab_SchemaError) (fun u h => h) (fun c b => kt_SchemaError c b E0) se_var))) (ss_app (se_tup (sa_cons (se_s t20_eq) (sa_cons (se_fld (C := ⟨K, sc, H, Ps, Hs, (fun c od _ H => E c od H), REk K⟩) hx t21_eq se_var) sa_nil)))) ss_nil)
      (ss_seq (ss_if (st_and (st_truth rfl (se_isX (C := ⟨K, sc, H, Ps, Hs, (fun c od _ H => E c od H), REk K⟩) rfl hx (cls := .ref C_BadRule) (cv := .ref C_BadRule) (tab := tab_BadRule) (fun u h => h) (fun c b => kt_BadRule c b E0) se_var)) (st_truth rfl (se_isX (C := ⟨K, sc, H, Ps, Hs, (fun c od _ H => E c od H), REk K⟩) rfl hx (cls := .ref C_SchemaError) (cv := .ref C_SchemaError) (tab := tab_SchemaError) (fun u h => h) (fun c b => kt_SchemaError c b E0) se_var))) (ss_app (se_tup (sa_cons (se_s t26_eq) (sa_cons (se_fld (C := ⟨K, sc, H, Ps, Hs, (fun c od _ H => E c od H), REk K⟩) hx t24_eq se_var) sa_nil)))) ss_nil)
      (ss_seq (ss_if (st_and (st_truth rfl (se_isX (C := ⟨K, sc, H, Ps, Hs, (fun c od _ H => E c od H), REk K⟩) rfl hx (cls := .ref C_TooLarge) (cv := .ref C_TooLarge) (tab := tab_TooLarge) (fun u h => h) (fun c b => kt_TooLarge c b E0) se_var)) (st_truth rfl (se_isX (C := ⟨K, sc, H, Ps, Hs, (fun c od _ H => E c od H), REk K⟩) rfl hx (cls := .ref C_LimitError) (cv := .ref C_LimitError) (tab := tab_LimitError) (fun u h => h) (fun c b => kt_LimitError c b E0) se_var))) (ss_app (se_tup (sa_cons (se_s t17_eq) (sa_cons (se_fld (C := ⟨K, sc, H, Ps, Hs, (fun c od _ H => E c od H), REk K⟩) hx t18_eq se_var) sa_nil)))) ss_nil)
      (ss_seq (ss_if (st_or (st_truth rfl (se_isX (C := ⟨K, sc, H, Ps, Hs, (fun c od _ H => E c od H), REk K⟩) rfl hx (cls := .ref C_Unknown) (cv := .ref C_Unknown) (tab := tab_Unknown) (fun u h => h) (fun c b => kt_Unknown c b E0) se_var)) (st_not (st_truth rfl (se_isX (C := ⟨K, sc, H, Ps, Hs, (fun c od _ H => E c od H), REk K⟩) rfl hx (cls := .ty "ValueError") (cv := .type "ValueError") (tab := tab_ValueError) (fun u h => h) (fun c b => kt_ValueError c b E0) se_var)))) (ss_app (se_tup (sa_cons (se_s t46_eq) (sa_cons (se_s t39_eq) sa_nil)))) ss_nil)
      (ss_seq (ss_if (st_and (st_truth rfl (se_isX (C := ⟨K, sc, H, Ps, Hs, (fun c od _ H => E c od H), REk K⟩) rfl hx (cls := .ref C_SchemaError) (cv := .ref C_SchemaError) (tab := tab_SchemaError) (fun u h => h) (fun c b => kt_SchemaError c b E0) se_var)) (st_truth rfl (se_isX (C := ⟨K, sc, H, Ps, Hs, (fun c od _ H => E c od H), REk K⟩) rfl hx (cls := .ref C_LimitError) (cv := .ref C_LimitError) (tab := tab_LimitError) (fun u h => h) (fun c b => kt_LimitError c b E0) se_var))) (ss_app (se_tup (sa_cons (se_s t46_eq) (sa_cons (se_s t39_eq) sa_nil)))) ss_nil)
      ss_retV))))))))
abbrev s__law_checked : Stmt := topS 51
abbrev N__law_checked : List Str := ["_law_schema_here", "_law_bad"]
theorem sc__law_checked : FnScope N__law_checked ["_law_schema_here"] (defScope (topS 51)) := ⟨rfl, rfl, rfl, by decide +kernel, rfl, by decide +kernel, by decide +kernel⟩
theorem cl__law_checked (M : Mg K mg) (D : DefK K "_law_checked" s__law_checked) (k_check_schema : Kept P w K mg base (L2.CX P w) 4 "check_schema" (spM K (REk K) F_check_schema)) (h__law_class : KeptH P w K mg base 1 "_law_class" (spH K (REk K) NL F__law_class)) {C_AwayError : Addr} (n_AwayError : PySem.W.nsIn K mainGlobals "AwayError" = some (some (.ref C_AwayError))) (xm_AwayError : ∀ c b E0, tab_AwayError.lookup c = some b → PySem.W.nsIn K mainGlobals (sOf c) = some (some (.ref E0)) → PySem.W.exmOne K (.ref E0) (.ref C_AwayError) = some b) (xf_AwayError : ∀ c E0, tab_AwayError.lookup c = some true → PySem.W.nsIn K mainGlobals (sOf c) = some (some (.ref E0)) → ErrF K NL E0) : Kept P w K mg base CX0 5 "_law_checked" (spM K (REk K) F__law_checked) := by
  refine cl_of (k := 4) D M (fun _ _ _ _ _ _ us hl => match us, hl with | [_], _ => rfl) sc__law_checked rfl rfl rfl fun f cdv A outer s H E hr => ?_
  have nd := sc__law_checked.nd
  refine ⟨?A, _, (pss_cons (ps_tryF (i := 1) (E' := fun _ _ _ _ => False) h__law_class hr (by decide) rfl rfl nd rfl rfl ⟨by rfl, by decide, .inl (M.get n_AwayError)⟩ takes0 (Or.inl rfl) (by rfl) rfl rfl rfl (fun W pn xe tk po => (pss_one (ps_if (pt_cmpR op_notN (pe_clS k_check_schema hr (by decide) (by rfl) (fun σ => passAt tk σ) (pa_cons (pv 0) pa_nil)) pe_non (by rfl)) (pss_one (ps_ret (pe_lst (pa_cons (pe_tup (pa_cons pe_str (pa_cons pe_str pa_nil))) pa_nil)))) pss_nil))))
      (pss_one (ps_ret (pe_lst pa_nil)))), fun sc Hs Ps => ?z⟩
  case z => exact (ss_seq (ss_tryF (C := ⟨K, sc, H, Ps, Hs, (fun c od _ H => E c od H), REk K⟩) rfl rfl xm_AwayError (tab_all (by decide)) xf_AwayError (fun W => (ss_if (st_test (se_op rv_noN (se_call (sm_val se_var sm_nil)) se_n)) (ss_retO (seo_lst (sa_cons (se_tup (sa_cons (se_s t46_eq) (sa_cons (se_s t39_eq) sa_nil))) sa_nil))) ss_nil)))
      (ss_retO (seo_lst sa_nil)))
abbrev s__law_nodes_right : Stmt := topS 52
abbrev N__law_nodes_right : List Str := ["_law_schema_here", "_law_told", "_law_kind", "_law_nodes_here", "_law_node", "_law_row"]
theorem sc__law_nodes_right : FnScope N__law_nodes_right ["_law_schema_here"] (defScope (topS 52)) := ⟨rfl, rfl, rfl, by decide +kernel, rfl, by decide +kernel, by decide +kernel⟩
theorem cl__law_nodes_right (M : Mg K mg) (D : DefK K "_law_nodes_right" s__law_nodes_right) (k__law_is_int : Kept P w K mg base CX0 1 "_law_is_int" (spM K (REk K) F__law_is_int)) (k__law_nodes : Kept P w K mg base CX0 2 "_law_nodes" (spM K (REk K) F__law_nodes)) (k_kind_of : Kept P w K mg base CX0 1 "kind_of" (spM K (REk K) F_kind_of)) (k_node_count : Kept P w K mg base CX0 1 "node_count" (spM K (REk K) F_node_count)) (k_nodes_of : Kept P w K mg base CX0 2 "nodes_of" (spM K (REk K) F_nodes_of)) (z_len : FreeK K "len") (z_range : FreeK K "range") (z_sum : FreeK K "sum") (z_tuple : FreeK K "tuple") : Kept P w K mg base CX0 3 "_law_nodes_right" (spM K (REk K) F__law_nodes_right) := by
  refine cl_of (k := 2) D M (fun _ _ _ _ _ _ us hl => match us, hl with | [_], _ => rfl) sc__law_nodes_right rfl rfl rfl fun f cdv A outer s H E hr => ?_
  have nd := sc__law_nodes_right.nd
  refine ⟨?A, _, (pss_cons (ps_set (i := 1) nd rfl (Or.inl rfl) (pe_clS k_node_count hr (by decide) (by rfl) (pass0S (E := L2.WE (fun c od _ H => E c od H))) (pa_cons (pv 0) pa_nil)))
      (pss_cons (ps_if (PW.pt (pw_or (pt_not (pt_tr (K := K) rfl (pe_clS k__law_is_int hr (by decide) (by rfl) (pass0S (E := L2.WE (fun c od _ H => E c od H))) (pa_cons (pv 1) pa_nil)) (by intro _; rfl))) (pw_or1 (pt_cmpR op_ne (pv 1) (pe_callB (id := "sum") (sumK (K := K) rfl rfl) (by rfl) (M.free z_sum) (by decide +kernel) (pa_cons (pe_lc (own := [("_law_row", 5)]) rfl nd (pi_tupK (K := K) rfl (pe_ix (ixK (K := K) rfl) (pv 0) pe_int (fun _ _ => rfl))) (blkOk_by (N := N__law_nodes_right) (sc := defScope s__law_nodes_right) (by decide +kernel)) (fun _ _ _ _ _ => (pg_name (i := 5) nd rfl (Or.inl rfl))) (fun _ _ _ _ _ => pts_nil) (fun _ _ _ _ _ => (pe_ix (ixK (K := K) rfl) (pv 5) pe_int (fun _ _ => rfl)))) pa_nil)) (nomark _))))) (pss_one (ps_ret pe_bl)) pss_nil)
      (pss_cons (ps_for PassesOwn.never rfl (pi_range1 (by rfl) (M.free z_range) (pa_cons (pe_callB (id := "len") (lenK (K := K) rfl) (by rfl) (M.free z_len) (by decide +kernel) (pa_cons (pe_ix (ixK (K := K) rfl) (pv 0) pe_int (fun _ _ => rfl)) pa_nil)) pa_nil)) (pg_name (i := 2) nd rfl (Or.inl rfl))
      (pss_cons (ps_set (i := 3) nd rfl (Or.inl rfl) (pe_clS k__law_nodes hr (by decide) (by rfl) (pass0S (E := L2.WE (fun c od _ H => E c od H))) (pa_cons (pv 0) (pa_cons (pv 2) pa_nil))))
      (pss_cons (ps_if (pt_cmpR (nedK (K := K) rfl hr.units) (pe_clS k_nodes_of hr (by decide) (by rfl) (pass0S (E := L2.WE (fun c od _ H => E c od H))) (pa_cons (pv 0) (pa_cons (pv 2) pa_nil))) (pe_callTy (T := "tuple") (tupK (K := K) rfl) (by rfl) (M.free z_tuple) (by decide +kernel) (pa_cons (pv 3) pa_nil)) (nomark _)) (pss_one (ps_ret pe_bl)) pss_nil)
      (pss_one (ps_for PassesOwn.never rfl (pi_listK (K := K) rfl (pv 3)) (pg_name (i := 4) nd rfl (Or.inl rfl))
      (pss_one (ps_if (PW.pt (pw_or (pt_cmpR (nedK (K := K) rfl hr.units) (pe_clS k_kind_of hr (by decide) (by rfl) (pass0S (E := L2.WE (fun c od _ H => E c od H))) (pa_cons (pv 0) (pa_cons (pv 4) pa_nil))) (pv 2) (nomark _)) (pw_or1 (pt_not (pt_tr (K := K) rfl (pe_clS k__law_is_int hr (by decide) (by rfl) (pass0S (E := L2.WE (fun c od _ H => E c od H))) (pa_cons (pe_clS k_kind_of hr (by decide) (by rfl) (pass0S (E := L2.WE (fun c od _ H => E c od H))) (pa_cons (pv 0) (pa_cons (pv 4) pa_nil))) pa_nil)) (by intro _; rfl)))))) (pss_one (ps_ret pe_bl)) pss_nil)))))))
      (pss_one (ps_ret pe_bl))))), fun sc Hs Ps => ?z⟩
  case z => exact (ss_seq (ss_set (se_call (sm_val se_var sm_nil)) sg_name)
      (ss_seq (ss_if (st_or (st_not (st_truth rfl (se_call (sm_val se_var sm_nil)))) (st_test (se_op rv_ne se_var (se_cb1 (r1_sum rfl) (se_fz (seo_lc (A := [5]) (vs := [5]) (si_tup rfl (se_op (rv_ix rfl) se_var se_i)) sg_name st_yes (se_op (rv_ix rfl) se_var se_i))))))) (ss_ret se_b) ss_nil)
      (ss_seq (ss_for (si_rng1 (se_cb1 (r1_len rfl) (se_op (rv_ix rfl) se_var se_i))) sg_name
      (ss_seq (ss_set (se_fz (seo_call (sm_val se_var (sm_val se_var sm_nil)))) sg_name)
      (ss_seq (ss_if (st_test (se_op (rv_neD rfl) (se_call (sm_val se_var (sm_val se_var sm_nil))) (se_cb1 (r1_tup rfl) se_var))) (ss_ret se_b) ss_nil)
      (ss_for (si_list rfl se_var) sg_name
      (ss_if (st_or (st_test (se_op (rv_neD rfl) (se_call (sm_val se_var (sm_val se_var sm_nil))) se_var)) (st_not (st_truth rfl (se_call (sm_val (se_call (sm_val se_var (sm_val se_var sm_nil))) sm_nil))))) (ss_ret se_b) ss_nil)))))
      (ss_ret se_b))))
abbrev s__law_edges_right : Stmt := topS 53
abbrev N__law_edges_right : List Str := ["_law_d", "_law_schema_here", "_law_label", "_law_many", "_law_turn", "_law_one", "_law_other", "_law_due_here", "_law_told", "_law_row"]
theorem sc__law_edges_right : FnScope N__law_edges_right ["_law_d", "_law_schema_here"] (defScope (topS 53)) := ⟨rfl, rfl, rfl, by decide +kernel, rfl, by decide +kernel, by decide +kernel⟩
theorem cl__law_edges_right (M : Mg K mg) (D : DefK K "_law_edges_right" s__law_edges_right) (k__law_draw : Kept P w K mg base CX0 1 "_law_draw" (spM K (REk K) F__law_draw)) (k__law_let : Kept P w K mg base CX0 3 "_law_let" (spM K (REk K) F__law_let)) (k__law_pick : Kept P w K mg base CX0 2 "_law_pick" (spM K (REk K) F__law_pick)) (k_edges_let : Kept P w K mg base CX0 3 "edges_let" (spM K (REk K) F_edges_let)) (k_is_edge : Kept P w K mg base CX0 2 "is_edge" (spM K (REk K) F_is_edge)) (z_bool : FreeK K "bool") (z_isinstance : FreeK K "isinstance") (z_len : FreeK K "len") (z_range : FreeK K "range") (z_sorted : FreeK K "sorted") (z_sum : FreeK K "sum") (z_tuple : FreeK K "tuple") : Kept P w K mg base CX0 4 "_law_edges_right" (spM K (REk K) F__law_edges_right) := by
  refine cl_of (k := 3) D M (fun _ _ _ _ _ _ us hl => match us, hl with | [_, _], _ => rfl) sc__law_edges_right rfl rfl rfl fun f cdv A outer s H E hr => ?_
  have nd := sc__law_edges_right.nd
  refine ⟨?A, _, (pss_cons (ps_for PassesOwn.never rfl (pi_range1 (by rfl) (M.free z_range) (pa_cons (pe_callB (id := "len") (lenK (K := K) rfl) (by rfl) (M.free z_len) (by decide +kernel) (pa_cons (pe_ix (ixK (K := K) rfl) (pv 1) pe_int (fun _ _ => rfl)) pa_nil)) pa_nil)) (pg_name (i := 2) nd rfl (Or.inl rfl))
      (pss_one (ps_if (pt_cmpR (nedK (K := K) rfl hr.units) (pe_clS k_edges_let hr (by decide) (by rfl) (pass0S (E := L2.WE (fun c od _ H => E c od H))) (pa_cons (pv 1) (pa_cons (pv 2) pa_nil))) (pe_callTy (T := "tuple") (tupK (K := K) rfl) (by rfl) (M.free z_tuple) (by decide +kernel) (pa_cons (pe_callB (id := "sorted") (sortK (K := K) rfl) (by rfl) (M.free z_sorted) (by decide +kernel) (pa_cons (pe_clS k__law_let hr (by decide) (by rfl) (pass0S (E := L2.WE (fun c od _ H => E c od H))) (pa_cons (pv 1) (pa_cons (pv 2) pa_nil))) pa_nil)) pa_nil)) (nomark _)) (pss_one (ps_ret pe_bl)) pss_nil)))
      (pss_cons (ps_set (i := 3) nd rfl (Or.inl rfl) (pe_callB (id := "sum") (sumK (K := K) rfl rfl) (by rfl) (M.free z_sum) (by decide +kernel) (pa_cons (pe_lc (own := [("_law_row", 9)]) rfl nd (pi_tupK (K := K) rfl (pe_ix (ixK (K := K) rfl) (pv 1) pe_int (fun _ _ => rfl))) (blkOk_by (N := N__law_edges_right) (sc := defScope s__law_edges_right) (by decide +kernel)) (fun _ _ _ _ _ => (pg_name (i := 9) nd rfl (Or.inl rfl))) (fun _ _ _ _ _ => pts_nil) (fun _ _ _ _ _ => (pe_ix (ixK (K := K) rfl) (pv 9) pe_int (fun _ _ => rfl)))) pa_nil)))
      (pss_cons (ps_for PassesOwn.never rfl (pi_range1 (by rfl) (M.free z_range) (pa_cons pe_int pa_nil)) (pg_name (i := 4) nd rfl (Or.inl rfl))
      (pss_cons (ps_set (i := 2) nd rfl (Or.inl rfl) (pe_op op_sub (pe_clS k__law_draw hr (by decide) (by rfl) (pass0S (E := L2.WE (fun c od _ H => E c od H))) (pa_cons (pv 0) (pa_cons (pe_op (op_add.or op_add_str) (pe_callB (id := "len") (lenK (K := K) rfl) (by rfl) (M.free z_len) (by decide +kernel) (pa_cons (pe_ix (ixK (K := K) rfl) (pv 1) pe_int (fun _ _ => rfl)) pa_nil)) pe_int) pa_nil))) pe_int))
      (pss_cons (ps_set (i := 5) nd rfl (Or.inl rfl) (pe_op op_sub (pe_clS k__law_draw hr (by decide) (by rfl) (pass0S (E := L2.WE (fun c od _ H => E c od H))) (pa_cons (pv 0) (pa_cons (pe_op (op_add.or op_add_str) (pv 3) pe_int) pa_nil))) pe_int))
      (pss_cons (ps_set (i := 6) nd rfl (Or.inl rfl) (pe_clS k__law_pick hr (by decide) (by rfl) (pass0S (E := L2.WE (fun c od _ H => E c od H))) (pa_cons (pv 0) (pa_cons (pe_lst (pa_cons (pv 5) (pa_cons (pv 5) (pa_cons (pe_op op_sub (pe_clS k__law_draw hr (by decide) (by rfl) (pass0S (E := L2.WE (fun c od _ H => E c od H))) (pa_cons (pv 0) (pa_cons (pe_op (op_add.or op_add_str) (pv 3) pe_int) pa_nil))) pe_int) (pa_cons (pe_un un_neg pe_int) pa_nil))))) pa_nil))))
      (pss_cons (ps_set (i := 7) nd rfl (Or.inl rfl) (pe_chain op_le op_lt pe_int (pv 2) (pe_callB (id := "len") (lenK (K := K) rfl) (by rfl) (M.free z_len) (by decide +kernel) (pa_cons (pe_ix (ixK (K := K) rfl) (pv 1) pe_int (fun _ _ => rfl)) pa_nil))))
      (pss_cons (ps_if (pt_tr (K := K) rfl (pv 7) (by intro _; rfl)) (pss_one (ps_set (i := 7) nd rfl (Or.inl rfl) (pe_cmpR (inDK (K := K) rfl hr) (pe_tup (pa_cons (pv 5) (pa_cons (pv 2) (pa_cons (pv 6) pa_nil)))) (pe_clS k__law_let hr (by decide) (by rfl) (pass0S (E := L2.WE (fun c od _ H => E c od H))) (pa_cons (pv 1) (pa_cons (pv 2) pa_nil))) (by rfl)))) pss_nil)
      (pss_cons (ps_set (i := 8) nd rfl (Or.inl rfl) (pe_clS k_is_edge hr (by decide) (by rfl) (pass0S (E := L2.WE (fun c od _ H => E c od H))) (pa_cons (pv 1) (pa_cons (pe_tup (pa_cons (pv 5) (pa_cons (pv 2) (pa_cons (pv 6) pa_nil)))) pa_nil))))
      (pss_one (ps_if (PW.pt (pw_or (pt_cmpR op_ne (pv 8) (pv 7) (nomark _)) (pw_or1 (pt_not (pt_tr (K := K) rfl (pe_callB (id := "isinstance") (isiK (K := K) rfl) (by rfl) (M.free z_isinstance) (by decide +kernel) (pa_cons (pv 8) (pa_cons (pe_bltn (v := .ty "bool") (u := .type "bool") (by rfl) (M.free z_bool) (by decide +kernel) rfl) pa_nil))) (by intro _; rfl)))))) (pss_one (ps_ret pe_bl)) pss_nil)))))))))
      (pss_one (ps_ret pe_bl))))), fun sc Hs Ps => ?z⟩
  case z => exact (ss_seq (ss_for (si_rng1 (se_cb1 (r1_len rfl) (se_op (rv_ix rfl) se_var se_i))) sg_name
      (ss_if (st_test (se_op (rv_neD rfl) (se_call (sm_val se_var (sm_val se_var sm_nil))) (se_cb1 (r1_tup rfl) (se_fz (seo_cb1 (rn_sortT rfl) (se_fz (seo_call (sm_val se_var (sm_val se_var sm_nil))))))))) (ss_ret se_b) ss_nil))
      (ss_seq (ss_set (se_cb1 (r1_sum rfl) (se_fz (seo_lc (A := [9]) (vs := [9]) (si_tup rfl (se_op (rv_ix rfl) se_var se_i)) sg_name st_yes (se_op (rv_ix rfl) se_var se_i)))) sg_name)
      (ss_seq (ss_for (si_rng1 se_i) sg_name
      (ss_seq (ss_set (se_op rv_sub (se_call (sm_own (sm_val (se_op rv_add (se_cb1 (r1_len rfl) (se_op (rv_ix rfl) se_var se_i)) se_i) sm_nil))) se_i) sg_name)
      (ss_seq (ss_set (se_op rv_sub (se_call (sm_own (sm_val (se_op rv_add se_var se_i) sm_nil))) se_i) sg_name)
      (ss_seq (ss_set (se_call (sm_own (sm_val (se_fz (seo_lst (sa_cons se_var (sa_cons se_var (sa_cons (se_op rv_sub (se_call (sm_own (sm_val (se_op rv_add se_var se_i) sm_nil))) se_i) (sa_cons (se_op1 r1_neg se_i) sa_nil)))))) sm_nil))) sg_name)
      (ss_seq (ss_set (se_chain rv_le rv_lt se_i se_var (se_cb1 (r1_len rfl) (se_op (rv_ix rfl) se_var se_i))) sg_name)
      (ss_seq (ss_if (st_truth rfl se_var) (ss_set (se_op (rv_inD rfl) (se_tup (sa_cons se_var (sa_cons se_var (sa_cons se_var sa_nil)))) (se_fz (seo_call (sm_val se_var (sm_val se_var sm_nil))))) sg_name) ss_nil)
      (ss_seq (ss_set (se_call (sm_val se_var (sm_val (se_tup (sa_cons se_var (sa_cons se_var (sa_cons se_var sa_nil)))) sm_nil))) sg_name)
      (ss_if (st_or (st_test (se_op rv_ne se_var se_var)) (st_not (st_truth rfl (se_isB rfl se_var)))) (ss_ret se_b) ss_nil))))))))
      (ss_ret se_b))))
abbrev s__law_names_right : Stmt := topS 54
abbrev N__law_names_right : List Str := ["_law_d", "_law_texts", "_law_text", "_law_told"]
theorem sc__law_names_right : FnScope N__law_names_right ["_law_d"] (defScope (topS 54)) := ⟨rfl, rfl, rfl, by decide +kernel, rfl, by decide +kernel, by decide +kernel⟩
theorem cl__law_names_right (M : Mg K mg) (D : DefK K "_law_names_right" s__law_names_right) (k__law_name_good : Kept P w K mg base CX0 1 "_law_name_good" (spM K (REk K) F__law_name_good)) (k__law_odd_name : Kept P w K mg base CX0 3 "_law_odd_name" (spM K (REk K) F__law_odd_name)) (k__law_pick : Kept P w K mg base CX0 2 "_law_pick" (spM K (REk K) F__law_pick)) (k_is_name : Kept P w K mg base CX0 1 "is_name" (spM K (REk K) F_is_name)) (z_bool : FreeK K "bool") (z_isinstance : FreeK K "isinstance") : Kept P w K mg base CX0 4 "_law_names_right" (spM K (REk K) F__law_names_right) := by
  refine cl_of (k := 3) D M (fun _ _ _ _ _ _ us hl => match us, hl with | [_], _ => rfl) sc__law_names_right rfl rfl rfl fun f cdv A outer s H E hr => ?_
  have nd := sc__law_names_right.nd
  refine ⟨?A, _, (pss_cons (ps_set (i := 1) nd rfl (Or.inl rfl) (pe_lst (pa_cons pe_str (pa_cons pe_str (pa_cons pe_str (pa_cons pe_str (pa_cons pe_str (pa_cons pe_str (pa_cons pe_str (pa_cons pe_str pa_nil))))))))))
      (pss_cons (ps_for PassesOwn.never rfl (pi_listK (K := K) rfl (pe_lst (pa_cons (pe_clS k__law_odd_name hr (by decide) (by rfl) (pass0S (E := L2.WE (fun c od _ H => E c od H))) (pa_cons (pv 0) (pa_cons (pe_lst pa_nil) pa_nil))) (pa_cons (pe_clS k__law_pick hr (by decide) (by rfl) (pass0S (E := L2.WE (fun c od _ H => E c od H))) (pa_cons (pv 0) (pa_cons (pv 1) pa_nil))) (pa_cons (pe_op (op_add.or op_add_str) (pe_clS k__law_pick hr (by decide) (by rfl) (pass0S (E := L2.WE (fun c od _ H => E c od H))) (pa_cons (pv 0) (pa_cons (pv 1) pa_nil))) (pe_clS k__law_pick hr (by decide) (by rfl) (pass0S (E := L2.WE (fun c od _ H => E c od H))) (pa_cons (pv 0) (pa_cons (pe_lst (pa_cons pe_str (pa_cons pe_str (pa_cons pe_str (pa_cons pe_str pa_nil))))) pa_nil)))) pa_nil))))) (pg_name (i := 2) nd rfl (Or.inl rfl))
      (pss_cons (ps_set (i := 3) nd rfl (Or.inl rfl) (pe_clS k_is_name hr (by decide) (by rfl) (pass0S (E := L2.WE (fun c od _ H => E c od H))) (pa_cons (pv 2) pa_nil)))
      (pss_one (ps_if (PW.pt (pw_or (pt_cmpR op_ne (pv 3) (pe_clS k__law_name_good hr (by decide) (by rfl) (pass0S (E := L2.WE (fun c od _ H => E c od H))) (pa_cons (pv 2) pa_nil)) (nomark _)) (pw_or1 (pt_not (pt_tr (K := K) rfl (pe_callB (id := "isinstance") (isiK (K := K) rfl) (by rfl) (M.free z_isinstance) (by decide +kernel) (pa_cons (pv 3) (pa_cons (pe_bltn (v := .ty "bool") (u := .type "bool") (by rfl) (M.free z_bool) (by decide +kernel) rfl) pa_nil))) (by intro _; rfl)))))) (pss_one (ps_ret pe_bl)) pss_nil))))
      (pss_one (ps_ret pe_bl)))), fun sc Hs Ps => ?z⟩
  case z => exact (ss_seq (ss_set (se_fz (seo_lst (sa_cons (se_s t54_eq) (sa_cons (se_s t53_eq) (sa_cons (se_s t52_eq) (sa_cons (se_s t51_eq) (sa_cons (se_s t50_eq) (sa_cons (se_s t49_eq) (sa_cons (se_s t48_eq) (sa_cons (se_s t47_eq) sa_nil)))))))))) sg_name)
      (ss_seq (ss_for (si_list rfl (se_fz (seo_lst (sa_cons (se_call (sm_own (sm_val (se_fz (seo_lst sa_nil)) sm_nil))) (sa_cons (se_call (sm_own (sm_val se_var sm_nil))) (sa_cons (se_op rv_add (se_call (sm_own (sm_val se_var sm_nil))) (se_call (sm_own (sm_val (se_fz (seo_lst (sa_cons (se_s t39_eq) (sa_cons (se_s t56_eq) (sa_cons (se_s t29_eq) (sa_cons (se_s t55_eq) sa_nil)))))) sm_nil)))) sa_nil)))))) sg_name
      (ss_seq (ss_set (se_call (sm_val se_var sm_nil)) sg_name)
      (ss_if (st_or (st_test (se_op rv_ne se_var (se_call (sm_val se_var sm_nil)))) (st_not (st_truth rfl (se_isB rfl se_var)))) (ss_ret se_b) ss_nil)))
      (ss_ret se_b)))
abbrev N_law : List Str := ["_law_script", "_law_d", "_law_schema_here", "_law_kinds", "_law_labels", "_law_turn", "_law_due_here", "_law_told", "_law_right"]
theorem sc_law : FnScope N_law ["_law_script"] (defScope (topS 55)) := ⟨rfl, rfl, rfl, by decide +kernel, rfl, by decide +kernel, by decide +kernel⟩
end
abbrev s__law_begin : Stmt := topS 33
theorem sc__law_begin : FnScope ["_law_script", "_law_cell"] ["_law_script"] (defScope s__law_begin) := ⟨rfl, rfl, rfl, by decide +kernel, rfl, by decide +kernel, by decide +kernel⟩
section
variable {P : Program} {w : World} {K : PySem.W.Frag} {mg : Str → Option Value} {base : Heap}
theorem cl__law_begin (M : Mg K mg) (D : DefK K "_law_begin" s__law_begin) (z_int : FreeK K "int") : Kept P w K mg base CX0 1 "_law_begin" (spBegin K) := by
  obtain ⟨f, fd, hn, Fd⟩ := D
  refine ⟨f, fd, ["_law_script"], ?_, M.get hn, Fd.kp, Fd.binds fun _ _ _ _ _ _ us hl => match us, hl with | [_], _ => rfl⟩
  refine Fd.ok sc__law_begin (fun vs H Q E h => by obtain ⟨a, ns, rfl, _⟩ := h; rfl) fun cdv A outer s H vs Q E hr h => ?_
  have nd := sc__law_begin.nd
  refine ⟨_, pss_one (ps_ret (pe_lst (pa_cons (pe_lc (own := [("_law_cell", 1)]) rfl nd (pi_list (pv 0)) (blkOk_by (N := ["_law_script", "_law_cell"]) (sc := defScope s__law_begin) (by decide +kernel)) (fun _ _ _ _ _ => pg_name (i := 1) nd rfl (Or.inl rfl)) (fun _ _ _ _ _ => pts_nil) (fun _ _ _ _ _ => pe_callTy (T := "int") call_int1 (by rfl) (M.free z_int) (by decide +kernel) (pa_cons (pv 1) pa_nil))) (pa_cons pe_int (pa_cons pe_int (pa_cons pe_int pa_nil)))))), ?_⟩
  exact begin_red h
abbrev s_law : Stmt := topS 55
theorem ok_law (M : Mg K mg) {f : Addr} {fd : FuncData} (Fd : Fun K "law" "law" s_law f fd) (hm : ∀ ns : List Int, ns.length ≤ 63 → ∃ e, m_law (lawE ns 7) = .rt (.fz (.bl true)) e) (k__law_begin : Kept P w K mg base CX0 1 "_law_begin" (spBegin K)) (k__law_checked : Kept P w K mg base CX0 5 "_law_checked" (spM K (REk K) F__law_checked)) (k__law_draw : Kept P w K mg base CX0 1 "_law_draw" (spM K (REk K) F__law_draw)) (k__law_due : Kept P w K mg base CX0 3 "_law_due" (spM K (REk K) F__law_due)) (k__law_edges_right : Kept P w K mg base CX0 4 "_law_edges_right" (spM K (REk K) F__law_edges_right)) (k__law_names_right : Kept P w K mg base CX0 4 "_law_names_right" (spM K (REk K) F__law_names_right)) (k__law_nodes_right : Kept P w K mg base CX0 3 "_law_nodes_right" (spM K (REk K) F__law_nodes_right)) (k__law_pick : Kept P w K mg base CX0 2 "_law_pick" (spM K (REk K) F__law_pick)) (k__law_schema : Kept P w K mg base CX0 3 "_law_schema" (spM K (REk K) F__law_schema)) (k__law_with_fault : Kept P w K mg base CX0 4 "_law_with_fault" (spM K (REk K) F__law_with_fault)) (z_bool : FreeK K "bool") (z_isinstance : FreeK K "isinstance") (z_len : FreeK K "len") (z_list : FreeK K "list") (z_range : FreeK K "range") (z_tuple : FreeK K "tuple") : FnOk P w K mg base CX0 6 f fd ["_law_script"] (spLaw K) := by
  refine Fd.ok (k := 5) sc_law (fun vs H Q E h => by obtain ⟨a, ns, rfl, _⟩ := h; rfl) fun cdv A outer s H vs Q E hr h => ?_
  have nd := sc_law.nd
  refine ⟨_, pss_cons (ps_set (i := 1) nd rfl (Or.inl rfl) (pe_clS k__law_begin hr (by decide) (by rfl) (pass0S (E := fun _ _ _ _ => False)) (pa_cons (pv 0) pa_nil)))
      (pss_cons (ps_set (i := 2) nd rfl (Or.inl rfl) (pe_clS k__law_schema hr (by decide) (by rfl) (pass0S (E := L2.WE (fun c od _ H => E c od H))) (pa_cons (pv 1) (pa_cons (pe_op (op_add.or op_add_str) pe_int (pe_clS k__law_draw hr (by decide) (by rfl) (pass0S (E := L2.WE (fun c od _ H => E c od H))) (pa_cons (pv 1) (pa_cons pe_int pa_nil)))) (pa_cons (pe_op (op_add.or op_add_str) pe_int (pe_clS k__law_draw hr (by decide) (by rfl) (pass0S (E := L2.WE (fun c od _ H => E c od H))) (pa_cons (pv 1) (pa_cons pe_int pa_nil)))) (pa_cons pe_int pa_nil))))))
      (pss_cons (ps_set (i := 3) nd rfl (Or.inl rfl) (pe_callTy (T := "list") (lstK (K := K) rfl) (by rfl) (M.free z_list) (by decide +kernel) (pa_cons (pe_ix (ixK (K := K) rfl) (pv 2) pe_int (fun _ _ => rfl)) pa_nil)))
      (pss_cons (ps_set (i := 4) nd rfl (Or.inl rfl) (pe_callTy (T := "list") (lstK (K := K) rfl) (by rfl) (M.free z_list) (by decide +kernel) (pa_cons (pe_ix (ixK (K := K) rfl) (pv 2) pe_int (fun _ _ => rfl)) pa_nil)))
      (pss_cons (ps_if (pt_cmpR op_eq (pe_clS k__law_draw hr (by decide) (by rfl) (pass0S (E := L2.WE (fun c od _ H => E c od H))) (pa_cons (pv 1) (pa_cons pe_int pa_nil))) pe_int (nomark _)) (pss_one (ps_asg (pe_tup (pa_cons pe_str (pa_cons (pe_clS k__law_pick hr (by decide) (by rfl) (pass0S (E := L2.WE (fun c od _ H => E c od H))) (pa_cons (pv 1) (pa_cons (pe_lst (pa_cons pe_int (pa_cons pe_int (pa_cons pe_int pa_nil)))) pa_nil))) pa_nil))) (pg_sub (pv 3) (pe_clS k__law_draw hr (by decide) (by rfl) (pass0S (E := L2.WE (fun c od _ H => E c od H))) (pa_cons (pv 1) (pa_cons (pe_callB (id := "len") (lenK (K := K) rfl) (by rfl) (M.free z_len) (by decide +kernel) (pa_cons (pv 3) pa_nil)) pa_nil))) set_list))) pss_nil)
      (pss_cons (ps_if (pt_cmpR op_gt (pe_clS k__law_draw hr (by decide) (by rfl) (pass0S (E := L2.WE (fun c od _ H => E c od H))) (pa_cons (pv 1) (pa_cons pe_int pa_nil))) pe_int (nomark _)) (pss_one (ps_for PassesOwn.never rfl (pi_range1 (by rfl) (M.free z_range) (pa_cons (pe_op (op_add.or op_add_str) pe_int (pe_clS k__law_draw hr (by decide) (by rfl) (pass0S (E := L2.WE (fun c od _ H => E c od H))) (pa_cons (pv 1) (pa_cons pe_int pa_nil)))) pa_nil)) (pg_name (i := 5) nd rfl (Or.inl rfl))
      (pss_one (ps_expr (pe_clS k__law_with_fault hr (by decide) (by rfl) (pass0S (E := L2.WE (fun c od _ H => E c od H))) (pa_cons (pv 1) (pa_cons (pv 3) (pa_cons (pv 4) pa_nil)))))))) pss_nil)
      (pss_cons (ps_set (i := 6) nd rfl (Or.inl rfl) (pe_clS k__law_due hr (by decide) (by rfl) (pass0S (E := L2.WE (fun c od _ H => E c od H))) (pa_cons (pv 3) (pa_cons (pv 4) pa_nil))))
      (pss_cons (ps_set (i := 7) nd rfl (Or.inl rfl) (pe_clS k__law_checked hr (by decide) (by rfl) (pass0S (E := L2.WE (fun c od _ H => E c od H))) (pa_cons (pe_tup (pa_cons pe_str (pa_cons (pe_callTy (T := "tuple") (tupK (K := K) rfl) (by rfl) (M.free z_tuple) (by decide +kernel) (pa_cons (pv 3) pa_nil)) (pa_cons (pe_callTy (T := "tuple") (tupK (K := K) rfl) (by rfl) (M.free z_tuple) (by decide +kernel) (pa_cons (pv 4) pa_nil)) pa_nil)))) pa_nil)))
      (pss_cons (ps_if (pt_cmpR op_notN (pv 6) pe_non (by rfl)) (pss_one (ps_if (PW.pt (pw_or (pt_cmpR (nedK (K := K) rfl hr.units) (pv 7) (pe_lst (pa_cons (pv 6) pa_nil)) (nomark _)) (pw_or1 (pt_tr (K := K) rfl (pe_callB (id := "isinstance") (isiK (K := K) rfl) (by rfl) (M.free z_isinstance) (by decide +kernel) (pa_cons (pe_ix (ixK (K := K) rfl) (pe_ix (ixK (K := K) rfl) (pv 7) pe_int (fun _ _ => rfl)) pe_int (fun _ _ => rfl)) (pa_cons (pe_bltn (v := .ty "bool") (u := .type "bool") (by rfl) (M.free z_bool) (by decide +kernel) rfl) pa_nil))) (by intro _; rfl))))) (pss_one (ps_ret pe_bl)) pss_nil)) (pss_one (ps_if (pt_cmpR (nedK (K := K) rfl hr.units) (pv 7) (pe_lst pa_nil) (nomark _)) (pss_one (ps_ret pe_bl)) pss_nil)))
      (pss_cons (ps_if (PW.pt (pw_or (pt_cmpR (nedK (K := K) rfl hr.units) (pe_clS k__law_checked hr (by decide) (by rfl) (pass0S (E := L2.WE (fun c od _ H => E c od H))) (pa_cons (pv 2) pa_nil)) (pe_lst pa_nil) (nomark _)) (pw_or1 (pt_not (pt_tr (K := K) rfl (pe_clS k__law_names_right hr (by decide) (by rfl) (pass0S (E := L2.WE (fun c od _ H => E c od H))) (pa_cons (pv 1) pa_nil)) (by intro _; rfl)))))) (pss_one (ps_ret pe_bl)) pss_nil)
      (pss_cons (ps_set (i := 8) nd rfl (Or.inl rfl) (pv 2))
      (pss_cons (ps_if (pt_cmpR op_isN (pv 6) pe_non (by rfl)) (pss_one (ps_set (i := 8) nd rfl (Or.inl rfl) (pe_tup (pa_cons pe_str (pa_cons (pe_callTy (T := "tuple") (tupK (K := K) rfl) (by rfl) (M.free z_tuple) (by decide +kernel) (pa_cons (pv 3) pa_nil)) (pa_cons (pe_callTy (T := "tuple") (tupK (K := K) rfl) (by rfl) (M.free z_tuple) (by decide +kernel) (pa_cons (pv 4) pa_nil)) pa_nil)))))) pss_nil)
      (pss_one (ps_ret (pe_and (pe_clS k__law_nodes_right hr (by decide) (by rfl) (pass0S (E := L2.WE (fun c od _ H => E c od H))) (pa_cons (pv 8) pa_nil)) (pe_one (pe_clS k__law_edges_right hr (by decide) (by rfl) (pass0S (E := L2.WE (fun c od _ H => E c od H))) (pa_cons (pv 1) (pa_cons (pv 8) pa_nil)))))))))))))))))), ?_⟩
  refine law_red (A := ?A) (RE := REk K) (nl := 7) rfl hm (fun sc Hs Ps H => ?z) h
  case z => exact (ss_seq (ss_set (se_call (sm_own (sm_val (se_op rv_add se_i (se_call (sm_own (sm_val se_i sm_nil)))) (sm_val (se_op rv_add se_i (se_call (sm_own (sm_val se_i sm_nil)))) (sm_val se_i sm_nil))))) sg_name)
      (ss_seq (ss_setO (seo_cb1 (rn_listD rfl) (se_op (rv_ix rfl) se_var se_i)))
      (ss_seq (ss_setO (seo_cb1 (rn_listD rfl) (se_op (rv_ix rfl) se_var se_i)))
      (ss_seq (ss_if (st_test (se_op rv_eq (se_call (sm_own (sm_val se_i sm_nil))) se_i)) (ss_put (se_tup (sa_cons (se_s t57_eq) (sa_cons (se_call (sm_own (sm_val (se_fz (seo_lst (sa_cons se_i (sa_cons se_i (sa_cons se_i sa_nil))))) sm_nil))) sa_nil))) (se_call (sm_own (sm_val (se_cb1O (rw_len rfl)) sm_nil)))) ss_nil)
      (ss_seq (ss_if (st_test (se_op rv_gt (se_call (sm_own (sm_val se_i sm_nil))) se_i)) (ss_for (si_rng1 (se_op rv_add se_i (se_call (sm_own (sm_val se_i sm_nil))))) sg_name
      (ss_drop (se_call (sm_own (sm_own (sm_own sm_nil)))))) ss_nil)
      (ss_frz (i := 3) (ss_frz (i := 4) (ss_seq (ss_set (se_call (sm_val se_var (sm_val se_var sm_nil))) sg_name)
      (ss_seq (ss_set (se_fz (seo_call (sm_val (se_tup (sa_cons (se_s t30_eq) (sa_cons (se_cb1 (r1_tup rfl) se_var) (sa_cons (se_cb1 (r1_tup rfl) se_var) sa_nil)))) sm_nil))) sg_name)
      (ss_seq (ss_if (st_test (se_op rv_noN se_var se_n)) (ss_if (st_or (st_test (se_op (rv_neD rfl) se_var (se_fz (seo_lst (sa_cons se_var sa_nil))))) (st_truth rfl (se_isB rfl (se_op (rv_ix rfl) (se_op (rv_ix rfl) se_var se_i) se_i)))) (ss_ret se_b) ss_nil) (ss_if (st_test (se_op (rv_neD rfl) se_var (se_fz (seo_lst sa_nil)))) (ss_ret se_b) ss_nil))
      (ss_seq (ss_if (st_or (st_test (se_op (rv_neD rfl) (se_fz (seo_call (sm_val se_var sm_nil))) (se_fz (seo_lst sa_nil)))) (st_not (st_truth rfl (se_call (sm_own sm_nil))))) (ss_ret se_b) ss_nil)
      (ss_seq (ss_set se_var sg_name)
      (ss_seq (ss_if (st_test (se_op rv_isN se_var se_n)) (ss_set (se_tup (sa_cons (se_s t30_eq) (sa_cons (se_cb1 (r1_tup rfl) se_var) (sa_cons (se_cb1 (r1_tup rfl) se_var) sa_nil)))) sg_name) ss_nil)
      (ss_ret (se_andV (se_call (sm_val se_var sm_nil)) (se_call (sm_own (sm_val se_var sm_nil))))))))))))))))))
end
theorem all_mk {P : Program} {w : World} {K : PySem.W.Frag} {mg : Str → Option Value} {h : Heap} {fa f : Addr} (X : K.In h) (G : h.Ns mainGlobals mg) (hfa : mg "law" = some (.ref fa)) (hm : ∀ ns : List Int, ns.length ≤ 63 → ∃ e, m_law (lawE ns 7) = .rt (.fz (.bl true)) e)
    {oc : Value} {od an : Option Addr} {osl : Array (Option Value)} {kV doc pm cdv ct : Value} (a : PySem.W.nsIn K mainGlobals "law" = some (some (.ref f)))
    (l : K.lookup f = some ⟨oc, od, .func (PySem.W.fnOf "law" "law" (defArgs s_law) (defBody s_law) (defScope s_law) .none kV doc pm an cdv ct), osl⟩) (c : PySem.W.codeIn K cdv "law" = true) (k : PySem.W.keepIn K (.ref f) = true)
        (d__law_begin : DefK K "_law_begin" s__law_begin)
    (d_is_name : DefK K "is_name" s_is_name)
    (d_check_label : DefK K "check_label" s_check_label)
    (d_check_new_name : DefK K "check_new_name" s_check_new_name)
    (d_node_count : DefK K "node_count" s_node_count)
    (d_check_schema : DefK K "check_schema" s_check_schema)
    (d_first_node : DefK K "first_node" s_first_node)
    (d_nodes_of : DefK K "nodes_of" s_nodes_of)
    (d_kind_of : DefK K "kind_of" s_kind_of)
    (d_label_kinds : DefK K "label_kinds" s_label_kinds)
    (d_is_mark : DefK K "is_mark" s_is_mark)
    (d_is_edge : DefK K "is_edge" s_is_edge)
    (d_edges_let : DefK K "edges_let" s_edges_let)
    (d__law_draw : DefK K "_law_draw" s__law_draw)
    (d__law_pick : DefK K "_law_pick" s__law_pick)
    (d__law_pop : DefK K "_law_pop" s__law_pop)
    (d__law_rare : DefK K "_law_rare" s__law_rare)
    (d__law_pool : DefK K "_law_pool" s__law_pool)
    (d__law_is_int : DefK K "_law_is_int" s__law_is_int)
    (d__law_first : DefK K "_law_first" s__law_first)
    (d__law_nodes : DefK K "_law_nodes" s__law_nodes)
    (d__law_let : DefK K "_law_let" s__law_let)
    (d__law_schema : DefK K "_law_schema" s__law_schema)
    (d__law_odd_name : DefK K "_law_odd_name" s__law_odd_name)
    (d__law_name_good : DefK K "_law_name_good" s__law_name_good)
    (d__law_with_fault : DefK K "_law_with_fault" s__law_with_fault)
    (d__law_due_kind : DefK K "_law_due_kind" s__law_due_kind)
    (d__law_due_label : DefK K "_law_due_label" s__law_due_label)
    (d__law_due : DefK K "_law_due" s__law_due)
    (d__law_class : DefK K "_law_class" s__law_class)
    (d__law_checked : DefK K "_law_checked" s__law_checked)
    (d__law_nodes_right : DefK K "_law_nodes_right" s__law_nodes_right)
    (d__law_edges_right : DefK K "_law_edges_right" s__law_edges_right)
    (d__law_names_right : DefK K "_law_names_right" s__law_names_right)
    (z_ValueError : FreeK K "ValueError")
    (z_abs : FreeK K "abs")
    (z_all : FreeK K "all")
    (z_bool : FreeK K "bool")
    (z_enumerate : FreeK K "enumerate")
    (z_int : FreeK K "int")
    (z_isinstance : FreeK K "isinstance")
    (z_len : FreeK K "len")
    (z_list : FreeK K "list")
    (z_range : FreeK K "range")
    (z_sorted : FreeK K "sorted")
    (z_str : FreeK K "str")
    (z_sum : FreeK K "sum")
    (z_tuple : FreeK K "tuple")
    (c_DIGITS : ConK K "DIGITS" (.str ("0123456789" : Str)))
    (c_LETTERS : ConK K "LETTERS" (.str ("abcdefghijklmnopqrstuvwxyz" : Str)))
    (c_LONGEST_NAME : ConK K "LONGEST_NAME" (.int 8))
    (c_MOST_KINDS : ConK K "MOST_KINDS" (.int 6))
    (c_MOST_LABELS : ConK K "MOST_LABELS" (.int 12))
    (c_MOST_NODES : ConK K "MOST_NODES" (.int 24))
    (c_MOST_PRICE : ConK K "MOST_PRICE" (.int 9))
    (c_RESERVED : ConT K "RESERVED" (.tup [.str t2, .str t3, .str t4, .str t5, .str t6, .str t7, .str t8, .str t9, .str t10, .str t11, .str t12, .str t13, .str t14, .str t15]))
    (c_RULES : ConT K "RULES" (.tup [.str t4, .str t5, .str t6]))
    {C_AwayError C_BadName C_BadNumber C_BadRule C_LimitError C_SchemaError C_TooLarge C_Twice C_Unknown : Addr}
    (r_BadName : ErrRaw K NL "BadName" "name" C_BadName)
    (r_BadNumber : ErrRaw K NL "BadNumber" "number" C_BadNumber)
    (r_BadRule : ErrRaw K NL "BadRule" "name" C_BadRule)
    (r_TooLarge : ErrRaw K NL "TooLarge" "part" C_TooLarge)
    (r_Twice : ErrRaw K NL "Twice" "name" C_Twice)
    (n_AwayError : PySem.W.nsIn K mainGlobals "AwayError" = some (some (.ref C_AwayError)))
    (n_BadName : PySem.W.nsIn K mainGlobals "BadName" = some (some (.ref C_BadName)))
    (n_BadNumber : PySem.W.nsIn K mainGlobals "BadNumber" = some (some (.ref C_BadNumber)))
    (n_BadRule : PySem.W.nsIn K mainGlobals "BadRule" = some (some (.ref C_BadRule)))
    (n_LimitError : PySem.W.nsIn K mainGlobals "LimitError" = some (some (.ref C_LimitError)))
    (n_SchemaError : PySem.W.nsIn K mainGlobals "SchemaError" = some (some (.ref C_SchemaError)))
    (n_TooLarge : PySem.W.nsIn K mainGlobals "TooLarge" = some (some (.ref C_TooLarge)))
    (n_Twice : PySem.W.nsIn K mainGlobals "Twice" = some (some (.ref C_Twice)))
    (n_Unknown : PySem.W.nsIn K mainGlobals "Unknown" = some (some (.ref C_Unknown)))
    (i_AwayError : PySem.W.isClsIn K C_AwayError = true) (ty_AwayError : PySem.W.typeIn K (.ref C_AwayError) = some (.type "type")) (sr_AwayError : PySem.W.subIn K (.ref C_AwayError) (.ref C_AwayError) = some true)
    (i_BadName : PySem.W.isClsIn K C_BadName = true) (ty_BadName : PySem.W.typeIn K (.ref C_BadName) = some (.type "type")) (sr_BadName : PySem.W.subIn K (.ref C_BadName) (.ref C_BadName) = some true)
    (i_BadNumber : PySem.W.isClsIn K C_BadNumber = true) (ty_BadNumber : PySem.W.typeIn K (.ref C_BadNumber) = some (.type "type")) (sr_BadNumber : PySem.W.subIn K (.ref C_BadNumber) (.ref C_BadNumber) = some true)
    (i_BadRule : PySem.W.isClsIn K C_BadRule = true) (ty_BadRule : PySem.W.typeIn K (.ref C_BadRule) = some (.type "type")) (sr_BadRule : PySem.W.subIn K (.ref C_BadRule) (.ref C_BadRule) = some true)
    (i_LimitError : PySem.W.isClsIn K C_LimitError = true) (ty_LimitError : PySem.W.typeIn K (.ref C_LimitError) = some (.type "type")) (sr_LimitError : PySem.W.subIn K (.ref C_LimitError) (.ref C_LimitError) = some true)
    (i_SchemaError : PySem.W.isClsIn K C_SchemaError = true) (ty_SchemaError : PySem.W.typeIn K (.ref C_SchemaError) = some (.type "type")) (sr_SchemaError : PySem.W.subIn K (.ref C_SchemaError) (.ref C_SchemaError) = some true)
    (i_TooLarge : PySem.W.isClsIn K C_TooLarge = true) (ty_TooLarge : PySem.W.typeIn K (.ref C_TooLarge) = some (.type "type")) (sr_TooLarge : PySem.W.subIn K (.ref C_TooLarge) (.ref C_TooLarge) = some true)
    (i_Twice : PySem.W.isClsIn K C_Twice = true) (ty_Twice : PySem.W.typeIn K (.ref C_Twice) = some (.type "type")) (sr_Twice : PySem.W.subIn K (.ref C_Twice) (.ref C_Twice) = some true)
    (i_Unknown : PySem.W.isClsIn K C_Unknown = true) (ty_Unknown : PySem.W.typeIn K (.ref C_Unknown) = some (.type "type")) (sr_Unknown : PySem.W.subIn K (.ref C_Unknown) (.ref C_Unknown) = some true)
    (be_AwayError : PySem.W.subIn K (.ref C_AwayError) (.type "BaseException") = some true) (hd_AwayError : PySem.W.hasDictIn K C_AwayError = true)
    (su_AwayError_BadName : PySem.W.subIn K (.ref C_BadName) (.ref C_AwayError) = some true)
    (su_AwayError_BadNumber : PySem.W.subIn K (.ref C_BadNumber) (.ref C_AwayError) = some true)
    (su_AwayError_BadRule : PySem.W.subIn K (.ref C_BadRule) (.ref C_AwayError) = some true)
    (su_AwayError_TooLarge : PySem.W.subIn K (.ref C_TooLarge) (.ref C_AwayError) = some true)
    (su_AwayError_Twice : PySem.W.subIn K (.ref C_Twice) (.ref C_AwayError) = some true)
    (su_BadName_BadName : PySem.W.subIn K (.ref C_BadName) (.ref C_BadName) = some true)
    (su_BadName_BadNumber : PySem.W.subIn K (.ref C_BadNumber) (.ref C_BadName) = some false)
    (su_BadName_BadRule : PySem.W.subIn K (.ref C_BadRule) (.ref C_BadName) = some false)
    (su_BadName_TooLarge : PySem.W.subIn K (.ref C_TooLarge) (.ref C_BadName) = some false)
    (su_BadName_Twice : PySem.W.subIn K (.ref C_Twice) (.ref C_BadName) = some false)
    (su_BadNumber_BadName : PySem.W.subIn K (.ref C_BadName) (.ref C_BadNumber) = some false)
    (su_BadNumber_BadNumber : PySem.W.subIn K (.ref C_BadNumber) (.ref C_BadNumber) = some true)
    (su_BadNumber_BadRule : PySem.W.subIn K (.ref C_BadRule) (.ref C_BadNumber) = some false)
    (su_BadNumber_TooLarge : PySem.W.subIn K (.ref C_TooLarge) (.ref C_BadNumber) = some false)
    (su_BadNumber_Twice : PySem.W.subIn K (.ref C_Twice) (.ref C_BadNumber) = some false)
    (su_BadRule_BadName : PySem.W.subIn K (.ref C_BadName) (.ref C_BadRule) = some false)
    (su_BadRule_BadNumber : PySem.W.subIn K (.ref C_BadNumber) (.ref C_BadRule) = some false)
    (su_BadRule_BadRule : PySem.W.subIn K (.ref C_BadRule) (.ref C_BadRule) = some true)
    (su_BadRule_TooLarge : PySem.W.subIn K (.ref C_TooLarge) (.ref C_BadRule) = some false)
    (su_BadRule_Twice : PySem.W.subIn K (.ref C_Twice) (.ref C_BadRule) = some false)
    (su_LimitError_BadName : PySem.W.subIn K (.ref C_BadName) (.ref C_LimitError) = some false)
    (su_LimitError_BadNumber : PySem.W.subIn K (.ref C_BadNumber) (.ref C_LimitError) = some false)
    (su_LimitError_BadRule : PySem.W.subIn K (.ref C_BadRule) (.ref C_LimitError) = some false)
    (su_LimitError_TooLarge : PySem.W.subIn K (.ref C_TooLarge) (.ref C_LimitError) = some true)
    (su_LimitError_Twice : PySem.W.subIn K (.ref C_Twice) (.ref C_LimitError) = some false)
    (su_SchemaError_BadName : PySem.W.subIn K (.ref C_BadName) (.ref C_SchemaError) = some true)
    (su_SchemaError_BadNumber : PySem.W.subIn K (.ref C_BadNumber) (.ref C_SchemaError) = some true)
    (su_SchemaError_BadRule : PySem.W.subIn K (.ref C_BadRule) (.ref C_SchemaError) = some true)
    (su_SchemaError_TooLarge : PySem.W.subIn K (.ref C_TooLarge) (.ref C_SchemaError) = some false)
    (su_SchemaError_Twice : PySem.W.subIn K (.ref C_Twice) (.ref C_SchemaError) = some true)
    (su_TooLarge_BadName : PySem.W.subIn K (.ref C_BadName) (.ref C_TooLarge) = some false)
    (su_TooLarge_BadNumber : PySem.W.subIn K (.ref C_BadNumber) (.ref C_TooLarge) = some false)
    (su_TooLarge_BadRule : PySem.W.subIn K (.ref C_BadRule) (.ref C_TooLarge) = some false)
    (su_TooLarge_TooLarge : PySem.W.subIn K (.ref C_TooLarge) (.ref C_TooLarge) = some true)
    (su_TooLarge_Twice : PySem.W.subIn K (.ref C_Twice) (.ref C_TooLarge) = some false)
    (su_Twice_BadName : PySem.W.subIn K (.ref C_BadName) (.ref C_Twice) = some false)
    (su_Twice_BadNumber : PySem.W.subIn K (.ref C_BadNumber) (.ref C_Twice) = some false)
    (su_Twice_BadRule : PySem.W.subIn K (.ref C_BadRule) (.ref C_Twice) = some false)
    (su_Twice_TooLarge : PySem.W.subIn K (.ref C_TooLarge) (.ref C_Twice) = some false)
    (su_Twice_Twice : PySem.W.subIn K (.ref C_Twice) (.ref C_Twice) = some true)
    (su_Unknown_BadName : PySem.W.subIn K (.ref C_BadName) (.ref C_Unknown) = some false)
    (su_Unknown_BadNumber : PySem.W.subIn K (.ref C_BadNumber) (.ref C_Unknown) = some false)
    (su_Unknown_BadRule : PySem.W.subIn K (.ref C_BadRule) (.ref C_Unknown) = some false)
    (su_Unknown_TooLarge : PySem.W.subIn K (.ref C_TooLarge) (.ref C_Unknown) = some false)
    (su_Unknown_Twice : PySem.W.subIn K (.ref C_Twice) (.ref C_Unknown) = some false)
    (su_ValueError_BadName : PySem.W.subIn K (.ref C_BadName) (.type "ValueError") = some true)
    (su_ValueError_BadNumber : PySem.W.subIn K (.ref C_BadNumber) (.type "ValueError") = some true)
    (su_ValueError_BadRule : PySem.W.subIn K (.ref C_BadRule) (.type "ValueError") = some true)
    (su_ValueError_TooLarge : PySem.W.subIn K (.ref C_TooLarge) (.type "ValueError") = some true)
    (su_ValueError_Twice : PySem.W.subIn K (.ref C_Twice) (.type "ValueError") = some true) :
    ∃ fd : FuncData, (∀ (s : Shared) (v : Value), BindsTo s fd ⟨[v], []⟩ [("_law_script", v)]) ∧ ∀ base : Heap, K.In base → base.Ns mainGlobals mg → FnOk P w K mg base CX0 6 fa fd ["_law_script"] (spLaw K) := by
  have M : Mg K mg := mg_mk X G
  have e := hfa.symm.trans (M.get a)
  cases e
  have Fd := fun_mk (st := s_law) l c k
  have k__law_begin : ∀ base, Kept P w K mg base CX0 1 "_law_begin" (spBegin K) := fun base => cl__law_begin M d__law_begin z_int
  have e_BadName : ∀ base, ErrC P w K mg base NL "BadName" "name" C_BadName := fun base => r_BadName.all (M.get r_BadName.ns)
  have e_BadNumber : ∀ base, ErrC P w K mg base NL "BadNumber" "number" C_BadNumber := fun base => r_BadNumber.all (M.get r_BadNumber.ns)
  have e_BadRule : ∀ base, ErrC P w K mg base NL "BadRule" "name" C_BadRule := fun base => r_BadRule.all (M.get r_BadRule.ns)
  have e_TooLarge : ∀ base, ErrC P w K mg base NL "TooLarge" "part" C_TooLarge := fun base => r_TooLarge.all (M.get r_TooLarge.ns)
  have e_Twice : ∀ base, ErrC P w K mg base NL "Twice" "name" C_Twice := fun base => r_Twice.all (M.get r_Twice.ns)
  have kt_BadName : ∀ c b E0, tab_BadName.lookup c = some b → PySem.W.nsIn K mainGlobals (sOf c) = some (some (.ref E0)) → PySem.W.kitOne K (.ref E0) (.ref C_BadName) = some b := kt_mk (tab := tab_BadName) (List.forall_mem_cons.mpr ⟨⟨C_BadName, (show PySem.W.nsIn K mainGlobals (sOf t23) = some (some (.ref C_BadName)) from t23_eq ▸ r_BadName.ns), kit_own su_BadName_BadName sr_BadName i_BadName ty_BadName⟩, (List.forall_mem_cons.mpr ⟨⟨C_BadNumber, (show PySem.W.nsIn K mainGlobals (sOf t20) = some (some (.ref C_BadNumber)) from t20_eq ▸ r_BadNumber.ns), kit_own su_BadName_BadNumber sr_BadName i_BadName ty_BadName⟩, (List.forall_mem_cons.mpr ⟨⟨C_BadRule, (show PySem.W.nsIn K mainGlobals (sOf t26) = some (some (.ref C_BadRule)) from t26_eq ▸ r_BadRule.ns), kit_own su_BadName_BadRule sr_BadName i_BadName ty_BadName⟩, (List.forall_mem_cons.mpr ⟨⟨C_TooLarge, (show PySem.W.nsIn K mainGlobals (sOf t17) = some (some (.ref C_TooLarge)) from t17_eq ▸ r_TooLarge.ns), kit_own su_BadName_TooLarge sr_BadName i_BadName ty_BadName⟩, (List.forall_mem_cons.mpr ⟨⟨C_Twice, (show PySem.W.nsIn K mainGlobals (sOf t25) = some (some (.ref C_Twice)) from t25_eq ▸ r_Twice.ns), kit_own su_BadName_Twice sr_BadName i_BadName ty_BadName⟩, fun _ h => (List.not_mem_nil h).elim⟩)⟩)⟩)⟩)⟩)
  have kt_BadNumber : ∀ c b E0, tab_BadNumber.lookup c = some b → PySem.W.nsIn K mainGlobals (sOf c) = some (some (.ref E0)) → PySem.W.kitOne K (.ref E0) (.ref C_BadNumber) = some b := kt_mk (tab := tab_BadNumber) (List.forall_mem_cons.mpr ⟨⟨C_BadName, (show PySem.W.nsIn K mainGlobals (sOf t23) = some (some (.ref C_BadName)) from t23_eq ▸ r_BadName.ns), kit_own su_BadNumber_BadName sr_BadNumber i_BadNumber ty_BadNumber⟩, (List.forall_mem_cons.mpr ⟨⟨C_BadNumber, (show PySem.W.nsIn K mainGlobals (sOf t20) = some (some (.ref C_BadNumber)) from t20_eq ▸ r_BadNumber.ns), kit_own su_BadNumber_BadNumber sr_BadNumber i_BadNumber ty_BadNumber⟩, (List.forall_mem_cons.mpr ⟨⟨C_BadRule, (show PySem.W.nsIn K mainGlobals (sOf t26) = some (some (.ref C_BadRule)) from t26_eq ▸ r_BadRule.ns), kit_own su_BadNumber_BadRule sr_BadNumber i_BadNumber ty_BadNumber⟩, (List.forall_mem_cons.mpr ⟨⟨C_TooLarge, (show PySem.W.nsIn K mainGlobals (sOf t17) = some (some (.ref C_TooLarge)) from t17_eq ▸ r_TooLarge.ns), kit_own su_BadNumber_TooLarge sr_BadNumber i_BadNumber ty_BadNumber⟩, (List.forall_mem_cons.mpr ⟨⟨C_Twice, (show PySem.W.nsIn K mainGlobals (sOf t25) = some (some (.ref C_Twice)) from t25_eq ▸ r_Twice.ns), kit_own su_BadNumber_Twice sr_BadNumber i_BadNumber ty_BadNumber⟩, fun _ h => (List.not_mem_nil h).elim⟩)⟩)⟩)⟩)⟩)
  have kt_BadRule : ∀ c b E0, tab_BadRule.lookup c = some b → PySem.W.nsIn K mainGlobals (sOf c) = some (some (.ref E0)) → PySem.W.kitOne K (.ref E0) (.ref C_BadRule) = some b := kt_mk (tab := tab_BadRule) (List.forall_mem_cons.mpr ⟨⟨C_BadName, (show PySem.W.nsIn K mainGlobals (sOf t23) = some (some (.ref C_BadName)) from t23_eq ▸ r_BadName.ns), kit_own su_BadRule_BadName sr_BadRule i_BadRule ty_BadRule⟩, (List.forall_mem_cons.mpr ⟨⟨C_BadNumber, (show PySem.W.nsIn K mainGlobals (sOf t20) = some (some (.ref C_BadNumber)) from t20_eq ▸ r_BadNumber.ns), kit_own su_BadRule_BadNumber sr_BadRule i_BadRule ty_BadRule⟩, (List.forall_mem_cons.mpr ⟨⟨C_BadRule, (show PySem.W.nsIn K mainGlobals (sOf t26) = some (some (.ref C_BadRule)) from t26_eq ▸ r_BadRule.ns), kit_own su_BadRule_BadRule sr_BadRule i_BadRule ty_BadRule⟩, (List.forall_mem_cons.mpr ⟨⟨C_TooLarge, (show PySem.W.nsIn K mainGlobals (sOf t17) = some (some (.ref C_TooLarge)) from t17_eq ▸ r_TooLarge.ns), kit_own su_BadRule_TooLarge sr_BadRule i_BadRule ty_BadRule⟩, (List.forall_mem_cons.mpr ⟨⟨C_Twice, (show PySem.W.nsIn K mainGlobals (sOf t25) = some (some (.ref C_Twice)) from t25_eq ▸ r_Twice.ns), kit_own su_BadRule_Twice sr_BadRule i_BadRule ty_BadRule⟩, fun _ h => (List.not_mem_nil h).elim⟩)⟩)⟩)⟩)⟩)
  have kt_LimitError : ∀ c b E0, tab_LimitError.lookup c = some b → PySem.W.nsIn K mainGlobals (sOf c) = some (some (.ref E0)) → PySem.W.kitOne K (.ref E0) (.ref C_LimitError) = some b := kt_mk (tab := tab_LimitError) (List.forall_mem_cons.mpr ⟨⟨C_BadName, (show PySem.W.nsIn K mainGlobals (sOf t23) = some (some (.ref C_BadName)) from t23_eq ▸ r_BadName.ns), kit_own su_LimitError_BadName sr_LimitError i_LimitError ty_LimitError⟩, (List.forall_mem_cons.mpr ⟨⟨C_BadNumber, (show PySem.W.nsIn K mainGlobals (sOf t20) = some (some (.ref C_BadNumber)) from t20_eq ▸ r_BadNumber.ns), kit_own su_LimitError_BadNumber sr_LimitError i_LimitError ty_LimitError⟩, (List.forall_mem_cons.mpr ⟨⟨C_BadRule, (show PySem.W.nsIn K mainGlobals (sOf t26) = some (some (.ref C_BadRule)) from t26_eq ▸ r_BadRule.ns), kit_own su_LimitError_BadRule sr_LimitError i_LimitError ty_LimitError⟩, (List.forall_mem_cons.mpr ⟨⟨C_TooLarge, (show PySem.W.nsIn K mainGlobals (sOf t17) = some (some (.ref C_TooLarge)) from t17_eq ▸ r_TooLarge.ns), kit_own su_LimitError_TooLarge sr_LimitError i_LimitError ty_LimitError⟩, (List.forall_mem_cons.mpr ⟨⟨C_Twice, (show PySem.W.nsIn K mainGlobals (sOf t25) = some (some (.ref C_Twice)) from t25_eq ▸ r_Twice.ns), kit_own su_LimitError_Twice sr_LimitError i_LimitError ty_LimitError⟩, fun _ h => (List.not_mem_nil h).elim⟩)⟩)⟩)⟩)⟩)
  have kt_SchemaError : ∀ c b E0, tab_SchemaError.lookup c = some b → PySem.W.nsIn K mainGlobals (sOf c) = some (some (.ref E0)) → PySem.W.kitOne K (.ref E0) (.ref C_SchemaError) = some b := kt_mk (tab := tab_SchemaError) (List.forall_mem_cons.mpr ⟨⟨C_BadName, (show PySem.W.nsIn K mainGlobals (sOf t23) = some (some (.ref C_BadName)) from t23_eq ▸ r_BadName.ns), kit_own su_SchemaError_BadName sr_SchemaError i_SchemaError ty_SchemaError⟩, (List.forall_mem_cons.mpr ⟨⟨C_BadNumber, (show PySem.W.nsIn K mainGlobals (sOf t20) = some (some (.ref C_BadNumber)) from t20_eq ▸ r_BadNumber.ns), kit_own su_SchemaError_BadNumber sr_SchemaError i_SchemaError ty_SchemaError⟩, (List.forall_mem_cons.mpr ⟨⟨C_BadRule, (show PySem.W.nsIn K mainGlobals (sOf t26) = some (some (.ref C_BadRule)) from t26_eq ▸ r_BadRule.ns), kit_own su_SchemaError_BadRule sr_SchemaError i_SchemaError ty_SchemaError⟩, (List.forall_mem_cons.mpr ⟨⟨C_TooLarge, (show PySem.W.nsIn K mainGlobals (sOf t17) = some (some (.ref C_TooLarge)) from t17_eq ▸ r_TooLarge.ns), kit_own su_SchemaError_TooLarge sr_SchemaError i_SchemaError ty_SchemaError⟩, (List.forall_mem_cons.mpr ⟨⟨C_Twice, (show PySem.W.nsIn K mainGlobals (sOf t25) = some (some (.ref C_Twice)) from t25_eq ▸ r_Twice.ns), kit_own su_SchemaError_Twice sr_SchemaError i_SchemaError ty_SchemaError⟩, fun _ h => (List.not_mem_nil h).elim⟩)⟩)⟩)⟩)⟩)
  have kt_TooLarge : ∀ c b E0, tab_TooLarge.lookup c = some b → PySem.W.nsIn K mainGlobals (sOf c) = some (some (.ref E0)) → PySem.W.kitOne K (.ref E0) (.ref C_TooLarge) = some b := kt_mk (tab := tab_TooLarge) (List.forall_mem_cons.mpr ⟨⟨C_BadName, (show PySem.W.nsIn K mainGlobals (sOf t23) = some (some (.ref C_BadName)) from t23_eq ▸ r_BadName.ns), kit_own su_TooLarge_BadName sr_TooLarge i_TooLarge ty_TooLarge⟩, (List.forall_mem_cons.mpr ⟨⟨C_BadNumber, (show PySem.W.nsIn K mainGlobals (sOf t20) = some (some (.ref C_BadNumber)) from t20_eq ▸ r_BadNumber.ns), kit_own su_TooLarge_BadNumber sr_TooLarge i_TooLarge ty_TooLarge⟩, (List.forall_mem_cons.mpr ⟨⟨C_BadRule, (show PySem.W.nsIn K mainGlobals (sOf t26) = some (some (.ref C_BadRule)) from t26_eq ▸ r_BadRule.ns), kit_own su_TooLarge_BadRule sr_TooLarge i_TooLarge ty_TooLarge⟩, (List.forall_mem_cons.mpr ⟨⟨C_TooLarge, (show PySem.W.nsIn K mainGlobals (sOf t17) = some (some (.ref C_TooLarge)) from t17_eq ▸ r_TooLarge.ns), kit_own su_TooLarge_TooLarge sr_TooLarge i_TooLarge ty_TooLarge⟩, (List.forall_mem_cons.mpr ⟨⟨C_Twice, (show PySem.W.nsIn K mainGlobals (sOf t25) = some (some (.ref C_Twice)) from t25_eq ▸ r_Twice.ns), kit_own su_TooLarge_Twice sr_TooLarge i_TooLarge ty_TooLarge⟩, fun _ h => (List.not_mem_nil h).elim⟩)⟩)⟩)⟩)⟩)
  have kt_Twice : ∀ c b E0, tab_Twice.lookup c = some b → PySem.W.nsIn K mainGlobals (sOf c) = some (some (.ref E0)) → PySem.W.kitOne K (.ref E0) (.ref C_Twice) = some b := kt_mk (tab := tab_Twice) (List.forall_mem_cons.mpr ⟨⟨C_BadName, (show PySem.W.nsIn K mainGlobals (sOf t23) = some (some (.ref C_BadName)) from t23_eq ▸ r_BadName.ns), kit_own su_Twice_BadName sr_Twice i_Twice ty_Twice⟩, (List.forall_mem_cons.mpr ⟨⟨C_BadNumber, (show PySem.W.nsIn K mainGlobals (sOf t20) = some (some (.ref C_BadNumber)) from t20_eq ▸ r_BadNumber.ns), kit_own su_Twice_BadNumber sr_Twice i_Twice ty_Twice⟩, (List.forall_mem_cons.mpr ⟨⟨C_BadRule, (show PySem.W.nsIn K mainGlobals (sOf t26) = some (some (.ref C_BadRule)) from t26_eq ▸ r_BadRule.ns), kit_own su_Twice_BadRule sr_Twice i_Twice ty_Twice⟩, (List.forall_mem_cons.mpr ⟨⟨C_TooLarge, (show PySem.W.nsIn K mainGlobals (sOf t17) = some (some (.ref C_TooLarge)) from t17_eq ▸ r_TooLarge.ns), kit_own su_Twice_TooLarge sr_Twice i_Twice ty_Twice⟩, (List.forall_mem_cons.mpr ⟨⟨C_Twice, (show PySem.W.nsIn K mainGlobals (sOf t25) = some (some (.ref C_Twice)) from t25_eq ▸ r_Twice.ns), kit_own su_Twice_Twice sr_Twice i_Twice ty_Twice⟩, fun _ h => (List.not_mem_nil h).elim⟩)⟩)⟩)⟩)⟩)
  have kt_Unknown : ∀ c b E0, tab_Unknown.lookup c = some b → PySem.W.nsIn K mainGlobals (sOf c) = some (some (.ref E0)) → PySem.W.kitOne K (.ref E0) (.ref C_Unknown) = some b := kt_mk (tab := tab_Unknown) (List.forall_mem_cons.mpr ⟨⟨C_BadName, (show PySem.W.nsIn K mainGlobals (sOf t23) = some (some (.ref C_BadName)) from t23_eq ▸ r_BadName.ns), kit_own su_Unknown_BadName sr_Unknown i_Unknown ty_Unknown⟩, (List.forall_mem_cons.mpr ⟨⟨C_BadNumber, (show PySem.W.nsIn K mainGlobals (sOf t20) = some (some (.ref C_BadNumber)) from t20_eq ▸ r_BadNumber.ns), kit_own su_Unknown_BadNumber sr_Unknown i_Unknown ty_Unknown⟩, (List.forall_mem_cons.mpr ⟨⟨C_BadRule, (show PySem.W.nsIn K mainGlobals (sOf t26) = some (some (.ref C_BadRule)) from t26_eq ▸ r_BadRule.ns), kit_own su_Unknown_BadRule sr_Unknown i_Unknown ty_Unknown⟩, (List.forall_mem_cons.mpr ⟨⟨C_TooLarge, (show PySem.W.nsIn K mainGlobals (sOf t17) = some (some (.ref C_TooLarge)) from t17_eq ▸ r_TooLarge.ns), kit_own su_Unknown_TooLarge sr_Unknown i_Unknown ty_Unknown⟩, (List.forall_mem_cons.mpr ⟨⟨C_Twice, (show PySem.W.nsIn K mainGlobals (sOf t25) = some (some (.ref C_Twice)) from t25_eq ▸ r_Twice.ns), kit_own su_Unknown_Twice sr_Unknown i_Unknown ty_Unknown⟩, fun _ h => (List.not_mem_nil h).elim⟩)⟩)⟩)⟩)⟩)
  have kt_ValueError : ∀ c b E0, tab_ValueError.lookup c = some b → PySem.W.nsIn K mainGlobals (sOf c) = some (some (.ref E0)) → PySem.W.kitOne K (.ref E0) (.type "ValueError") = some b := kt_mk (tab := tab_ValueError) (List.forall_mem_cons.mpr ⟨⟨C_BadName, (show PySem.W.nsIn K mainGlobals (sOf t23) = some (some (.ref C_BadName)) from t23_eq ▸ r_BadName.ns), kit_blt su_ValueError_BadName (by decide +kernel)⟩, (List.forall_mem_cons.mpr ⟨⟨C_BadNumber, (show PySem.W.nsIn K mainGlobals (sOf t20) = some (some (.ref C_BadNumber)) from t20_eq ▸ r_BadNumber.ns), kit_blt su_ValueError_BadNumber (by decide +kernel)⟩, (List.forall_mem_cons.mpr ⟨⟨C_BadRule, (show PySem.W.nsIn K mainGlobals (sOf t26) = some (some (.ref C_BadRule)) from t26_eq ▸ r_BadRule.ns), kit_blt su_ValueError_BadRule (by decide +kernel)⟩, (List.forall_mem_cons.mpr ⟨⟨C_TooLarge, (show PySem.W.nsIn K mainGlobals (sOf t17) = some (some (.ref C_TooLarge)) from t17_eq ▸ r_TooLarge.ns), kit_blt su_ValueError_TooLarge (by decide +kernel)⟩, (List.forall_mem_cons.mpr ⟨⟨C_Twice, (show PySem.W.nsIn K mainGlobals (sOf t25) = some (some (.ref C_Twice)) from t25_eq ▸ r_Twice.ns), kit_blt su_ValueError_Twice (by decide +kernel)⟩, fun _ h => (List.not_mem_nil h).elim⟩)⟩)⟩)⟩)⟩)
  have xm_AwayError : ∀ c b E0, tab_AwayError.lookup c = some b → PySem.W.nsIn K mainGlobals (sOf c) = some (some (.ref E0)) → PySem.W.exmOne K (.ref E0) (.ref C_AwayError) = some b := xm_mk (tab := tab_AwayError) (List.forall_mem_cons.mpr ⟨⟨C_BadName, (show PySem.W.nsIn K mainGlobals (sOf t23) = some (some (.ref C_BadName)) from t23_eq ▸ r_BadName.ns), PySem.W.exm_ref be_AwayError hd_AwayError ty_AwayError su_AwayError_BadName⟩, (List.forall_mem_cons.mpr ⟨⟨C_BadNumber, (show PySem.W.nsIn K mainGlobals (sOf t20) = some (some (.ref C_BadNumber)) from t20_eq ▸ r_BadNumber.ns), PySem.W.exm_ref be_AwayError hd_AwayError ty_AwayError su_AwayError_BadNumber⟩, (List.forall_mem_cons.mpr ⟨⟨C_BadRule, (show PySem.W.nsIn K mainGlobals (sOf t26) = some (some (.ref C_BadRule)) from t26_eq ▸ r_BadRule.ns), PySem.W.exm_ref be_AwayError hd_AwayError ty_AwayError su_AwayError_BadRule⟩, (List.forall_mem_cons.mpr ⟨⟨C_TooLarge, (show PySem.W.nsIn K mainGlobals (sOf t17) = some (some (.ref C_TooLarge)) from t17_eq ▸ r_TooLarge.ns), PySem.W.exm_ref be_AwayError hd_AwayError ty_AwayError su_AwayError_TooLarge⟩, (List.forall_mem_cons.mpr ⟨⟨C_Twice, (show PySem.W.nsIn K mainGlobals (sOf t25) = some (some (.ref C_Twice)) from t25_eq ▸ r_Twice.ns), PySem.W.exm_ref be_AwayError hd_AwayError ty_AwayError su_AwayError_Twice⟩, fun _ h => (List.not_mem_nil h).elim⟩)⟩)⟩)⟩)⟩)
  have xf_AwayError : ∀ c E0, tab_AwayError.lookup c = some true → PySem.W.nsIn K mainGlobals (sOf c) = some (some (.ref E0)) → ErrF K NL E0 := xf_mk (tab := tab_AwayError) (List.forall_mem_cons.mpr ⟨⟨C_BadName, (show PySem.W.nsIn K mainGlobals (sOf t23) = some (some (.ref C_BadName)) from t23_eq ▸ r_BadName.ns), (e_BadName h).fc⟩, (List.forall_mem_cons.mpr ⟨⟨C_BadNumber, (show PySem.W.nsIn K mainGlobals (sOf t20) = some (some (.ref C_BadNumber)) from t20_eq ▸ r_BadNumber.ns), (e_BadNumber h).fc⟩, (List.forall_mem_cons.mpr ⟨⟨C_BadRule, (show PySem.W.nsIn K mainGlobals (sOf t26) = some (some (.ref C_BadRule)) from t26_eq ▸ r_BadRule.ns), (e_BadRule h).fc⟩, (List.forall_mem_cons.mpr ⟨⟨C_TooLarge, (show PySem.W.nsIn K mainGlobals (sOf t17) = some (some (.ref C_TooLarge)) from t17_eq ▸ r_TooLarge.ns), (e_TooLarge h).fc⟩, (List.forall_mem_cons.mpr ⟨⟨C_Twice, (show PySem.W.nsIn K mainGlobals (sOf t25) = some (some (.ref C_Twice)) from t25_eq ▸ r_Twice.ns), (e_Twice h).fc⟩, fun _ h => (List.not_mem_nil h).elim⟩)⟩)⟩)⟩)⟩)
  have k_is_name : ∀ base, Kept P w K mg base CX0 1 "is_name" (spM K (REk K) F_is_name) := fun base => cl_is_name M d_is_name z_len c_DIGITS c_LETTERS c_LONGEST_NAME c_RESERVED
  have k_check_label : ∀ base, Kept P w K mg base (L2.CX P w) 3 "check_label" (spM K (REk K) F_check_label) := fun base => cl_check_label M d_check_label (e_BadNumber base) (e_BadRule base) c_MOST_PRICE c_RULES
  have k_check_new_name : ∀ base, Kept P w K mg base (L2.CX P w) 3 "check_new_name" (spM K (REk K) F_check_new_name) := fun base => cl_check_new_name M d_check_new_name (k_is_name base) (e_BadName base) (e_Twice base)
  have k_node_count : ∀ base, Kept P w K mg base CX0 1 "node_count" (spM K (REk K) F_node_count) := fun base => cl_node_count M d_node_count z_sum
  have k_check_schema : ∀ base, Kept P w K mg base (L2.CX P w) 4 "check_schema" (spM K (REk K) F_check_schema) := fun base => cl_check_schema M d_check_schema (k_check_label base) (k_check_new_name base) (k_node_count base) (e_BadNumber base) (e_TooLarge base) z_len c_MOST_KINDS c_MOST_LABELS c_MOST_NODES
  have k_first_node : ∀ base, Kept P w K mg base CX0 1 "first_node" (spM K (REk K) F_first_node) := fun base => cl_first_node M d_first_node z_sum
  have k_nodes_of : ∀ base, Kept P w K mg base CX0 2 "nodes_of" (spM K (REk K) F_nodes_of) := fun base => cl_nodes_of M d_nodes_of (k_first_node base) z_range z_tuple
  have k_kind_of : ∀ base, Kept P w K mg base CX0 1 "kind_of" (spM K (REk K) F_kind_of) := fun base => cl_kind_of M d_kind_of z_enumerate
  have k_label_kinds : ∀ base, Kept P w K mg base CX0 1 "label_kinds" (spM K (REk K) F_label_kinds) := fun base => cl_label_kinds M d_label_kinds 
  have k_is_mark : ∀ base, Kept P w K mg base CX0 1 "is_mark" (spM K (REk K) F_is_mark) := fun base => cl_is_mark M d_is_mark 
  have k_is_edge : ∀ base, Kept P w K mg base CX0 2 "is_edge" (spM K (REk K) F_is_edge) := fun base => cl_is_edge M d_is_edge (k_is_mark base) (k_kind_of base) (k_label_kinds base) z_len
  have k_edges_let : ∀ base, Kept P w K mg base CX0 3 "edges_let" (spM K (REk K) F_edges_let) := fun base => cl_edges_let M d_edges_let (k_is_mark base) (k_label_kinds base) (k_nodes_of base) z_tuple
  have k__law_draw : ∀ base, Kept P w K mg base CX0 1 "_law_draw" (spM K (REk K) F__law_draw) := fun base => cl__law_draw M d__law_draw z_abs z_int z_len
  have k__law_pick : ∀ base, Kept P w K mg base CX0 2 "_law_pick" (spM K (REk K) F__law_pick) := fun base => cl__law_pick M d__law_pick (k__law_draw base) z_len
  have k__law_pop : ∀ base, Kept P w K mg base CX0 2 "_law_pop" (spM K (REk K) F__law_pop) := fun base => cl__law_pop M d__law_pop (k__law_draw base) z_len
  have k__law_rare : ∀ base, Kept P w K mg base CX0 2 "_law_rare" (spM K (REk K) F__law_rare) := fun base => cl__law_rare M d__law_rare (k__law_draw base)
  have k__law_pool : ∀ base, Kept P w K mg base CX0 1 "_law_pool" (spM K (REk K) F__law_pool) := fun base => cl__law_pool M d__law_pool 
  have k__law_is_int : ∀ base, Kept P w K mg base CX0 1 "_law_is_int" (spM K (REk K) F__law_is_int) := fun base => cl__law_is_int M d__law_is_int z_bool z_int z_isinstance
  have k__law_first : ∀ base, Kept P w K mg base CX0 1 "_law_first" (spM K (REk K) F__law_first) := fun base => cl__law_first M d__law_first z_sum
  have k__law_nodes : ∀ base, Kept P w K mg base CX0 2 "_law_nodes" (spM K (REk K) F__law_nodes) := fun base => cl__law_nodes M d__law_nodes (k__law_first base) z_range
  have k__law_let : ∀ base, Kept P w K mg base CX0 3 "_law_let" (spM K (REk K) F__law_let) := fun base => cl__law_let M d__law_let (k__law_nodes base)
  have k__law_schema : ∀ base, Kept P w K mg base CX0 3 "_law_schema" (spM K (REk K) F__law_schema) := fun base => cl__law_schema M d__law_schema (k__law_draw base) (k__law_pool base) (k__law_pop base) (k__law_rare base) z_range z_tuple
  have k__law_odd_name : ∀ base, Kept P w K mg base CX0 3 "_law_odd_name" (spM K (REk K) F__law_odd_name) := fun base => cl__law_odd_name M d__law_odd_name (k__law_draw base) (k__law_pick base) z_len
  have k__law_name_good : ∀ base, Kept P w K mg base CX0 1 "_law_name_good" (spM K (REk K) F__law_name_good) := fun base => cl__law_name_good M d__law_name_good z_all z_len
  have k__law_with_fault : ∀ base, Kept P w K mg base CX0 4 "_law_with_fault" (spM K (REk K) F__law_with_fault) := fun base => cl__law_with_fault M d__law_with_fault (k__law_draw base) (k__law_odd_name base) (k__law_pick base) z_len z_range z_str
  have k__law_due_kind : ∀ base, Kept P w K mg base CX0 2 "_law_due_kind" (spM K (REk K) F__law_due_kind) := fun base => cl__law_due_kind M d__law_due_kind (k__law_name_good base)
  have k__law_due_label : ∀ base, Kept P w K mg base CX0 2 "_law_due_label" (spM K (REk K) F__law_due_label) := fun base => cl__law_due_label M d__law_due_label (k__law_name_good base) z_len
  have k__law_due : ∀ base, Kept P w K mg base CX0 3 "_law_due" (spM K (REk K) F__law_due) := fun base => cl__law_due M d__law_due (k__law_due_kind base) (k__law_due_label base) z_len z_range z_sum
  have h__law_class : ∀ base, KeptH P w K mg base 1 "_law_class" (spH K (REk K) NL F__law_class) := fun base => cl__law_class M d__law_class n_BadName n_BadNumber n_BadRule n_LimitError n_SchemaError n_TooLarge n_Twice n_Unknown kt_BadName kt_BadNumber kt_BadRule kt_LimitError kt_SchemaError kt_TooLarge kt_Twice kt_Unknown kt_ValueError z_ValueError z_isinstance
  have k__law_checked : ∀ base, Kept P w K mg base CX0 5 "_law_checked" (spM K (REk K) F__law_checked) := fun base => cl__law_checked M d__law_checked (k_check_schema base) (h__law_class base) n_AwayError xm_AwayError xf_AwayError
  have k__law_nodes_right : ∀ base, Kept P w K mg base CX0 3 "_law_nodes_right" (spM K (REk K) F__law_nodes_right) := fun base => cl__law_nodes_right M d__law_nodes_right (k__law_is_int base) (k__law_nodes base) (k_kind_of base) (k_node_count base) (k_nodes_of base) z_len z_range z_sum z_tuple
  have k__law_edges_right : ∀ base, Kept P w K mg base CX0 4 "_law_edges_right" (spM K (REk K) F__law_edges_right) := fun base => cl__law_edges_right M d__law_edges_right (k__law_draw base) (k__law_let base) (k__law_pick base) (k_edges_let base) (k_is_edge base) z_bool z_isinstance z_len z_range z_sorted z_sum z_tuple
  have k__law_names_right : ∀ base, Kept P w K mg base CX0 4 "_law_names_right" (spM K (REk K) F__law_names_right) := fun base => cl__law_names_right M d__law_names_right (k__law_name_good base) (k__law_odd_name base) (k__law_pick base) (k_is_name base) z_bool z_isinstance
  exact ⟨_, fun s v => .of_eq rfl, fun base _ _ => ok_law M Fd hm (k__law_begin base) (k__law_checked base) (k__law_draw base) (k__law_due base) (k__law_edges_right base) (k__law_names_right base) (k__law_nodes_right base) (k__law_pick base) (k__law_schema base) (k__law_with_fault base) z_bool z_isinstance z_len z_list z_range z_tuple⟩
end K01

set_option linter.all false
set_option maxRecDepth 10000
/-! What a mirror comes to, step by step. -/
namespace Ml
section
variable {α β : Type} {e : Loc} {i j : Nat} {d : Dv} {f : Dv → Option Dv} {f2 : Dv → Dv → Option Dv} {ma mb mc m : ME Dv} {mo : ME Ob} {ms : List (ME Dv)} {g : MG} {gs : List MG} {a b : MS} {t s : ME Bool} {F : Fn} {as : List MA} {mi : ME (List Dv)}
@[simp] theorem ev_var : mVar i e = match e[i]? with | some (.fz d) => .ok d e | _ => .ud := rfl
@[simp] theorem ev_C : mC d e = .ok d e := rfl
@[simp] theorem ev_O1 : mO1 f ma e = (ma e).bind fun a e => .of (f a) e := rfl
@[simp] theorem ev_O2 : mO2 f2 ma mb e = (ma e).bind fun a e => (mb e).bind fun b e => .of (f2 a b) e := rfl
@[simp] theorem ev_N1 {f : Dv → Option (List Dv)} : mN1 f ma e = (ma e).bind fun a e => .of ((f a).map Ob.lst) e := rfl
@[simp] theorem ev_N2 {f : Dv → Dv → Option (List Dv)} : mN2 f ma mb e = (ma e).bind fun a e => (mb e).bind fun b e => .of ((f a b).map Ob.lst) e := rfl
@[simp] theorem ev_fz : mFz mo e = (mo e).bind fun o e => .ok o.toD e := rfl
@[simp] theorem ev_toD {ds : List Dv} : Ob.toD (.lst ds) = .lst ds := rfl
@[simp] theorem ev_args0 : mArgs [] e = .ok [] e := rfl
@[simp] theorem ev_args1 : mArgs (m :: ms) e = (m e).bind fun d e => (mArgs ms e).bind fun ds e => .ok (d :: ds) e := rfl
@[simp] theorem ev_tup : mTup ms e = (mArgs ms e).bind fun ds e => if ds.length ≤ 1000 then .ok (.tup ds) e else .ud := rfl
@[simp] theorem ev_lst : mLst ms e = (mArgs ms e).bind fun ds e => if ds.length ≤ 1000 then .ok (.lst ds) e else .ud := rfl
@[simp] theorem ev_own {f : List Dv → Option Dv} : mOwn i f e = match e[i]? with | some (.ow _ (.lst ds)) => .of (f ds) e | _ => .ud := rfl
@[simp] theorem ev_own2 {f : List Dv → Dv → Option Dv} : mOwn2 i f mb e = match e[i]? with | some (.ow _ _) => (mb e).bind fun b e => mOwn i (fun ds => f ds b) e | _ => .ud := rfl
@[simp] theorem ev_test : mTest m e = (m e).bind fun d e => match d with | .bl b => .ok b e | _ => .ud := rfl
@[simp] theorem ev_truth : mTruth m e = (m e).bind fun d e => .of (truthD d) e := rfl
@[simp] theorem ev_and : mAnd t s e = (t e).bind fun x e => if x = true then s e else .ok false e := rfl
@[simp] theorem ev_or : mOr t s e = (t e).bind fun x e => if x = true then .ok true e else s e := rfl
@[simp] theorem ev_not : mNot t e = (t e).bind fun x e => .ok (!x) e := rfl
@[simp] theorem ev_andV : mAndV ma mb e = (mTest ma e).bind fun x e => if x = true then mb e else .ok (.bl false) e := rfl
@[simp] theorem ev_orV : mOrV ma mb e = (mTest ma e).bind fun x e => if x = true then .ok (.bl true) e else mb e := rfl
@[simp] theorem ev_notV : mNotV ma e = (mTest ma e).bind fun x e => .ok (.bl (!x)) e := rfl
@[simp] theorem ev_gN : gN i d e = if free e[i]? = true then some (e.set i (.fz d)) else none := rfl
@[simp] theorem ev_gT {ds : List Dv} : gT gs (.tup ds) e = gTs gs ds e := rfl
@[simp] theorem ev_gT0 : gTs [] [] e = some e := rfl
@[simp] theorem ev_gT1 {ds : List Dv} : gTs (g :: gs) (d :: ds) e = (g d e).bind fun e => gTs gs ds e := rfl
@[simp] theorem ev_free1 : free (some .un) = true := rfl
@[simp] theorem ev_free2 : free (some (.fz d)) = true := rfl
@[simp] theorem ev_free3 {o : Ob} : free (some (.ow none o)) = true := rfl
@[simp] theorem ev_isOw1 {k : Option Nat} {o : Ob} : isOw (some (.ow k o)) = true := rfl
@[simp] theorem ev_nxO1 {e : Loc} : nxO (some e) = .nx e := rfl
@[simp] theorem ev_nil : sNil e = .nx e := rfl
@[simp] theorem ev_seq : sSeq a b e = (a e).then b := rfl
@[simp] theorem ev_brk : sBrk e = .bk e := rfl
@[simp] theorem ev_cnt : sCnt e = .ct e := rfl
@[simp] theorem ev_set : sSet m g e = (m e).go fun d e => nxO (g d e) := rfl
@[simp] theorem ev_setO : sSetO i mo e = (mo e).go fun o e => if free e[i]? = true then .nx (e.set i (.ow none o)) else .ud := rfl
@[simp] theorem ev_if : sIf t a b e = (t e).go fun x e => if x = true then a e else b e := rfl
@[simp] theorem ev_ret : sRet m e = (m e).go fun d e => .rt (.fz d) e := rfl
@[simp] theorem ev_retO : sRetO mo e = (mo e).go fun o e => .rt (.ow none o) e := rfl
@[simp] theorem ev_retV : sRetV i e = match e[i]? with | some (.ow none o) => .rt (.ow none o) e | _ => .ud := rfl
@[simp] theorem ev_drop : sDrop m e = (m e).go fun _ e => .nx e := rfl
@[simp] theorem ev_for : sFor mi g b e = (mi e).go fun ds e => loop g b ds e := rfl
@[simp] theorem ev_it {f : Dv → Option (List Dv)} : mIt f m e = (m e).bind fun d e => .of (f d) e := rfl
@[simp] theorem ev_itE {f : Dv → Option (List Dv)} : mItE f m e = (m e).bind fun d e => .of ((f d).map (enumD 0)) e := rfl
@[simp] theorem ev_rg1 : mRg1 m e = (m e).bind fun d e => match d with | .int n => .of (itR 0 n) e | _ => .ud := rfl
@[simp] theorem ev_part0 : mPart none e = .ok none e := rfl
@[simp] theorem ev_part1 : mPart (some m) e = (m e).bind fun d e => match d with | .int k => .ok (some k) e | _ => .ud := rfl
@[simp] theorem ev_sl {f : Dv → Option Int → Option Int → Option Dv} {lo hi : Option (ME Dv)} : mSl f m lo hi e = (m e).bind fun d e => (mPart lo e).bind fun a e => (mPart hi e).bind fun b e => .of (f d a b) e := rfl
@[simp] theorem ev_slN {f : Dv → Option Int → Option Int → Option (List Dv)} {lo hi : Option (ME Dv)} : mSlN f m lo hi e = (m e).bind fun d e => (mPart lo e).bind fun a e => (mPart hi e).bind fun b e => .of ((f d a b).map Ob.lst) e := rfl
@[simp] theorem ev_chain {f g : Dv → Dv → Option Dv} : mChain f g ma mb mc e = (ma e).bind fun a e => (mb e).bind fun b e => (Rs.of (f a b) e).bind fun t e => match t with | .bl true => (mc e).bind fun c e => .of (g b c) e | .bl false => .ok (.bl false) e | _ => .ud := rfl
@[simp] theorem ev_raise {c f : List Nat} : sRaise c f m e = (m e).go fun d e => if lowD 60 d = true then .er (c, [.str f, d]) e else .ud := rfl
@[simp] theorem ev_go_er {x : Err} {f : α → Loc → Sr} : (Rs.er x e : Rs α).go f = .er x e := rfl
@[simp] theorem ev_tupR : mTupR mi e = (mi e).bind fun ds e => .ok (.tup ds) e := rfl
@[simp] theorem ev_rs2 : mRs2 ma mb e = (ma e).bind fun x e => (mb e).bind fun y e => match x, y with | .int x, .int y => .of (itRs x y) e | _, _ => .ud := rfl
@[simp] theorem ev_callD : mCallD F as e = (mCall F as e).bind fun s e => match s with | .fz d => .ok d e | _ => .ud := rfl
@[simp] theorem ev_callO : mCallO F as e = (mCall F as e).bind fun s e => match s with | .ow none o => .ok o e | _ => .ud := rfl
@[simp] theorem ev_inO {neg : Bool} : mInO neg ma i e = (ma e).bind fun a e => match e[i]? with | some (.ow _ (.lst ds)) => .of (if neg = true then wNi ds a else wIn ds a) e | _ => .ud := rfl
@[simp] theorem ev_app : sApp i m e = if isOw e[i]? = true then (m e).go fun d e => match e[i]? with | some (.ow j (.lst ds)) => if ds.length < lim then .nx (e.set i (.ow j (.lst (ds ++ [d])))) else .ud | _ => .ud else .ud := rfl
@[simp] theorem ev_frz : sFrz i a e = match e[i]? with | some (.ow none (.lst ds)) => a (e.set i (.fz (.lst ds))) | _ => .ud := rfl
@[simp] theorem ev_isX {tab : List (List Nat × Bool)} : mIsX tab m e = (m e).bind fun a e => match a with | .exc c _ _ => .of ((tab.lookup c).map .bl) e | _ => .ud := rfl
@[simp] theorem ev_fld {f : List Nat} : mFld f m e = (m e).bind fun a e => match a with | .exc c g d => if g = f then .ok d e else .ud | _ => .ud := rfl
end
/-! calls -/
section
variable {e e1 e2 e3 : Loc} {F : Fn} {ma mb mc : ME Dv} {a b c : Dv} {s : Slt}
@[simp] theorem call_f0 : mCall F [] e = match F [] with | .ok s [] => .ok s e | .er x [] => .er x e | _ => .ud := by
  simp only [mCall, mAs, Rs.bind_ok, owns, List.nodup_nil, if_true, resolve]
  cases F [] with
  | ok s os => cases os <;> simp [wback]
  | er x os => cases os <;> simp [wback]
  | ud => rfl
@[simp] theorem call_f1 : mCall F [.val ma] e = (ma e).bind fun a e => match F [.fz a] with | .ok s [] => .ok s e | .er x [] => .er x e | _ => .ud := by
  simp only [mCall, mAs]
  cases ma e with
  | ok a e1 =>
    simp only [Rs.bind_ok, owns, List.nodup_nil, if_true, resolve, Option.map_some]
    cases F [.fz a] with
    | ok s os => cases os <;> simp [wback]
    | er x os => cases os <;> simp [wback]
    | ud => rfl
  | er x e => rfl
  | ud => rfl
@[simp] theorem call_f2 : mCall F [.val ma, .val mb] e = (ma e).bind fun a e => (mb e).bind fun b e => match F [.fz a, .fz b] with | .ok s [] => .ok s e | .er x [] => .er x e | _ => .ud := by
  simp only [mCall, mAs]
  cases ma e with
  | ok a e1 =>
    simp only [Rs.bind_ok]
    cases mb e1 with
    | ok b e2 =>
      simp only [Rs.bind_ok, owns, List.nodup_nil, if_true, resolve, Option.map_some]
      cases F [.fz a, .fz b] with
      | ok s os => cases os <;> simp [wback]
      | er x os => cases os <;> simp [wback]
      | ud => rfl
    | er x e => rfl
    | ud => rfl
  | er x e => rfl
  | ud => rfl
@[simp] theorem call_f3 : mCall F [.val ma, .val mb, .val mc] e = (ma e).bind fun a e => (mb e).bind fun b e => (mc e).bind fun c e => match F [.fz a, .fz b, .fz c] with | .ok s [] => .ok s e | .er x [] => .er x e | _ => .ud := by
  simp only [mCall, mAs]
  cases ma e with
  | ok a e1 =>
    simp only [Rs.bind_ok]
    cases mb e1 with
    | ok b e2 =>
      simp only [Rs.bind_ok]
      cases mc e2 with
      | ok c e3 =>
        simp only [Rs.bind_ok, owns, List.nodup_nil, if_true, resolve, Option.map_some]
        cases F [.fz a, .fz b, .fz c] with
        | ok s os => cases os <;> simp [wback]
        | er x os => cases os <;> simp [wback]
        | ud => rfl
      | er x e => rfl
      | ud => rfl
    | er x e => rfl
    | ud => rfl
  | er x e => rfl
  | ud => rfl
end
/-! a def's body -/
theorem fn_er {np nl : Nat} {b : MS} {as : List Slt} {x : Err} {e : Loc} {os : List Ob} (h1 : as.length = np) (h2 : as.all isArg = true) (h : b (initE 0 as ++ List.replicate nl .un) = .er x e) (h3 : outsE 0 as e = some os) : mkFn np nl b as = .er x os := by
  unfold mkFn
  rw [if_pos ⟨h1, h2⟩, h]
  simp only [h3]
theorem fn_nx {np nl : Nat} {b : MS} {as : List Slt} {e : Loc} {os : List Ob} (h1 : as.length = np) (h2 : as.all isArg = true) (h : b (initE 0 as ++ List.replicate nl .un) = .nx e) (h3 : outsE 0 as e = some os) : mkFn np nl b as = .ok (.fz .non) os := by
  unfold mkFn
  rw [if_pos ⟨h1, h2⟩, h]
  simp only [h3]
/-- what stops a loop and goes on from it -/
def stops : Sr → Prop
  | .rt _ _ => True
  | .er _ _ => True
  | _ => False
/-- a loop that looks for the first item that ends it -/
theorem loop_find {g : MG} {b : MS} {I : Loc → Prop} {R : Dv → Option (Loc → Sr)} : ∀ {ds : List Dv} {e : Loc}, I e → (∀ d ∈ ds, ∀ e, I e → ∃ e1 e2, g d e = some e1 ∧ I e2 ∧ (R d = none ∧ (b e1 = .nx e2 ∨ b e1 = .ct e2) ∨ ∃ f, R d = some f ∧ b e1 = f e2 ∧ stops (f e2))) →
    ∃ e', I e' ∧ loop g b ds e = match ds.findSome? R with | none => .nx e' | some f => f e'
  | [], e, h, _ => ⟨e, h, rfl⟩
  | d :: ds, e, h, hs => by
    obtain ⟨e1, e2, hg, h2, hb⟩ := hs d List.mem_cons_self e h
    rcases hb with ⟨hr, hb⟩ | ⟨f, hr, hb, hst⟩
    · obtain ⟨e', h', q⟩ := loop_find (ds := ds) h2 fun d hd => hs d (List.mem_cons_of_mem _ hd)
      refine ⟨e', h', ?_⟩
      rcases hb with hb | hb <;> simp only [loop, hg, hb, List.findSome?_cons, hr, q]
    · refine ⟨e2, h2, ?_⟩
      simp only [loop, hg, hb, List.findSome?_cons, hr]
      revert hst
      cases f e2 <;> simp [stops]
/-- a comprehension that takes each item to another one -/
theorem lc_map {g : MG} {t : ME Bool} {m : ME Dv} {vs : List Nat} {f : Dv → Dv} {e : Loc} : ∀ {ds acc : List Dv}, acc.length + ds.length ≤ lim →
    (∀ d ∈ ds, ∃ e2 e3, g d e = some e2 ∧ t e2 = .ok true e2 ∧ m e2 = .ok (f d) e3 ∧ wipeE e3 vs = e) → lcGo g t m vs ds acc e = some (acc ++ ds.map f, e)
  | [], acc, _, _ => by simp [lcGo]
  | d :: ds, acc, hl, h => by
    obtain ⟨e2, e3, h1, h2, h3, h4⟩ := h d List.mem_cons_self
    simp only [List.length_cons] at hl
    have hlt : acc.length < lim := by omega
    simp only [lcGo, h1, h2, h3, hlt, if_true, h4]
    rw [lc_map (by simp; omega) fun d hd => h d (List.mem_cons_of_mem _ hd)]
    simp
theorem mlc_map {mi : ME (List Dv)} {g : MG} {t : ME Bool} {m : ME Dv} {vs : List Nat} {f : Dv → Dv} {e e1 : Loc} {ds : List Dv} (hi : mi e = .ok ds e1) (hn : noOw e1 vs = true) (hl : ds.length ≤ lim) (h : ∀ d ∈ ds, ∃ e2 e3, g d (wipeE e1 vs) = some e2 ∧ t e2 = .ok true e2 ∧ m e2 = .ok (f d) e3 ∧ wipeE e3 vs = wipeE e1 vs)
    (hb : backE e1 (wipeE e1 vs) vs = e1) : mLc mi g t m vs e = .ok (.lst (ds.map f)) e1 := by
  unfold mLc
  rw [hi]
  simp only [Rs.bind_ok, hn, if_true]
  rw [lc_map (by simpa using hl) h]
  simp [hb]
theorem itR_nat {n : Nat} (h : n < 1000000000) : itR 0 (n : Int) = some ((List.range n).map fun (k : Nat) => Dv.int (k : Int)) := by
  unfold itR big
  rw [if_pos (by omega)]
  simp
theorem limv : lim = 16000000 := rfl
end Ml
namespace Ml
/-- a loop whose items each pass, or end it with one and the same answer -/
theorem loop_all {g : MG} {b : MS} {I : Loc → Prop} {P : Dv → Bool} {v : Slt} : ∀ {ds : List Dv} {e : Loc}, I e → (∀ d ∈ ds, ∀ e, I e → ∃ e1 e2, g d e = some e1 ∧ I e2 ∧ (P d = true → b e1 = .nx e2) ∧ (P d = false → b e1 = .rt v e2)) →
    ∃ e', I e' ∧ loop g b ds e = if ds.all P = true then .nx e' else .rt v e'
  | [], e, h, _ => ⟨e, h, rfl⟩
  | d :: ds, e, h, hs => by
    obtain ⟨e1, e2, hg, h2, ht, hf⟩ := hs d List.mem_cons_self e h
    cases hp : P d with
    | true =>
      obtain ⟨e', h', q⟩ := loop_all (ds := ds) h2 fun d hd => hs d (List.mem_cons_of_mem _ hd)
      exact ⟨e', h', by simp only [loop, hg, ht hp, List.all_cons, hp, Bool.true_and, q]⟩
    | false => exact ⟨e2, h2, by simp [loop, hg, hf hp, hp]⟩
/-- it returns s -/
def RT (r : Sr) (s : Slt) (n : Nat) : Prop := ∃ e, r = .rt s e ∧ e.length = n
theorem RT.of {r : Sr} {s : Slt} {n : Nat} {e : Loc} (h : r = .rt s e) (hl : e.length = n) : RT r s n := ⟨e, h, hl⟩
theorem RT.eq {r r' : Sr} {s : Slt} {n : Nat} (h : r = r') (h' : RT r' s n) : RT r s n := h ▸ h'
@[simp] theorem rt_rt {s s' : Slt} {n : Nat} {e : Loc} : RT (.rt s e) s' n ↔ s = s' ∧ e.length = n := ⟨fun ⟨_, h, hl⟩ => by cases h; exact ⟨rfl, hl⟩, fun ⟨h, hl⟩ => ⟨e, by rw [h], hl⟩⟩
def allFz : List Slt → Bool
  | [] => true
  | .fz _ :: r => allFz r
  | _ :: _ => false
theorem allFz_arg : ∀ {as : List Slt}, allFz as = true → as.all isArg = true ∧ (∀ k, initE k as = as) ∧ ∀ k (e : Loc), as.length ≤ e.length → outsE k as e = some []
  | [], _ => ⟨rfl, fun _ => rfl, fun _ _ _ => rfl⟩
  | .fz d :: r, h => by
    obtain ⟨h1, h2, h3⟩ := allFz_arg (as := r) h
    refine ⟨by simp [isArg] at h1 ⊢; exact h1, fun k => by simp [initE, h2], fun k e he => ?_⟩
    cases e with
    | nil => simp at he
    | cons s e => simp only [outsE]; exact h3 k e (by simpa using he)
  | .un :: _, h => by simp [allFz] at h
  | .ow _ _ :: _, h => by simp [allFz] at h
/-- a def whose arguments are all data -/
theorem fn_rt {np nl : Nat} {b : MS} {as : List Slt} {s : Slt} (h1 : as.length = np) (h2 : allFz as = true) (h : RT (b (as ++ List.replicate nl .un)) s (np + nl)) : mkFn np nl b as = .ok s [] := by
  obtain ⟨a1, a2, a3⟩ := allFz_arg h2
  obtain ⟨e, he, hl⟩ := h
  exact fn_ok h1 a1 (by rw [a2]; exact he) (a3 0 e (by omega))
theorem any_strs (s : List Nat) : ∀ l : List (List Nat), ((l.map Dv.str).any fun y => eqF y (.str s)) = decide (s ∈ l)
  | [] => by simp
  | a :: l => by
    rw [List.map_cons, List.any_cons, any_strs s l, show eqF (.str a) (.str s) = decide (a = s) from rfl]
    simp [eq_comm]
theorem all_strs : ∀ l : List (List Nat), (l.map Dv.str).all flatD = true
  | [] => rfl
  | a :: l => by simp only [List.map_cons, List.all_cons, all_strs l]; rfl
theorem oIn_strs {s : List Nat} {l : List (List Nat)} : oIn (.str s) (.lst (l.map Dv.str)) = some (.bl (decide (s ∈ l))) := by
  simp only [oIn, seqD, Option.bind_some, flatD, all_strs, any_strs, and_self, if_true]
theorem oNi_strs {s : List Nat} {l : List (List Nat)} : oNi (.str s) (.tup (l.map Dv.str)) = some (.bl (decide (s ∉ l))) := by
  simp only [oNi, seqD, Option.bind_some, flatD, all_strs, any_strs, and_self, if_true]; simp
theorem wIn_strs {s : List Nat} {l : List (List Nat)} : wIn (l.map Dv.str) (.str s) = some (.bl (decide (s ∈ l))) := by
  simp only [wIn, flatD, all_strs, any_strs, and_self, if_true]
theorem getI0 {α : Type} (a : α) (l : List α) : getI (a :: l) 0 = some a := by simp [getI, ixn]
/-- the same, the walked list told as a map -/
theorem lc_mapA {α : Type} {g : MG} {t : ME Bool} {m : ME Dv} {vs : List Nat} {h f : α → Dv} {e : Loc} : ∀ {L : List α} {acc : List Dv}, acc.length + L.length ≤ lim →
    (∀ x ∈ L, ∃ e2 e3, g (h x) e = some e2 ∧ t e2 = .ok true e2 ∧ m e2 = .ok (f x) e3 ∧ wipeE e3 vs = e) → lcGo g t m vs (L.map h) acc e = some (acc ++ L.map f, e)
  | [], acc, _, _ => by simp [lcGo]
  | d :: ds, acc, hl, hh => by
    obtain ⟨e2, e3, h1, h2, h3, h4⟩ := hh d List.mem_cons_self
    simp only [List.length_cons] at hl
    have hlt : acc.length < lim := by omega
    simp only [List.map_cons, lcGo, h1, h2, h3, hlt, if_true, h4]
    rw [lc_mapA (by simp; omega) fun d hd => hh d (List.mem_cons_of_mem _ hd)]
    simp
theorem mlc_mapA {α : Type} {mi : ME (List Dv)} {g : MG} {t : ME Bool} {m : ME Dv} {vs : List Nat} {h f : α → Dv} {e e1 : Loc} {L : List α} (hi : mi e = .ok (L.map h) e1) (hn : noOw e1 vs = true) (hl : L.length ≤ lim)
    (hh : ∀ x ∈ L, ∃ e2 e3, g (h x) (wipeE e1 vs) = some e2 ∧ t e2 = .ok true e2 ∧ m e2 = .ok (f x) e3 ∧ wipeE e3 vs = wipeE e1 vs)
    (hb : backE e1 (wipeE e1 vs) vs = e1) : mLc mi g t m vs e = .ok (.lst (L.map f)) e1 := by
  unfold mLc
  rw [hi]
  simp only [Rs.bind_ok, hn, if_true]
  rw [lc_mapA (by simpa using hl) hh]
  simp [hb]
end Ml

set_option linter.all false
set_option maxRecDepth 10000
set_option maxHeartbeats 1000000
namespace K01
open Ml
def resv : List (List Nat) := [t2, t3, t4, t5, t6, t7, t8, t9, t10, t11, t12, t13, t14, t15]
def sgn (c : Nat) : Bool := decide (c ∈ t0) || decide (c ∈ t1)
def isName : List Nat → Bool
  | [] => false
  | c :: r => decide (r.length + 1 ≤ 8) && (decide (c ∈ t0) && ((c :: r).all sgn && decide ((c :: r) ∉ resv)))
def sgD (d : Dv) : Bool := match d with | .str [c] => sgn c | _ => false
theorem all_sgD : ∀ l : List Nat, (l.map fun c => Dv.str [c]).all sgD = l.all sgn
  | [] => rfl
  | c :: l => by simp only [List.map_cons, List.all_cons, all_sgD l]; rfl
theorem is_name_ok {s : List Nat} (h : s.length ≤ 1000) : F_is_name [.fz (.str s)] = .ok (.fz (.bl (isName s))) [] := by
  refine fn_rt rfl rfl ?_
  show RT (m_is_name [.fz (.str s), .un]) _ _
  cases s with
  | nil => simp [m_is_name, oLe, oLen, isName]
  | cons c r =>
    have hl : r.length + 1 ≤ lim := by have := limv; simp at h; omega
    have e1 : (1 : Int) ≤ (r.length : Int) + 1 := by omega
    have e8 : ((r.length : Int) + 1 ≤ 8) = (r.length + 1 ≤ 8) := by apply propext; omega
    by_cases c1 : r.length + 1 ≤ 8
    · by_cases c2 : c ∈ t0
      · obtain ⟨e', ⟨x, rfl, hx⟩, hL⟩ := loop_all (g := gN 1) (b := (sIf (mAnd (mTest (mO2 oNiS (mVar 1) (mC (.str t0)))) (mTest (mO2 oNiS (mVar 1) (mC (.str t1))))) (sRet (mC (.bl false))) sNil)) (I := fun e => ∃ x, e = [.fz (.str (c :: r)), x] ∧ free (some x) = true)
          (P := sgD) (v := .fz (.bl false)) (ds := (c :: r).map fun c => .str [c]) (e := [.fz (.str (c :: r)), .un]) ⟨.un, rfl, rfl⟩
          (fun d hd e he => by
            obtain ⟨x, rfl, hx⟩ := he
            obtain ⟨k, _, rfl⟩ := List.mem_map.mp hd
            refine ⟨[.fz (.str (c :: r)), .fz (.str [k])], [.fz (.str (c :: r)), .fz (.str [k])], by simp [hx], ⟨_, rfl, rfl⟩, fun z => ?_, fun z => ?_⟩
            · by_cases k0 : k ∈ t0
              · simp [oNiS, k0]
              · have k1 : k ∈ t1 := by simpa [sgD, sgn, k0] using z
                simp [oNiS, k0, k1]
            · have k0 : k ∉ t0 ∧ k ∉ t1 := by simpa [sgD, sgn] using z
              simp [oNiS, k0])
        rw [all_sgD] at hL
        have hni : oNi (.str (c :: r)) (.tup [.str t2, .str t3, .str t4, .str t5, .str t6, .str t7, .str t8, .str t9, .str t10, .str t11, .str t12, .str t13, .str t14, .str t15]) = some (.bl (decide ((c :: r) ∉ resv))) := oNi_strs (l := resv)
        have hit : itS (.str (c :: r)) = some ((c :: r).map fun c => .str [c]) := rfl
        unfold m_is_name
        simp only [ev_seq, ev_if, ev_or, ev_not, ev_test, ev_chain, ev_C, ev_O1, ev_O2, ev_var, ev_for, ev_it, oLe, oLen, Rs.bind_ok, List.getElem?_cons_zero, List.length_cons, hl, if_true, Rs.of_some, Int.natCast_add, Int.natCast_one, e1, e8, c1, decide_true, Bool.not_true, Bool.false_eq_true, if_false, oIx, getI0, Option.map_some, oNiS, c2, ev_nil, Rs.go_ok, Sr.then_nx, hit, hL]
        cases c3 : (c :: r).all sgn with
        | true => simp [hni, isName, c1, c2, c3]
        | false => simp [isName, c3]
      · simp [m_is_name, oLe, oLen, hl, e1, e8, c1, oIx, getI0, oNiS, c2, isName]
    · simp [m_is_name, oLe, oLen, hl, e1, e8, c1, isName]
theorem bools_map {α : Type} (f : α → Bool) : ∀ l : List α, boolsOf (l.map fun x => Dv.bl (f x)) = some (l.map f)
  | [] => rfl
  | a :: l => by simp only [List.map_cons, boolsOf, bools_map f l]; rfl
theorem name_good_ok {s : List Nat} (h : s.length ≤ 1000) : F__law_name_good [.fz (.str s)] = .ok (.fz (.bl (isName s))) [] := by
  refine fn_rt rfl rfl ?_
  show RT (m__law_name_good [.fz (.str s), .un, .un, .un]) _ _
  have hsp : oSplit t40 (.str t29) = some (resv.map .str) := rfl
  have hl : s.length ≤ lim := by have := limv; omega
  have hin : oIn (.str s) (.lst (resv.map .str)) = some (.bl (decide (s ∈ resv))) := oIn_strs
  cases s with
  | nil => simp [m__law_name_good, mM1N, hsp, oLe, oLen, isName]
  | cons c r =>
    have e1 : (1 : Int) ≤ (r.length : Int) + 1 := by omega
    have e8 : ((r.length : Int) + 1 ≤ 8) = (r.length + 1 ≤ 8) := by apply propext; omega
    simp only [List.length_cons] at hl
    by_cases c1 : r.length + 1 ≤ 8
    · by_cases c4 : (c :: r) ∈ resv
      · simp [m__law_name_good, mM1N, hsp, oLe, oLen, hl, e1, e8, c1, hin, c4, isName]
      · by_cases c2 : c ∈ t0
        · have hm : mLc (mIt itS (mVar 0)) (gN 3) mYes (mO2 oInS (mVar 3) (mO2 oAdd (mVar 2) (mC (.str t1)))) [3] [.fz (.str (c :: r)), .fz (.lst (resv.map .str)), .fz (.str t0), .un] =
              .ok (.lst (((c :: r).map fun c => Dv.str [c]).map fun d => .bl (sgD d))) [.fz (.str (c :: r)), .fz (.lst (resv.map .str)), .fz (.str t0), .un] := by
            refine mlc_map (ds := (c :: r).map fun c => Dv.str [c]) rfl rfl (by simp; exact hl) (fun d hd => ?_) rfl
            obtain ⟨k, _, rfl⟩ := List.mem_map.mp hd
            refine ⟨_, [.fz (.str (c :: r)), .fz (.lst (resv.map .str)), .fz (.str t0), .fz (.str [k])], rfl, rfl, ?_, rfl⟩
            have : oAdd (.str t0) (.str t1) = some (.str (t0 ++ t1)) := rfl
            simp [wipeE, this, oInS, sgD, sgn]
          have hb : boolsOf (((c :: r).map fun c => Dv.str [c]).map fun d => .bl (sgD d)) = some (((c :: r).map fun c => Dv.str [c]).map sgD) := bools_map _ _
          have ha : (((c :: r).map fun c => Dv.str [c]).map sgD).all id = (c :: r).all sgn := by
            rw [← all_sgD]; simp [List.all_map, Function.comp_def]
          unfold m__law_name_good
          simp only [ev_seq, ev_set, ev_fz, mM1N, ev_C, Rs.bind_ok, hsp, Option.map_some, Rs.of_some, Rs.go_ok, ev_gN, List.getElem?_cons_succ, List.getElem?_cons_zero, ev_free1, if_true, ev_nxO1, Sr.then_nx, List.set_cons_succ, List.set_cons_zero, ev_toD,
            ev_if, ev_or, ev_not, ev_test, ev_chain, ev_O1, ev_O2, ev_var, oLe, oLen, List.length_cons, hl, Int.natCast_add, Int.natCast_one, e1, e8, c1, decide_true, Bool.not_true, Bool.false_eq_true, if_false, hin, c4, decide_false, oIx, getI0, oNiS, c2, ev_nil, ev_ret, hm, oAll, hb, ha]
          simp [isName, c1, c2, c4]
        · simp [m__law_name_good, mM1N, hsp, oLe, oLen, hl, e1, e8, c1, hin, c4, oIx, getI0, oNiS, c2, isName]
    · simp [m__law_name_good, mM1N, hsp, oLe, oLen, hl, e1, e8, c1, isName]
end K01

set_option linter.all false
set_option maxRecDepth 10000
set_option maxHeartbeats 1000000
namespace K01
open Ml
abbrev Kd := List Nat × Int
structure Lb where
  n : List Nat
  s : Int
  t : Int
  p : Int
  r : List Nat
def kD (k : Kd) : Dv := .tup [.str k.1, .int k.2]
def lD (l : Lb) : Dv := .tup [.str l.n, .int l.s, .int l.t, .int l.p, .str l.r]
def scD (K : List Kd) (L : List Lb) : Dv := .tup [.str t30, .tup (K.map kD), .tup (L.map lD)]
/-- class, field, datum -/
abbrev Er := List Nat × List Nat × Dv
def erD (x : Er) : Err := (x.1, [.str x.2.1, x.2.2])
def tx (s : List Nat) : Prop := s.length ≤ 1000 ∧ (s.all fun c => decide (c < 1114112)) = true
theorem low_str {s : List Nat} (h : tx s) {n : Nat} : lowD n (.str s) = true := by unfold lowD; exact h.2
theorem low_int {i : Int} {n : Nat} : lowD n (.int i) = true := by unfold lowD; rfl
def newNm (ns : List (List Nat)) (s : List Nat) : Option Er := if isName s = true then (if s ∈ ns then some (t25, t24, .str s) else none) else some (t23, t24, .str s)
def inB (lo hi i : Int) : Bool := decide (lo ≤ i) && decide (i ≤ hi)
def inK (m : Nat) (i : Int) : Bool := decide (0 ≤ i) && decide (i < m)
def kindEr (ns : List (List Nat)) (k : Kd) : Option Er := (newNm ns k.1).or (if inB 0 24 k.2 = true then none else some (t20, t21, .int k.2))
def rules : List (List Nat) := [t4, t5, t6]
def labE (m : Nat) (l : Lb) : Option Er :=
  if inK m l.s = true then (if inK m l.t = true then (if inB 0 9 l.p = true then (if l.r ∉ rules ∨ l.r = t6 ∧ l.s ≠ l.t then some (t26, t24, .str l.n) else none) else some (t20, t21, .int l.p)) else some (t20, t21, .int l.t)) else some (t20, t21, .int l.s)
def firstK (ns : List (List Nat)) : List Kd → Option Er
  | [] => none
  | k :: r => (kindEr ns k).or (firstK (ns ++ [k.1]) r)
def firstL (m : Nat) (ns : List (List Nat)) : List Lb → Option Er
  | [] => none
  | l :: r => ((newNm ns l.n).or (labE m l)).or (firstL m (ns ++ [l.n]) r)
def chk (K : List Kd) (L : List Lb) : Option Er :=
  if 6 < K.length then some (t17, t18, .str t16) else if 12 < L.length then some (t17, t18, .str t19) else
  (firstK [] K).or ((firstL K.length (K.map (·.1)) L).or (if 24 < (K.map (·.2)).sum then some (t17, t18, .str t22) else none))
/-- what a def that may raise comes to -/
def resF (o : Option Er) (os : List Ob) : Fres := match o with
  | none => .ok (.fz .non) os
  | some x => .er (erD x) os
theorem new_name_ok {ns : List (List Nat)} {s : List Nat} (h : tx s) : F_check_new_name [.ow none (.lst (ns.map .str)), .fz (.str s)] = resF (newNm ns s) [.lst (ns.map .str)] := by
  have hn := is_name_ok h.1
  have hi : wIn (ns.map .str) (.str s) = some (.bl (decide (s ∈ ns))) := wIn_strs
  have hlo : lowD 60 (.str s) = true := low_str h
  by_cases c1 : isName s = true
  · by_cases c2 : s ∈ ns
    · refine fn_er rfl rfl (e := [.ow (some 0) (.lst (ns.map .str)), .fz (.str s)]) ?_ rfl |>.trans (by simp [resF, newNm, c1, c2]; rfl)
      simp [initE, m_check_new_name, hn, c1, truthD, hi, c2, hlo, erD]
    · refine fn_nx rfl rfl (e := [.ow (some 0) (.lst (ns.map .str)), .fz (.str s)]) ?_ rfl |>.trans (by simp [resF, newNm, c1, c2])
      simp [initE, m_check_new_name, hn, c1, truthD, hi, c2]
  · refine fn_er rfl rfl (e := [.ow (some 0) (.lst (ns.map .str)), .fz (.str s)]) ?_ rfl |>.trans (by simp [resF, newNm, c1]; rfl)
    simp [initE, m_check_new_name, hn, c1, truthD, hlo, erD]
theorem nrules {r : List Nat} : oNi (.str r) (.tup [.str t4, .str t5, .str t6]) = some (.bl (decide (r ∉ rules))) := oNi_strs (l := rules)
theorem label_ok {l : Lb} {m : Nat} (h : tx l.n) : F_check_label [.fz (lD l), .fz (.int m)] = resF (labE m l) [] := by
  have hli : ∀ i, lowD 60 (.int i) = true := fun i => low_int
  obtain ⟨n, s, t, p, r⟩ := l
  have hlo : lowD 60 (.str n) = true := low_str h
  have hr := nrules (r := r)
  show mkFn 2 6 m_check_label _ = _
  have key : m_check_label ([.fz (lD ⟨n, s, t, p, r⟩), .fz (.int m)] ++ List.replicate 6 .un) =
      (let e1 : Loc := [.fz (lD ⟨n, s, t, p, r⟩), .fz (.int m), .fz (.str n), .fz (.int s), .fz (.int t), .fz (.int p), .fz (.str r), .fz (.int s)]
       let e2 : Loc := [.fz (lD ⟨n, s, t, p, r⟩), .fz (.int m), .fz (.str n), .fz (.int s), .fz (.int t), .fz (.int p), .fz (.str r), .fz (.int t)]
       if inK m s = true then match labE m ⟨n, s, t, p, r⟩ with | none => .nx e2 | some x => .er (erD x) e2 else .er (t20, [.str t21, .int s]) e1) := by
    unfold lD labE inK inB
    by_cases c1 : 0 ≤ s
    · by_cases c2 : s < m
      · by_cases c3 : 0 ≤ t
        · by_cases c4 : t < m
          · by_cases c5 : 0 ≤ p
            · by_cases c6 : p ≤ 9
              · by_cases c7 : r ∈ rules
                · by_cases c8 : r = t6
                  · by_cases c9 : s = t
                    · subst c8 c9; simp [m_check_label, itT, loop, oLe, oLt, c1, c2, c5, c6, hr, c7, oEq, oNe, eqS, erD]
                    · subst c8; simp [m_check_label, itT, loop, oLe, oLt, c1, c2, c3, c4, c5, c6, hr, c7, oEq, oNe, eqS, c9, erD, hlo]
                  · simp [m_check_label, itT, loop, oLe, oLt, c1, c2, c3, c4, c5, c6, hr, c7, c8, oEq, oNe, eqS, erD]
                · simp [m_check_label, itT, loop, oLe, oLt, c1, c2, c3, c4, c5, c6, hr, c7, oEq, oNe, eqS, erD, hlo]
              · simp [m_check_label, itT, loop, oLe, oLt, c1, c2, c3, c4, c5, c6, erD, hli]
            · simp [m_check_label, itT, loop, oLe, oLt, c1, c2, c3, c4, c5, erD, hli]
          · simp [m_check_label, itT, loop, oLe, oLt, c1, c2, c3, c4, erD, hli]
        · simp [m_check_label, itT, loop, oLe, oLt, c1, c2, c3, erD, hli]
      · simp [m_check_label, itT, loop, oLe, oLt, c1, c2, erD, hli]
    · simp [m_check_label, itT, loop, oLe, oLt, c1, erD, hli]
  by_cases c : inK m s = true
  · simp only [c, if_true] at key
    cases hx : labE m ⟨n, s, t, p, r⟩ with
    | none => rw [hx] at key; exact fn_nx rfl rfl key rfl
    | some x => rw [hx] at key; exact fn_er rfl rfl key rfl
  · simp only [c, if_false] at key
    have : labE m ⟨n, s, t, p, r⟩ = some (t20, t21, .int s) := by simp [labE, c]
    rw [this]
    exact fn_er rfl rfl key rfl
theorem intsOf_map {α : Type} (f : α → Int) : ∀ l : List α, intsOf (l.map fun x => Dv.int (f x)) = some (l.map f)
  | [] => rfl
  | a :: l => by simp only [List.map_cons, intsOf, intsOf_map f l]; rfl
theorem node_count_ok {K : List Kd} {L : List Lb} (h : K.length ≤ 1000) : F_node_count [.fz (scD K L)] = .ok (.fz (.int (K.map (·.2)).sum)) [] := by
  refine fn_rt rfl rfl ?_
  show RT (m_node_count [.fz (scD K L), .un, .un]) _ _
  have hm : mLc (mIt itT (mO2 oIx (mVar 0) (mC (.int 1)))) (gT [(gN 1), (gN 2)]) mYes (mVar 2) [1, 2] [.fz (scD K L), .un, .un] = .ok (.lst (K.map fun k => .int k.2)) [.fz (scD K L), .un, .un] :=
    mlc_mapA (h := kD) rfl rfl (by have := limv; omega) (fun d hd => ⟨_, _, rfl, rfl, rfl, rfl⟩) rfl
  simp [m_node_count, hm, oSum, intsOf_map (fun k : Kd => k.2) K]
/-! check_schema -/
def cE (K : List Kd) (L : List Lb) (ns : List (List Nat)) (x y z : Slt) : Loc := [.fz (scD K L), .fz (.tup (K.map kD)), .fz (.tup (L.map lD)), .ow none (.lst (ns.map .str)), x, y, z]
theorem app_str (ns : List (List Nat)) (s : List Nat) : ns.map Dv.str ++ [.str s] = (ns ++ [s]).map Dv.str := by simp
theorem call_new {e : Loc} {ns : List (List Nat)} {s : List Nat} {m : ME Dv} (he : e[3]? = some (.ow none (.lst (ns.map .str)))) (hm : m e = .ok (.str s) e) (h : tx s) :
    mCallD F_check_new_name [.own 3, .val m] e = match newNm ns s with | none => .ok .non e | some x => .er (erD x) e := by
  have hs : e.set 3 (.ow none (.lst (ns.map .str))) = e := by
    obtain ⟨h3, he⟩ := List.getElem?_eq_some_iff.mp he
    rw [← he]; exact List.set_getElem_self h3
  simp only [mCallD, mCall, mAs, he, isOw, if_true, hm, Rs.bind_ok, owns, List.nodup_cons, List.not_mem_nil, not_false_eq_true, List.nodup_nil, and_self, resolve, Option.map_some, new_name_ok h]
  cases newNm ns s with
  | none => simp [resF, wback, putO, he, hs]
  | some x => simp [resF, wback, putO, he, hs]
def kBody : MS := (sSeq (sDrop (mCallD F_check_new_name [.own 3, .val (mVar 4)]))
  (sSeq (sIf (mNot (mTest (mChain oLe oLe (mC (.int 0)) (mVar 5) (mC (.int 24)))))
  (sRaise t20 t21 (mVar 5))
  sNil)
  (sApp 3 (mVar 4))))
theorem kBody_ok {K : List Kd} {L : List Lb} {ns : List (List Nat)} {k : Kd} {z : Slt} (h : tx k.1) (hl : ns.length < 1000) :
    kBody (cE K L ns (.fz (.str k.1)) (.fz (.int k.2)) z) = match kindEr ns k with | none => .nx (cE K L (ns ++ [k.1]) (.fz (.str k.1)) (.fz (.int k.2)) z) | some x => .er (erD x) (cE K L ns (.fz (.str k.1)) (.fz (.int k.2)) z) := by
  have hc := call_new (e := cE K L ns (.fz (.str k.1)) (.fz (.int k.2)) z) (m := mVar 4) rfl rfl h
  have hli : lowD 60 (.int k.2) = true := low_int
  have hlm : ns.length < lim := by have := limv; omega
  unfold kBody kindEr
  rw [ev_seq]
  unfold sDrop
  rw [hc]
  cases newNm ns k.1 with
  | some x => simp
  | none =>
    unfold cE inB
    by_cases c1 : 0 ≤ k.2
    · by_cases c2 : k.2 ≤ 24
      · simp [oLe, c1, c2, hlm]
      · simp [oLe, c1, c2, hli, erD]
    · simp [oLe, c1, hli, erD]
theorem kLoop_ok {K0 : List Kd} {L : List Lb} {z : Slt} : ∀ {K : List Kd} {ns : List (List Nat)} {x y : Slt}, free (some x) = true → free (some y) = true → (∀ k ∈ K, tx k.1) → ns.length + K.length ≤ 1000 →
    ∃ x' y', match firstK ns K with
      | none => loop (gT [(gN 4), (gN 5)]) kBody (K.map kD) (cE K0 L ns x y z) = .nx (cE K0 L (ns ++ K.map (·.1)) x' y' z)
      | some er => ∃ ns', loop (gT [(gN 4), (gN 5)]) kBody (K.map kD) (cE K0 L ns x y z) = .er (erD er) (cE K0 L ns' x' y' z)
  | [], ns, x, y, _, _, _, _ => ⟨x, y, by simp [firstK, loop]⟩
  | k :: K, ns, x, y, hx, hy, ht, hl => by
    simp only [List.length_cons] at hl
    have hb := kBody_ok (K := K0) (L := L) (ns := ns) (k := k) (z := z) (ht k List.mem_cons_self) (by omega)
    have hg : gT [(gN 4), (gN 5)] (kD k) (cE K0 L ns x y z) = some (cE K0 L ns (.fz (.str k.1)) (.fz (.int k.2)) z) := by
      unfold kD cE; simp [hx, hy]
    simp only [firstK, List.map_cons, loop, hg, hb]
    cases kindEr ns k with
    | some er => exact ⟨_, _, ns, rfl⟩
    | none =>
      simp only [Option.none_or]
      obtain ⟨x', y', hh⟩ := kLoop_ok (K0 := K0) (L := L) (z := z) (K := K) (ns := ns ++ [k.1]) (x := .fz (.str k.1)) (y := .fz (.int k.2)) rfl rfl (fun k hk => ht k (List.mem_cons_of_mem _ hk)) (by simp; omega)
      refine ⟨x', y', ?_⟩
      cases hf : firstK (ns ++ [k.1]) K with
      | none => rw [hf] at hh; simpa using hh
      | some er => rw [hf] at hh; exact hh
def lBody : MS := (sSeq (sDrop (mCallD F_check_new_name [.own 3, .val (mO2 oIx (mVar 6) (mC (.int 0)))]))
  (sSeq (sDrop (mCallD F_check_label [.val (mVar 6), .val (mO1 oLen (mVar 1))]))
  (sApp 3 (mO2 oIx (mVar 6) (mC (.int 0))))))
theorem lBody_ok {K : List Kd} {L : List Lb} {ns : List (List Nat)} {l : Lb} {x y : Slt} (h : tx l.n) (hl : ns.length < 1000) :
    lBody (cE K L ns x y (.fz (lD l))) = match (newNm ns l.n).or (labE K.length l) with | none => .nx (cE K L (ns ++ [l.n]) x y (.fz (lD l))) | some er => .er (erD er) (cE K L ns x y (.fz (lD l))) := by
  have hc := call_new (e := cE K L ns x y (.fz (lD l))) (m := mO2 oIx (mVar 6) (mC (.int 0))) rfl rfl h
  have hlm : ns.length < lim := by have := limv; omega
  have hk := label_ok (l := l) (m := K.length) h
  unfold lBody
  rw [ev_seq]
  unfold sDrop
  rw [hc]
  cases newNm ns l.n with
  | some x => simp
  | none =>
    have hk' : mCallD F_check_label [.val (mVar 6), .val (mO1 oLen (mVar 1))] (cE K L ns x y (.fz (lD l))) = match labE K.length l with | none => .ok .non (cE K L ns x y (.fz (lD l))) | some er => .er (erD er) (cE K L ns x y (.fz (lD l))) := by
      unfold cE
      simp only [ev_callD, call_f2, ev_var, ev_O1, List.getElem?_cons_succ, List.getElem?_cons_zero, Rs.bind_ok, oLen, List.length_map, Rs.of_some, hk]
      cases labE K.length l <;> rfl
    simp only [Rs.go_ok, Sr.then_nx, ev_seq, hk', Option.none_or]
    cases labE K.length l with
    | some er => rfl
    | none =>
      unfold cE lD
      simp [oIx, getI0, hlm]
theorem lLoop_ok {K0 : List Kd} {L0 : List Lb} {x y : Slt} : ∀ {L : List Lb} {ns : List (List Nat)} {z : Slt}, free (some z) = true → (∀ l ∈ L, tx l.n) → ns.length + L.length ≤ 1000 →
    ∃ z', match firstL K0.length ns L with
      | none => ∃ ns', loop (gN 6) lBody (L.map lD) (cE K0 L0 ns x y z) = .nx (cE K0 L0 ns' x y z')
      | some er => ∃ ns', loop (gN 6) lBody (L.map lD) (cE K0 L0 ns x y z) = .er (erD er) (cE K0 L0 ns' x y z')
  | [], ns, z, _, _, _ => ⟨z, ns, rfl⟩
  | l :: L, ns, z, hz, ht, hl => by
    simp only [List.length_cons] at hl
    have hb := lBody_ok (K := K0) (L := L0) (ns := ns) (l := l) (x := x) (y := y) (ht l List.mem_cons_self) (by omega)
    have hg : gN 6 (lD l) (cE K0 L0 ns x y z) = some (cE K0 L0 ns x y (.fz (lD l))) := by
      unfold cE; simp [hz]
    simp only [firstL, List.map_cons, loop, hg, hb]
    cases (newNm ns l.n).or (labE K0.length l) with
    | some er => exact ⟨_, ns, rfl⟩
    | none =>
      simp only [Option.none_or]
      exact lLoop_ok (K0 := K0) (L0 := L0) (x := x) (y := y) (L := L) (ns := ns ++ [l.n]) (z := .fz (lD l)) rfl (fun k hk => ht k (List.mem_cons_of_mem _ hk)) (by simp; omega)
theorem check_ok {K : List Kd} {L : List Lb} (hK : ∀ k ∈ K, tx k.1) (hL : ∀ l ∈ L, tx l.n) (h1 : K.length ≤ 100) (h2 : L.length ≤ 100) : F_check_schema [.fz (scD K L)] = resF (chk K L) [] := by
  have lowk : lowD 60 (.str t16) = true := by decide
  have lowl : lowD 60 (.str t19) = true := by decide
  have lown : lowD 60 (.str t22) = true := by decide
  have key : match chk K L with
    | none => ∃ ns x y z, m_check_schema ([.fz (scD K L)] ++ List.replicate 6 .un) = .nx (cE K L ns x y z)
    | some er => ∃ a b c d f g, m_check_schema ([.fz (scD K L)] ++ List.replicate 6 .un) = .er (erD er) [.fz (scD K L), a, b, c, d, f, g] := by
    have st : m_check_schema ([.fz (scD K L)] ++ List.replicate 6 .un) = (if 6 < K.length then .er (t17, [.str t18, .str t16]) [.fz (scD K L), .fz (.tup (K.map kD)), .fz (.tup (L.map lD)), .un, .un, .un, .un] else
        if 12 < L.length then .er (t17, [.str t18, .str t19]) [.fz (scD K L), .fz (.tup (K.map kD)), .fz (.tup (L.map lD)), .un, .un, .un, .un] else
        (loop (gT [(gN 4), (gN 5)]) kBody (K.map kD) (cE K L [] .un .un .un)).then fun e => (sSeq (sFor (mIt itT (mVar 2)) (gN 6) lBody) (sIf (mTest (mO2 oGt (mCallD F_node_count [.val (mVar 0)]) (mC (.int 24)))) (sRaise t17 t18 (mC (.str t22))) sNil)) e) := by
      have e6 : ((6 : Int) < (K.length : Int)) = (6 < K.length) := by apply propext; omega
      have e12 : ((12 : Int) < (L.length : Int)) = (12 < L.length) := by apply propext; omega
      have i1 : oIx (scD K L) (.int 1) = some (.tup (K.map kD)) := rfl
      have i2 : oIx (scD K L) (.int 2) = some (.tup (L.map lD)) := rfl
      by_cases c1 : 6 < K.length
      · simp [m_check_schema, i1, i2, oGt, oLen, e6, c1, lowk]
      · by_cases c2 : 12 < L.length
        · simp [m_check_schema, i1, i2, oGt, oLen, e6, c1, e12, c2, lowl]
        · simp [m_check_schema, i1, i2, oGt, oLen, e6, c1, e12, c2, itT]
          rfl
    unfold chk
    by_cases c1 : 6 < K.length
    · simp only [c1, if_true] at st ⊢
      exact ⟨_, _, _, _, _, _, st⟩
    · by_cases c2 : 12 < L.length
      · simp only [c1, c2, if_true, if_false] at st ⊢
        exact ⟨_, _, _, _, _, _, st⟩
      · simp only [c1, c2, if_false] at st ⊢
        obtain ⟨x', y', hk⟩ := kLoop_ok (K0 := K) (L := L) (z := .un) (K := K) (ns := []) (x := .un) (y := .un) rfl rfl hK (by simp; omega)
        cases hf : firstK [] K with
        | some er =>
          rw [hf] at hk
          obtain ⟨ns', hk⟩ := hk
          rw [hk] at st
          exact ⟨_, _, _, _, _, _, st⟩
        | none =>
          rw [hf] at hk
          simp only [List.nil_append] at hk
          rw [hk] at st
          simp only [Option.none_or]
          obtain ⟨z', hl⟩ := lLoop_ok (K0 := K) (L0 := L) (x := x') (y := y') (L := L) (ns := K.map (·.1)) (z := .un) rfl hL (by simp; omega)
          have h2 : mIt itT (mVar 2) (cE K L (K.map (·.1)) x' y' .un) = .ok (L.map lD) (cE K L (K.map (·.1)) x' y' .un) := rfl
          simp only [Sr.then_nx, ev_seq, ev_for, h2, Rs.go_ok] at st
          cases hg : firstL K.length (K.map (·.1)) L with
          | some er =>
            rw [hg] at hl
            obtain ⟨ns', hl⟩ := hl
            rw [hl] at st
            exact ⟨_, _, _, _, _, _, st⟩
          | none =>
            rw [hg] at hl
            obtain ⟨ns', hl⟩ := hl
            rw [hl] at st
            simp only [Option.none_or]
            have hn := node_count_ok (K := K) (L := L) (by omega)
            by_cases c3 : 24 < (K.map (·.2)).sum
            · simp only [c3, if_true]
              refine ⟨.fz (.tup (K.map kD)), .fz (.tup (L.map lD)), .ow none (.lst (ns'.map .str)), x', y', z', st.trans ?_⟩
              unfold cE
              simp only [Sr.then_nx, ev_if, ev_test, ev_O2, ev_callD, call_f1, ev_var, List.getElem?_cons_zero, Rs.bind_ok, hn, ev_C, oGt, c3, decide_true, Rs.of_some, Rs.go_ok, if_true, ev_raise, lown]
              rfl
            · simp only [c3, if_false]
              refine ⟨ns', x', y', z', st.trans ?_⟩
              unfold cE
              simp only [Sr.then_nx, ev_if, ev_test, ev_O2, ev_callD, call_f1, ev_var, List.getElem?_cons_zero, Rs.bind_ok, hn, ev_C, oGt, c3, decide_false, Rs.of_some, Rs.go_ok, Bool.false_eq_true, if_false, ev_nil]
  cases hc : chk K L with
  | none =>
    rw [hc] at key
    obtain ⟨ns, x, y, z, key⟩ := key
    exact fn_nx rfl rfl key rfl
  | some er =>
    rw [hc] at key
    obtain ⟨a, b, c, d, f, g, key⟩ := key
    exact fn_er rfl rfl key rfl
end K01

set_option linter.all false
set_option maxRecDepth 10000
set_option maxHeartbeats 1000000
namespace K01
open Ml
def dueD (o : Option Er) : Dv := match o with
  | none => .non
  | some x => .tup [.str x.1, x.2.2]
theorem cut_pre {α : Type} {ds : List α} {k : Nat} (h : k ≤ ds.length) : cutN ds none (some (k : Int)) = ds.take k := by
  have hk : ¬ ((k : Int) < 0) := by omega
  simp [cutN, sIx, hk, Nat.min_eq_left h]
theorem due_kind_ok {K : List Kd} {k : Nat} (hk : k < K.length) (ht : tx K[k].1) (h1 : K.length ≤ 100) :
    F__law_due_kind [.fz (.lst (K.map kD)), .fz (.int k)] = .ok (.fz (dueD (kindEr ((K.take k).map (·.1)) K[k]))) [] := by
  refine fn_rt rfl rfl ?_
  show RT (m__law_due_kind [.fz (.lst (K.map kD)), .fz (.int k), .un, .un, .un]) _ _
  have i1 : oIx (.lst (K.map kD)) (.int k) = some (.tup [.str K[k].1, .int K[k].2]) := by
    simp only [oIx]; rw [getI_of (by simpa using hk)]; simp [kD]
  generalize hq : K[k] = q at *
  have hg := name_good_ok ht.1
  have hm : mLc (mIt itL (mFz (mSlN slL (mVar 0) none (some (mVar 1))))) (gN 4) mYes (mO2 oIx (mVar 4) (mC (.int 0))) [4] [.fz (.lst (K.map kD)), .fz (.int k), .fz (.str q.1), .fz (.int q.2), .un] =
      .ok (.lst ((K.take k).map fun k => Dv.str k.1)) [.fz (.lst (K.map kD)), .fz (.int k), .fz (.str q.1), .fz (.int q.2), .un] := by
    refine mlc_mapA (h := kD) (L := K.take k) ?_ rfl (by have := limv; simp; omega) (fun d hd => ⟨_, _, rfl, rfl, rfl, rfl⟩) rfl
    have : cutN (K.map kD) none (some (k : Int)) = (K.take k).map kD := by rw [cut_pre (by simp; omega), List.map_take]
    simp [slL, this, itL]
  have hin : oIn (.str q.1) (.lst ((K.take k).map fun k => Dv.str k.1)) = some (.bl (decide (q.1 ∈ (K.take k).map (·.1)))) := by
    have := oIn_strs (s := q.1) (l := (K.take k).map (·.1))
    rwa [List.map_map] at this
  generalize (K.take k).map (·.1) = ns at *
  unfold kindEr newNm inB
  unfold m__law_due_kind
  simp only [ev_seq, ev_set, ev_O2, ev_var, List.getElem?_cons_zero, List.getElem?_cons_succ, Rs.bind_ok, i1, Rs.of_some, Rs.go_ok, ev_gT, ev_gT1, ev_gT0, ev_gN, ev_free1, if_true, List.set_cons_succ, List.set_cons_zero, Option.bind_some, ev_nxO1, Sr.then_nx, ev_if, ev_not, ev_truth, ev_callD, call_f1, hg, truthD]
  by_cases c1 : isName q.1 = true
  · simp only [c1, Bool.not_true, Bool.false_eq_true, if_false, if_true, ev_nil, Sr.then_nx, ev_test, ev_O2, ev_var, List.getElem?_cons_zero, List.getElem?_cons_succ, Rs.bind_ok, ev_fz, hm, ev_toD, hin, Rs.of_some, Rs.go_ok, ev_if, ev_seq, ev_not, ev_chain, ev_C, oLe]
    by_cases c2 : q.1 ∈ ns
    · simp [c2, dueD]
    · by_cases c3 : 0 ≤ q.2
      · by_cases c4 : q.2 ≤ 24
        · simp [c2, oLe, c3, c4, dueD]
        · simp [c2, oLe, c3, c4, dueD]
      · simp [c2, oLe, c3, dueD]
  · simp [c1, dueD]
theorem due_label_ok {K : List Kd} {L : List Lb} {k : Nat} (hk : k < L.length) (ht : tx L[k].n) (h1 : K.length ≤ 100) (h2 : L.length ≤ 100) :
    F__law_due_label [.fz (.lst (K.map kD)), .fz (.lst (L.map lD)), .fz (.int k)] = .ok (.fz (dueD ((newNm (K.map (·.1) ++ (L.take k).map (·.n)) L[k].n).or (labE K.length L[k])))) [] := by
  refine fn_rt rfl rfl ?_
  show RT (m__law_due_label [.fz (.lst (K.map kD)), .fz (.lst (L.map lD)), .fz (.int k), .un, .un, .un, .un, .un, .un, .un]) _ _
  have i1 : oIx (.lst (L.map lD)) (.int k) = some (.tup [.str L[k].n, .int L[k].s, .int L[k].t, .int L[k].p, .str L[k].r]) := by
    simp only [oIx]; rw [getI_of (by simpa using hk)]; simp [lD]
  generalize hq : L[k] = q at *
  obtain ⟨n, s, t, p, r⟩ := q
  simp only at ht
  have hg := name_good_ok ht.1
  have hr := nrules (r := r)
  have hm1 : mLc (mIt itL (mVar 0)) (gN 9) mYes (mO2 oIx (mVar 9) (mC (.int 0))) [9] [.fz (.lst (K.map kD)), .fz (.lst (L.map lD)), .fz (.int k), .fz (.str n), .fz (.int s), .fz (.int t), .fz (.int p), .fz (.str r), .un, .un] =
      .ok (.lst (K.map fun k => Dv.str k.1)) [.fz (.lst (K.map kD)), .fz (.lst (L.map lD)), .fz (.int k), .fz (.str n), .fz (.int s), .fz (.int t), .fz (.int p), .fz (.str r), .un, .un] :=
    mlc_mapA (h := kD) (L := K) rfl rfl (by have := limv; omega) (fun d hd => ⟨_, _, rfl, rfl, rfl, rfl⟩) rfl
  have hm2 : mLc (mIt itL (mFz (mSlN slL (mVar 1) none (some (mVar 2))))) (gN 9) mYes (mO2 oIx (mVar 9) (mC (.int 0))) [9] [.fz (.lst (K.map kD)), .fz (.lst (L.map lD)), .fz (.int k), .fz (.str n), .fz (.int s), .fz (.int t), .fz (.int p), .fz (.str r), .un, .un] =
      .ok (.lst ((L.take k).map fun k => Dv.str k.n)) [.fz (.lst (K.map kD)), .fz (.lst (L.map lD)), .fz (.int k), .fz (.str n), .fz (.int s), .fz (.int t), .fz (.int p), .fz (.str r), .un, .un] := by
    refine mlc_mapA (h := lD) (L := L.take k) ?_ rfl (by have := limv; simp; omega) (fun d hd => ⟨_, _, rfl, rfl, rfl, rfl⟩) rfl
    have : cutN (L.map lD) none (some (k : Int)) = (L.take k).map lD := by rw [cut_pre (by simp; omega), List.map_take]
    simp [slL, this, itL]
  have hcat : oCat (.lst (K.map fun k => Dv.str k.1)) (.lst ((L.take k).map fun k => Dv.str k.n)) = some ((K.map (·.1) ++ (L.take k).map (·.n)).map .str) := by
    simp only [oCat]
    rw [if_pos (by have := limv; simp; omega), List.map_append, List.map_map, List.map_map]
    rfl
  have hin : oIn (.str n) (.lst ((K.map (·.1) ++ (L.take k).map (·.n)).map .str)) = some (.bl (decide (n ∈ K.map (·.1) ++ (L.take k).map (·.n)))) := oIn_strs
  generalize K.map (·.1) ++ (L.take k).map (·.n) = ns at *
  unfold newNm
  unfold m__law_due_label
  simp only [ev_seq, ev_set, ev_O2, ev_var, List.getElem?_cons_zero, List.getElem?_cons_succ, Rs.bind_ok, i1, Rs.of_some, Rs.go_ok, ev_gT, ev_gT1, ev_gT0, ev_gN, ev_free1, if_true, List.set_cons_succ, List.set_cons_zero, Option.bind_some, ev_nxO1, Sr.then_nx, ev_if, ev_not, ev_truth, ev_callD, call_f1, hg, truthD]
  by_cases c1 : isName n = true
  · simp only [c1, Bool.not_true, Bool.false_eq_true, if_false, if_true, ev_nil, Sr.then_nx, ev_test, ev_O2, ev_var, List.getElem?_cons_zero, List.getElem?_cons_succ, Rs.bind_ok, ev_fz, ev_N2, hm1, hm2, ev_toD, hcat, Option.map_some, Rs.of_some, hin, Rs.go_ok, ev_if, ev_seq, ev_not, ev_chain, ev_C, oLe]
    by_cases c2 : n ∈ ns
    · simp [c2, dueD]
    · simp only [c2, decide_false, Bool.false_eq_true, if_false, Sr.then_nx, Option.none_or]
      unfold labE inK inB
      by_cases c3 : 0 ≤ s
      · by_cases c4 : s < K.length
        · by_cases c5 : 0 ≤ t
          · by_cases c6 : t < K.length
            · by_cases c7 : 0 ≤ p
              · by_cases c8 : p ≤ 9
                · by_cases c9 : r ∈ rules
                  · by_cases c10 : r = t6
                    · subst c10
                      by_cases c11 : s = t
                      · subst c11; simp [itT, loop, oLe, oLt, oLen, c3, c4, c7, c8, hr, c9, oEq, oNe, eqS, dueD]
                      · simp [itT, loop, oLe, oLt, oLen, c3, c4, c5, c6, c7, c8, hr, c9, oEq, oNe, eqS, c11, dueD]
                    · simp [itT, loop, oLe, oLt, oLen, c3, c4, c5, c6, c7, c8, hr, c9, c10, oEq, oNe, eqS, dueD]
                  · simp [itT, loop, oLe, oLt, oLen, c3, c4, c5, c6, c7, c8, hr, c9, oEq, oNe, eqS, dueD]
                · simp [itT, loop, oLe, oLt, oLen, c3, c4, c5, c6, c7, c8, dueD]
              · simp [itT, loop, oLe, oLt, oLen, c3, c4, c5, c6, c7, dueD]
            · simp [itT, loop, oLe, oLt, oLen, c3, c4, c5, c6, dueD]
          · simp [itT, loop, oLe, oLt, oLen, c3, c4, c5, dueD]
        · simp [itT, loop, oLe, oLt, oLen, c3, c4, dueD]
      · simp [itT, loop, oLe, oLt, oLen, c3, dueD]
  · simp [c1, dueD]
/-- where a row of answers first says something -/
def fstOf {α : Type} (f : Nat → Option α) : Nat → Nat → Option α
  | _, 0 => none
  | k, n + 1 => (f k).or (fstOf f (k + 1) n)
theorem firstK_of (K : List Kd) : ∀ (R : List Kd) (k : Nat), R = K.drop k → k ≤ K.length → firstK ((K.take k).map (·.1)) R = fstOf (fun j => (K[j]?).bind fun x => kindEr ((K.take j).map (·.1)) x) k R.length
  | [], _, _, _ => rfl
  | x :: R, k, h, hk => by
    have hlt : k < K.length := by
      have := congrArg List.length h
      simp at this; omega
    have hx : K[k]? = some x := by
      rw [← List.head?_drop, ← h]; rfl
    have hR : R = K.drop (k + 1) := by
      rw [← List.drop_drop, ← h]; rfl
    have hT : (K.take (k + 1)).map (·.1) = (K.take k).map (·.1) ++ [x.1] := by
      rw [List.take_add_one, hx]; simp
    simp only [firstK, List.length_cons, fstOf, hx, Option.bind_some]
    rw [← hT, firstK_of K R (k + 1) hR hlt]
theorem firstL_of (m : Nat) (n0 : List (List Nat)) (K : List Lb) : ∀ (R : List Lb) (k : Nat), R = K.drop k → k ≤ K.length → firstL m (n0 ++ (K.take k).map (·.n)) R = fstOf (fun j => (K[j]?).bind fun x => (newNm (n0 ++ (K.take j).map (·.n)) x.n).or (labE m x)) k R.length
  | [], _, _, _ => rfl
  | x :: R, k, h, hk => by
    have hlt : k < K.length := by
      have := congrArg List.length h
      simp at this; omega
    have hx : K[k]? = some x := by
      rw [← List.head?_drop, ← h]; rfl
    have hR : R = K.drop (k + 1) := by
      rw [← List.drop_drop, ← h]; rfl
    have hT : n0 ++ (K.take (k + 1)).map (·.n) = n0 ++ (K.take k).map (·.n) ++ [x.n] := by
      rw [List.take_add_one, hx]; simp
    simp only [firstL, List.length_cons, fstOf, hx, Option.bind_some]
    rw [← hT, firstL_of m n0 K R (k + 1) hR hlt]
def rgD (k n : Nat) : List Dv := (List.range' k n).map fun (j : Nat) => Dv.int (j : Int)
theorem rgD_of (n : Nat) : ((List.range n).map fun (k : Nat) => Dv.int (k : Int)) = rgD 0 n := by unfold rgD; rw [List.range_eq_range']
/-- a loop over indices that stops where an answer says something -/
theorem loop_fst {E : Slt → Slt → Loc} {b : MS} {f : Nat → Option Er} {g : MG} (hg : ∀ d x y, free (some x) = true → g d (E x y) = some (E (.fz d) y)) (hb : ∀ (k : Nat) N, k < N → True) {N : Nat}
    (hs : ∀ (k : Nat) y, k < N → free (some y) = true → b (E (.fz (.int k)) y) = match f k with | none => .nx (E (.fz (.int k)) (.fz .non)) | some er => .rt (.fz (dueD (some er))) (E (.fz (.int k)) (.fz (dueD (some er))))) :
    ∀ (n k : Nat) {x y : Slt}, k + n ≤ N → free (some x) = true → free (some y) = true → ∃ x' y', free (some x') = true ∧ free (some y') = true ∧ loop g b (rgD k n) (E x y) = match fstOf f k n with | none => .nx (E x' y') | some er => .rt (.fz (dueD (some er))) (E x' y')
  | 0, k, x, y, _, hx, hy => ⟨x, y, hx, hy, rfl⟩
  | n + 1, k, x, y, hl, hx, hy => by
    have h1 := hs k y (by omega) hy
    have : rgD k (n + 1) = .int k :: rgD (k + 1) n := by simp [rgD, List.range'_succ]
    simp only [this, loop, hg _ _ _ hx, h1, fstOf]
    cases f k with
    | some er => exact ⟨_, _, rfl, rfl, rfl⟩
    | none => simpa using loop_fst hg hb hs n (k + 1) (by omega) rfl rfl
theorem due_ok {K : List Kd} {L : List Lb} (hK : ∀ k ∈ K, tx k.1) (hL : ∀ l ∈ L, tx l.n) (h1 : K.length ≤ 100) (h2 : L.length ≤ 100) :
    F__law_due [.fz (.lst (K.map kD)), .fz (.lst (L.map lD))] = .ok (.fz (dueD (chk K L))) [] := by
  refine fn_rt rfl rfl ?_
  show RT (m__law_due [.fz (.lst (K.map kD)), .fz (.lst (L.map lD)), .un, .un, .un]) _ _
  have e6 : ((6 : Int) < (K.length : Int)) = (6 < K.length) := by apply propext; omega
  have e12 : ((12 : Int) < (L.length : Int)) = (12 < L.length) := by apply propext; omega
  have rK : itR 0 (K.length : Int) = some (rgD 0 K.length) := by rw [itR_nat (by omega), rgD_of]
  have rL : itR 0 (L.length : Int) = some (rgD 0 L.length) := by rw [itR_nat (by omega), rgD_of]
  let E : Slt → Slt → Loc := fun x y => [.fz (.lst (K.map kD)), .fz (.lst (L.map lD)), x, y, .un]
  have noN : ∀ d, oNoN d .non = some (.bl (!isNon d)) := fun d => rfl
  obtain ⟨x', y', hx', hy', q1⟩ := loop_fst (E := E) (g := gN 2) (b := (sSeq (sSet (mCallD F__law_due_kind [.val (mVar 0), .val (mVar 2)]) (gN 3)) (sIf (mTest (mO2 oNoN (mVar 3) (mC .non))) (sRet (mVar 3)) sNil)))
    (f := fun j => (K[j]?).bind fun x => kindEr ((K.take j).map (·.1)) x) (N := K.length) (fun d x y hx => by simp [E, hx]) (fun _ _ _ => trivial)
    (fun k y hk hy => by
      have hd := due_kind_ok hk (hK _ (List.getElem_mem hk)) h1
      have hq : K[k]? = some K[k] := by simp [hk]
      simp only [hq, Option.bind_some]
      cases hc : kindEr ((K.take k).map (·.1)) K[k] with
      | none => rw [hc] at hd; simp [E, hd, hy, dueD, noN, isNon]
      | some er => rw [hc] at hd; simp [E, hd, hy, dueD, noN, isNon]) K.length 0 (x := .un) (y := .un) (by omega) rfl rfl
  rw [← firstK_of K K 0 rfl (by omega)] at q1
  obtain ⟨x2, y2, hx2, hy2, q2⟩ := loop_fst (E := E) (g := gN 2) (b := (sSeq (sSet (mCallD F__law_due_label [.val (mVar 0), .val (mVar 1), .val (mVar 2)]) (gN 3)) (sIf (mTest (mO2 oNoN (mVar 3) (mC .non))) (sRet (mVar 3)) sNil)))
    (f := fun j => (L[j]?).bind fun x => (newNm (K.map (·.1) ++ (L.take j).map (·.n)) x.n).or (labE K.length x)) (N := L.length) (fun d x y hx => by simp [E, hx]) (fun _ _ _ => trivial)
    (fun k y hk hy => by
      have hd := due_label_ok (K := K) hk (hL _ (List.getElem_mem hk)) h1 h2
      have hq : L[k]? = some L[k] := by simp [hk]
      simp only [hq, Option.bind_some]
      cases hc : (newNm (K.map (·.1) ++ (L.take k).map (·.n)) L[k].n).or (labE K.length L[k]) with
      | none => rw [hc] at hd; simp [E, hd, hy, dueD, noN, isNon]
      | some er => rw [hc] at hd; simp [E, hd, hy, dueD, noN, isNon]) L.length 0 (x := x') (y := y') (by omega) hx' hy'
  rw [← firstL_of K.length (K.map (·.1)) L L 0 rfl (by omega)] at q2
  simp only [List.take_zero, List.map_nil, List.append_nil] at q1 q2
  have hm : mLc (mIt itL (mVar 0)) (gN 4) mYes (mO2 oIx (mVar 4) (mC (.int 1))) [4] (E x2 y2) = .ok (.lst (K.map fun k => Dv.int k.2)) (E x2 y2) :=
    mlc_mapA (h := kD) (L := K) rfl rfl (by have := limv; omega) (fun d hd => ⟨_, _, rfl, rfl, rfl, rfl⟩) rfl
  have hi := intsOf_map (fun k : Kd => k.2) K
  unfold chk
  unfold m__law_due
  by_cases c1 : 6 < K.length
  · simp [oGt, oLen, e6, c1, dueD]
  · by_cases c2 : 12 < L.length
    · simp [oGt, oLen, e6, c1, e12, c2, dueD]
    · simp only [ev_seq, ev_if, ev_test, ev_O2, ev_O1, ev_var, List.getElem?_cons_zero, List.getElem?_cons_succ, Rs.bind_ok, oLen, List.length_map, Rs.of_some, ev_C, oGt, e6, c1, decide_false, Rs.go_ok, Bool.false_eq_true, if_false, ev_nil, Sr.then_nx, e12, c2, ev_for, ev_rg1, rK]
      rw [show ([.fz (.lst (K.map kD)), .fz (.lst (L.map lD)), .un, .un, .un] : Loc) = E .un .un from rfl, q1]
      cases hf : firstK [] K with
      | some er => simp [E]
      | none =>
        simp only [Sr.then_nx, Option.none_or, E, ev_seq, ev_for, ev_rg1, ev_O1, ev_var, List.getElem?_cons_zero, List.getElem?_cons_succ, Rs.bind_ok, oLen, List.length_map, Rs.of_some, rL, Rs.go_ok]
        rw [show ([.fz (.lst (K.map kD)), .fz (.lst (L.map lD)), x', y', .un] : Loc) = E x' y' from rfl, q2]
        cases hg : firstL K.length (K.map (·.1)) L with
        | some er => simp [E]
        | none =>
          simp only [Sr.then_nx, Option.none_or, ev_seq, ev_if, ev_test, ev_O2, ev_O1, ev_fz, hm, Rs.bind_ok, ev_toD, oSum, hi, Option.map_some, Rs.of_some]
          by_cases c3 : 24 < (K.map (·.2)).sum
          · simp [c3, E, dueD, oGt]
          · simp [c3, E, dueD, oGt]
/-! the caught error told -/
theorem class_1 (d : Dv) : F__law_class [.fz (.exc t23 t24 d)] = .ok (.ow none (.lst [.tup [.str t23, d]])) [] := by rfl
theorem class_2 (d : Dv) : F__law_class [.fz (.exc t25 t24 d)] = .ok (.ow none (.lst [.tup [.str t25, d]])) [] := by rfl
theorem class_3 (d : Dv) : F__law_class [.fz (.exc t20 t21 d)] = .ok (.ow none (.lst [.tup [.str t20, d]])) [] := by rfl
theorem class_4 (d : Dv) : F__law_class [.fz (.exc t26 t24 d)] = .ok (.ow none (.lst [.tup [.str t26, d]])) [] := by rfl
theorem class_5 (d : Dv) : F__law_class [.fz (.exc t17 t18 d)] = .ok (.ow none (.lst [.tup [.str t17, d]])) [] := by rfl
def okD (d : Dv) : Prop := (∃ s, tx s ∧ d = .str s) ∨ ∃ i, d = .int i
def okEr (x : Er) : Prop := (x.1 = t23 ∧ x.2.1 = t24 ∨ x.1 = t25 ∧ x.2.1 = t24 ∨ x.1 = t20 ∧ x.2.1 = t21 ∨ x.1 = t26 ∧ x.2.1 = t24 ∨ x.1 = t17 ∧ x.2.1 = t18) ∧ okD x.2.2
def okO (o : Option Er) : Prop := ∀ x, o = some x → okEr x
theorem okO_none : okO none := by intro x h; cases h
theorem okO_some {x : Er} (h : okEr x) : okO (some x) := by intro y e; cases e; exact h
theorem okO_or {a b : Option Er} (h1 : okO a) (h2 : okO b) : okO (a.or b) := by
  cases a with
  | none => simpa using h2
  | some x => exact okO_some (h1 x rfl)
theorem ok_new {ns : List (List Nat)} {s : List Nat} (h : tx s) : okO (newNm ns s) := by
  unfold newNm
  split
  · split
    · exact okO_some ⟨by simp, .inl ⟨s, h, rfl⟩⟩
    · exact okO_none
  · exact okO_some ⟨by simp, .inl ⟨s, h, rfl⟩⟩
theorem ok_num {i : Int} : okEr (t20, t21, .int i) := ⟨by simp, .inr ⟨i, rfl⟩⟩
theorem ok_kind {ns : List (List Nat)} {k : Kd} (h : tx k.1) : okO (kindEr ns k) := by
  refine okO_or (ok_new h) ?_
  split
  · exact okO_none
  · exact okO_some ok_num
theorem ok_lab {m : Nat} {l : Lb} (h : tx l.n) : okO (labE m l) := by
  unfold labE
  split
  · split
    · split
      · split
        · exact okO_some ⟨by simp, .inl ⟨_, h, rfl⟩⟩
        · exact okO_none
      · exact okO_some ok_num
    · exact okO_some ok_num
  · exact okO_some ok_num
theorem ok_firstK : ∀ {K : List Kd} {ns : List (List Nat)}, (∀ k ∈ K, tx k.1) → okO (firstK ns K)
  | [], _, _ => okO_none
  | k :: K, _, h => okO_or (ok_kind (h k List.mem_cons_self)) (ok_firstK fun x hx => h x (List.mem_cons_of_mem _ hx))
theorem ok_firstL {m : Nat} : ∀ {L : List Lb} {ns : List (List Nat)}, (∀ l ∈ L, tx l.n) → okO (firstL m ns L)
  | [], _, _ => okO_none
  | k :: K, _, h => okO_or (okO_or (ok_new (h k List.mem_cons_self)) (ok_lab (h k List.mem_cons_self))) (ok_firstL fun x hx => h x (List.mem_cons_of_mem _ hx))
theorem tx_of {s : List Nat} (h : (decide (s.length ≤ 1000) && s.all fun c => decide (c < 1114112)) = true) : tx s := by
  simpa [tx] using h
theorem ok_big {s : List Nat} (h : tx s) : okEr (t17, t18, .str s) := ⟨by simp, .inl ⟨s, h, rfl⟩⟩
theorem ok_chk {K : List Kd} {L : List Lb} (hK : ∀ k ∈ K, tx k.1) (hL : ∀ l ∈ L, tx l.n) : okO (chk K L) := by
  unfold chk
  split
  · exact okO_some (ok_big (tx_of (by decide)))
  · split
    · exact okO_some (ok_big (tx_of (by decide)))
    · refine okO_or (ok_firstK hK) (okO_or (ok_firstL hL) ?_)
      split
      · exact okO_some (ok_big (tx_of (by decide)))
      · exact okO_none
theorem low_ok {d : Dv} (h : okD d) (n : Nat) : lowD n d = true := by
  rcases h with ⟨s, h, rfl⟩ | ⟨i, rfl⟩
  · exact low_str h
  · exact low_int
theorem class_ok {x : Er} (h : okEr x) : F__law_class [.fz (.exc x.1 x.2.1 x.2.2)] = .ok (.ow none (.lst [.tup [.str x.1, x.2.2]])) [] ∧ lowD 59 (.str x.1) = true ∧ tab_AwayError.lookup x.1 = some true := by
  obtain ⟨c, f, d⟩ := x
  obtain ⟨h, _⟩ := h
  simp only at h ⊢
  rcases h with ⟨rfl, rfl⟩ | ⟨rfl, rfl⟩ | ⟨rfl, rfl⟩ | ⟨rfl, rfl⟩ | ⟨rfl, rfl⟩
  · exact ⟨class_1 d, by decide, by decide⟩
  · exact ⟨class_2 d, by decide, by decide⟩
  · exact ⟨class_3 d, by decide, by decide⟩
  · exact ⟨class_4 d, by decide, by decide⟩
  · exact ⟨class_5 d, by decide, by decide⟩
def dueL (o : Option Er) : List Dv := match o with
  | none => []
  | some x => [.tup [.str x.1, x.2.2]]
theorem checked_ok {K : List Kd} {L : List Lb} (hK : ∀ k ∈ K, tx k.1) (hL : ∀ l ∈ L, tx l.n) (h1 : K.length ≤ 100) (h2 : L.length ≤ 100) :
    F__law_checked [.fz (scD K L)] = .ok (.ow none (.lst (dueL (chk K L)))) [] := by
  refine fn_rt rfl rfl ?_
  show RT (m__law_checked [.fz (scD K L), .un]) _ _
  have hc := check_ok hK hL h1 h2
  have ho := ok_chk hK hL
  unfold m__law_checked
  rw [ev_seq]
  unfold sTryF
  cases hx : chk K L with
  | none =>
    rw [hx] at hc
    have : oNoN .non .non = some (.bl false) := rfl
    simp [hc, resF, this, dueL]
  | some er =>
    rw [hx] at hc
    obtain ⟨q1, q2, q3⟩ := class_ok (ho er hx)
    have q4 := low_ok (ho er hx).2 59
    have q5 : nxS (.ow none (.lst [.tup [.str er.1, er.2.2]])) = true := by
      simp only [nxS, lowDs, lowD, Bool.and_true, q4, Bool.and_eq_true, and_true] at q2 ⊢
      exact q2
    simp [hc, resF, erD, q3, q1, q5, dueL]
end K01

set_option linter.all false
set_option maxRecDepth 10000
set_option maxHeartbeats 1000000
namespace Ml
/-- two fors, the walked lists told as maps -/
theorem lc2_mapA {α β : Type} {g g1 : MG} {t t1 : ME Bool} {mi1 : ME (List Dv)} {m : ME Dv} {vs vs1 : List Nat} {h : α → Dv} {h' : β → Dv} {M : α → List β} {f : α → β → Dv} {e : Loc} {B : Nat} : ∀ {L : List α} {acc : List Dv}, acc.length + L.length * B ≤ lim →
    (∀ x ∈ L, (M x).length ≤ B ∧ ∃ e2, g (h x) e = some e2 ∧ t e2 = .ok true e2 ∧ mi1 e2 = .ok ((M x).map h') e2 ∧ wipeE (wipeE e2 vs1) vs = e ∧
      ∀ y ∈ M x, ∃ e3 e4, g1 (h' y) (wipeE e2 vs1) = some e3 ∧ t1 e3 = .ok true e3 ∧ m e3 = .ok (f x y) e4 ∧ wipeE e4 vs1 = wipeE e2 vs1) →
    lcGo2 g t mi1 g1 t1 m vs vs1 (L.map h) acc e = some (acc ++ L.flatMap fun x => (M x).map (f x), e)
  | [], acc, _, _ => by simp [lcGo2]
  | x :: L, acc, hl, hh => by
    obtain ⟨hB, e2, a1, a2, a3, a4, a5⟩ := hh x List.mem_cons_self
    simp only [List.length_cons, Nat.succ_mul] at hl
    simp only [List.map_cons, lcGo2, a1, a2, a3]
    rw [lc_mapA (f := f x) (by omega) a5]
    simp only [a4]
    rw [lc2_mapA (by simp; omega) fun d hd => hh d (List.mem_cons_of_mem _ hd)]
    simp
theorem mlc2_mapA {α β : Type} {mi : ME (List Dv)} {g g1 : MG} {t t1 : ME Bool} {mi1 : ME (List Dv)} {m : ME Dv} {vs vs1 : List Nat} {h : α → Dv} {h' : β → Dv} {M : α → List β} {f : α → β → Dv} {e e1 : Loc} {B : Nat} {L : List α}
    (hi : mi e = .ok (L.map h) e1) (hn : noOw e1 vs = true) (hl : L.length * B ≤ lim)
    (hh : ∀ x ∈ L, (M x).length ≤ B ∧ ∃ e2, g (h x) (wipeE e1 vs) = some e2 ∧ t e2 = .ok true e2 ∧ mi1 e2 = .ok ((M x).map h') e2 ∧ wipeE (wipeE e2 vs1) vs = wipeE e1 vs ∧
      ∀ y ∈ M x, ∃ e3 e4, g1 (h' y) (wipeE e2 vs1) = some e3 ∧ t1 e3 = .ok true e3 ∧ m e3 = .ok (f x y) e4 ∧ wipeE e4 vs1 = wipeE e2 vs1)
    (hb : backE e1 (wipeE e1 vs) vs = e1) : mLc2 mi g t mi1 g1 t1 m vs vs1 e = .ok (.lst (L.flatMap fun x => (M x).map (f x))) e1 := by
  unfold mLc2
  rw [hi]
  simp only [Rs.bind_ok, hn, if_true]
  rw [lc2_mapA (B := B) (by simpa using hl) hh]
  simp [hb]
end Ml
namespace K01
open Ml
/-! nodes -/
def pref (K : List Kd) (k : Nat) : Int := ((K.take k).map (·.2)).sum
def cnt (K : List Kd) (k : Nat) : Int := (K[k]?.map (·.2)).getD 0
def nds (K : List Kd) (k : Nat) : List Int := (List.range (cnt K k).toNat).map fun (j : Nat) => pref K k + (j : Int)
def vK (K : List Kd) : Prop := K.length ≤ 6 ∧ ∀ k ∈ K, 0 ≤ k.2 ∧ k.2 ≤ 24
theorem sum_b : ∀ {l : List Int}, (∀ x ∈ l, 0 ≤ x ∧ x ≤ 24) → 0 ≤ l.sum ∧ l.sum ≤ 24 * l.length
  | [], _ => by simp
  | a :: l, h => by
    have h1 := h a List.mem_cons_self
    have h2 := sum_b fun x hx => h x (List.mem_cons_of_mem _ hx)
    simp only [List.sum_cons, List.length_cons]
    omega
theorem pref_b {K : List Kd} (h : vK K) (k : Nat) : 0 ≤ pref K k ∧ pref K k ≤ 144 := by
  have := sum_b (l := (K.take k).map (·.2)) (fun x hx => by
    obtain ⟨y, hy, rfl⟩ := List.mem_map.mp hx
    exact h.2 y (List.mem_of_mem_take hy))
  have h1 := h.1
  simp only [List.length_map, List.length_take] at this
  unfold pref
  omega
theorem cnt_b {K : List Kd} (h : vK K) (k : Nat) : 0 ≤ cnt K k ∧ cnt K k ≤ 24 := by
  unfold cnt
  cases hk : K[k]? with
  | none => simp
  | some x => exact h.2 x (List.mem_of_getElem? hk)
theorem mem_nds {K : List Kd} (h : vK K) {k : Nat} {n : Int} : n ∈ nds K k ↔ pref K k ≤ n ∧ n < pref K k + cnt K k := by
  have := cnt_b h k
  unfold nds
  simp only [List.mem_map, List.mem_range]
  constructor
  · rintro ⟨j, hj, rfl⟩; omega
  · rintro ⟨h1, h2⟩; exact ⟨(n - pref K k).toNat, by omega, by omega⟩
theorem nds_len {K : List Kd} (h : vK K) (k : Nat) : (nds K k).length ≤ 24 := by
  have := cnt_b h k
  simp [nds]; omega
theorem nds_lt (K : List Kd) (k : Nat) : (nds K k).Pairwise (· < ·) := by
  unfold nds
  rw [List.pairwise_map]
  exact List.pairwise_lt_range.imp (by intro a b h; omega)
theorem sc_1 (K : List Kd) (L : List Lb) : oIx (scD K L) (.int 1) = some (.tup (K.map kD)) := rfl
theorem sc_2 (K : List Kd) (L : List Lb) : oIx (scD K L) (.int 2) = some (.tup (L.map lD)) := rfl
theorem ix_k {K : List Kd} {k : Nat} (h : k < K.length) : oIx (.tup (K.map kD)) (.int k) = some (.tup [.str K[k].1, .int (cnt K k)]) := by
  simp only [oIx]; rw [getI_of (by simpa using h)]; simp [kD, cnt, h]
theorem ix_l {L : List Lb} {k : Nat} (h : k < L.length) : oIx (.tup (L.map lD)) (.int k) = some (.tup [.str L[k].n, .int L[k].s, .int L[k].t, .int L[k].p, .str L[k].r]) := by
  simp only [oIx]; rw [getI_of (by simpa using h)]; simp [lD]
theorem sl_k {K : List Kd} {k : Nat} (h : k ≤ K.length) : slT (.tup (K.map kD)) none (some (k : Int)) = some (.tup ((K.take k).map kD)) := by
  simp only [slT]; rw [cut_pre (by simpa using h), List.map_take]
theorem first_ok {K : List Kd} {L : List Lb} {k : Nat} (h : k ≤ K.length) (hv : vK K) : F_first_node [.fz (scD K L), .fz (.int k)] = .ok (.fz (.int (pref K k))) [] := by
  refine fn_rt rfl rfl ?_
  show RT (m_first_node [.fz (scD K L), .fz (.int k), .un, .un]) _ _
  have hm : mLc (mIt itT (mSl slT (mO2 oIx (mVar 0) (mC (.int 1))) none (some (mVar 1)))) (gT [(gN 2), (gN 3)]) mYes (mVar 3) [2, 3] [.fz (scD K L), .fz (.int k), .un, .un] = .ok (.lst ((K.take k).map fun k => .int k.2)) [.fz (scD K L), .fz (.int k), .un, .un] :=
    mlc_mapA (h := kD) (by simp [sc_1, sl_k h, itT]) rfl (by have := limv; have := hv.1; simp; omega) (fun d hd => ⟨_, _, rfl, rfl, rfl, rfl⟩) rfl
  simp only [m_first_node, ev_ret, ev_O1, ev_fz, hm, Rs.bind_ok, ev_toD, oSum, intsOf_map (fun k : Kd => k.2), Option.map_some, Rs.of_some, Rs.go_ok]
  exact ⟨_, rfl, rfl⟩
theorem law_first_ok {K : List Kd} {L : List Lb} {k : Nat} (h : k ≤ K.length) (hv : vK K) : F__law_first [.fz (scD K L), .fz (.int k)] = .ok (.fz (.int (pref K k))) [] := by
  refine fn_rt rfl rfl ?_
  show RT (m__law_first [.fz (scD K L), .fz (.int k), .un]) _ _
  have hm : mLc (mIt itT (mSl slT (mO2 oIx (mVar 0) (mC (.int 1))) none (some (mVar 1)))) (gN 2) mYes (mO2 oIx (mVar 2) (mC (.int 1))) [2] [.fz (scD K L), .fz (.int k), .un] = .ok (.lst ((K.take k).map fun k => .int k.2)) [.fz (scD K L), .fz (.int k), .un] :=
    mlc_mapA (h := kD) (by simp [sc_1, sl_k h, itT]) rfl (by have := limv; have := hv.1; simp; omega) (fun d hd => ⟨_, _, rfl, rfl, rfl, rfl⟩) rfl
  simp only [m__law_first, ev_ret, ev_O1, ev_fz, hm, Rs.bind_ok, ev_toD, oSum, intsOf_map (fun k : Kd => k.2), Option.map_some, Rs.of_some, Rs.go_ok]
  exact ⟨_, rfl, rfl⟩
theorem nodes_of_ok {K : List Kd} {L : List Lb} {k : Nat} (h : k < K.length) (hv : vK K) : F_nodes_of [.fz (scD K L), .fz (.int k)] = .ok (.fz (.tup ((nds K k).map .int))) [] := by
  refine fn_rt rfl rfl ?_
  show RT (m_nodes_of [.fz (scD K L), .fz (.int k), .un]) _ _
  have hf := first_ok (L := L) (Nat.le_of_lt h) hv
  have hc := cnt_b hv k
  have hp := pref_b hv k
  have hr : itRs (pref K k) (pref K k + cnt K k) = some ((nds K k).map .int) := by
    have := limv
    unfold itRs
    rw [if_pos (by omega)]
    unfold nds
    rw [List.map_map, show pref K k + cnt K k - pref K k = cnt K k by omega]
    rfl
  have g1 : oIx (.tup [.str K[k].1, .int (cnt K k)]) (.int 1) = some (.int (cnt K k)) := rfl
  simp [m_nodes_of, hf, sc_1, ix_k h, g1, oAdd, hr]
theorem law_nodes_ok {K : List Kd} {L : List Lb} {k : Nat} (h : k < K.length) (hv : vK K) : F__law_nodes [.fz (scD K L), .fz (.int k)] = .ok (.ow none (.lst ((nds K k).map .int))) [] := by
  refine fn_rt rfl rfl ?_
  show RT (m__law_nodes [.fz (scD K L), .fz (.int k), .un, .un]) _ _
  have hf := law_first_ok (L := L) (Nat.le_of_lt h) hv
  have hc := cnt_b hv k
  have g1 : oIx (.tup [.str K[k].1, .int (cnt K k)]) (.int 1) = some (.int (cnt K k)) := rfl
  have hr : itR 0 (cnt K k) = some ((List.range (cnt K k).toNat).map fun (j : Nat) => Dv.int (j : Int)) := by
    have := itR_nat (n := (cnt K k).toNat) (by omega)
    rwa [Int.toNat_of_nonneg hc.1] at this
  have hm : mLc (mRg1 (mO2 oIx (mO2 oIx (mO2 oIx (mVar 0) (mC (.int 1))) (mVar 1)) (mC (.int 1)))) (gN 3) mYes (mO2 oAdd (mVar 2) (mVar 3)) [3] [.fz (scD K L), .fz (.int k), .fz (.int (pref K k)), .un] = .ok (.lst ((List.range (cnt K k).toNat).map fun (j : Nat) => .int (pref K k + (j : Int)))) [.fz (scD K L), .fz (.int k), .fz (.int (pref K k)), .un] :=
    mlc_mapA (h := fun (j : Nat) => Dv.int (j : Int)) (by simp [sc_1, ix_k h, g1, hr]) rfl (by have := limv; simp; omega) (fun d hd => ⟨_, _, rfl, rfl, rfl, rfl⟩) rfl
  simp [m__law_nodes, hf, hm, nds]
/-! kind_of -/
def kof (acc : Int) (k : Nat) : List Kd → Int → Option Nat
  | [], _ => none
  | c :: r, n => if n < acc + c.2 then some k else kof (acc + c.2) (k + 1) r n
theorem kof_ge : ∀ {K : List Kd} {acc : Int} {k : Nat} {n : Int} {j : Nat}, kof acc k K n = some j → k ≤ j
  | [], _, _, _, _, h => by simp [kof] at h
  | c :: r, acc, k, n, j, h => by
    unfold kof at h
    split at h
    · cases h; omega
    · have := kof_ge h; omega
theorem pref_cons (c : Kd) (r : List Kd) (i : Nat) : pref (c :: r) (i + 1) = c.2 + pref r i := by simp [pref]
theorem cnt_cons (c : Kd) (r : List Kd) (i : Nat) : cnt (c :: r) (i + 1) = cnt r i := by simp [cnt]
theorem pref_nn {K : List Kd} (h : ∀ k ∈ K, 0 ≤ k.2) (i : Nat) : 0 ≤ pref K i := by
  induction K generalizing i with
  | nil => simp [pref]
  | cons c r ih =>
    cases i with
    | zero => simp [pref]
    | succ i =>
      rw [pref_cons]
      have := ih (fun k hk => h k (List.mem_cons_of_mem _ hk)) i
      have := h c List.mem_cons_self
      omega
theorem kof_iff : ∀ {K : List Kd} {acc : Int} {k : Nat} {n : Int} {i : Nat}, (∀ k ∈ K, 0 ≤ k.2) → acc ≤ n → (kof acc k K n = some (k + i) ↔ acc + pref K i ≤ n ∧ n < acc + pref K i + cnt K i)
  | [], acc, k, n, i, _, _ => by simp [kof, pref, cnt]; try omega
  | c :: r, acc, k, n, i, h, hn => by
    have hc := h c List.mem_cons_self
    have hr : ∀ k ∈ r, 0 ≤ k.2 := fun k hk => h k (List.mem_cons_of_mem _ hk)
    cases i with
    | zero =>
      have p0 : pref (c :: r) 0 = 0 := by simp [pref]
      have c0 : cnt (c :: r) 0 = c.2 := by simp [cnt]
      rw [p0, c0]
      unfold kof
      split
      · simp; omega
      · constructor
        · intro hh; have := kof_ge hh; omega
        · intro hh; omega
    | succ i =>
      rw [pref_cons, cnt_cons]
      have hp := pref_nn hr i
      unfold kof
      split
      · constructor
        · intro hh; simp at hh
        · intro hh; omega
      · have := kof_iff (K := r) (acc := acc + c.2) (k := k + 1) (n := n) (i := i) hr (by omega)
        rw [show k + (i + 1) = k + 1 + i by omega, this]
        constructor <;> intro hh <;> omega
def ko (K : List Kd) (n : Int) : Option Nat := if n < 0 then none else kof 0 0 K n
theorem ko_iff {K : List Kd} (h : vK K) {n : Int} {i : Nat} : ko K n = some i ↔ n ∈ nds K i := by
  rw [mem_nds h]
  unfold ko
  have hp := pref_b h i
  split
  · constructor
    · intro hh; cases hh
    · intro hh; omega
  · have := kof_iff (K := K) (acc := 0) (k := 0) (n := n) (i := i) (fun k hk => (h.2 k hk).1) (by omega)
    simp only [Nat.zero_add, Int.zero_add] at this
    exact this
def kiD (o : Option Nat) : Dv := match o with
  | none => .non
  | some k => .int k
theorem kind_lp {d : Dv} {n : Int} : ∀ {K : List Kd} {acc : Int} {k : Nat} {x y z : Slt}, free (some x) = true → free (some y) = true → free (some z) = true →
    ∃ a x' y' z', loop (gT [(gN 3), (gT [(gN 4), (gN 5)])]) (sSeq (sAug 2 oAddI (mVar 5)) (sIf (mTest (mO2 oLt (mVar 1) (mVar 2))) (sRet (mVar 3)) sNil)) (enumD k (K.map kD)) [.fz d, .fz (.int n), .fz (.int acc), x, y, z] = match kof acc k K n with | none => .nx [.fz d, .fz (.int n), a, x', y', z'] | some j => .rt (.fz (.int j)) [.fz d, .fz (.int n), a, x', y', z']
  | [], acc, k, x, y, z, _, _, _ => ⟨_, _, _, _, rfl⟩
  | c :: r, acc, k, x, y, z, hx, hy, hz => by
    simp only [List.map_cons, enumD, loop, kof]
    by_cases hc : n < acc + c.2
    · refine ⟨.fz (.int (acc + c.2)), .fz (.int k), .fz (.str c.1), .fz (.int c.2), ?_⟩
      simp [kD, hx, hy, hz, sAug, oAddI, oLt, hc]
    · obtain ⟨a, x', y', z', q⟩ := kind_lp (d := d) (n := n) (K := r) (acc := acc + c.2) (k := k + 1) (x := .fz (.int k)) (y := .fz (.str c.1)) (z := .fz (.int c.2)) rfl rfl rfl
      refine ⟨a, x', y', z', ?_⟩
      rw [if_neg hc, ← q]
      simp [kD, hx, hy, hz, sAug, oAddI, oLt, hc]
theorem kind_ok {K : List Kd} {L : List Lb} {n : Int} : F_kind_of [.fz (scD K L), .fz (.int n)] = .ok (.fz (kiD (ko K n))) [] := by
  refine fn_rt rfl rfl ?_
  show RT (m_kind_of [.fz (scD K L), .fz (.int n), .un, .un, .un, .un]) _ _
  obtain ⟨a, x', y', z', q⟩ := kind_lp (d := scD K L) (n := n) (K := K) (acc := 0) (k := 0) (x := .un) (y := .un) (z := .un) rfl rfl rfl
  unfold ko m_kind_of
  by_cases hn : n < 0
  · simp [oLt, hn, kiD]
  · simp only [ev_seq, ev_if, ev_test, ev_O2, ev_var, List.getElem?_cons_zero, List.getElem?_cons_succ, Rs.bind_ok, ev_C, oLt, Rs.of_some, hn, decide_false, Rs.go_ok, Bool.false_eq_true, if_false, ev_nil, Sr.then_nx, ev_set, ev_gN, ev_free1, if_true, List.set_cons_succ, List.set_cons_zero, ev_nxO1, ev_for, ev_itE, sc_1, itT, Option.map_some, q]
    cases kof 0 0 K n with
    | none => simp [kiD]
    | some j => simp [kiD]
theorem lk_ok {K : List Kd} {L : List Lb} {j : Nat} (h : j < L.length) : F_label_kinds [.fz (scD K L), .fz (.int j)] = .ok (.fz (.tup [.int L[j].s, .int L[j].t])) [] := by
  refine fn_rt rfl rfl ?_
  show RT (m_label_kinds [.fz (scD K L), .fz (.int j)]) _ _
  have : ∀ a b c d e : Dv, slT (.tup [a, b, c, d, e]) (some 1) (some 3) = some (.tup [b, c]) := fun _ _ _ _ _ => rfl
  simp [m_label_kinds, sc_2, ix_l h, this]
theorem mark_ok {K : List Kd} {L : List Lb} {j : Nat} (h : j < L.length) : F_is_mark [.fz (scD K L), .fz (.int j)] = .ok (.fz (.bl (decide (L[j].r = t6)))) [] := by
  refine fn_rt rfl rfl ?_
  show RT (m_is_mark [.fz (scD K L), .fz (.int j)]) _ _
  have : ∀ a b c d e : Dv, oIx (.tup [a, b, c, d, e]) (.int 4) = some e := fun _ _ _ _ _ => rfl
  simp [m_is_mark, sc_2, ix_l h, this, oEq, eqS]
end K01

set_option linter.all false
set_option maxRecDepth 10000
set_option maxHeartbeats 1000000
namespace K01
open Ml
def vL (m : Nat) (l : Lb) : Prop := (0 ≤ l.s ∧ l.s < m) ∧ (0 ≤ l.t ∧ l.t < m) ∧ (l.r = t6 → l.s = l.t)
def tr (j : Nat) (p : Int × Int) : Dv := .tup [.int p.1, .int j, .int p.2]
def okE (l : Lb) (a b : Int) : Bool := !decide (l.r = t6) || decide (a = b)
theorem beqI (a b : Int) : (a == b) = decide (a = b) := rfl
def letT (K : List Kd) (l : Lb) : List (Int × Int) := (nds K l.s.toNat).flatMap fun a => ((nds K l.t.toNat).filter (okE l a)).map fun b => (a, b)
theorem filt_one {a : Int} : ∀ {l : List Int}, l.Pairwise (· < ·) → a ∈ l → (l.filter fun b => decide (a = b)) = [a]
  | [], _, h => by cases h
  | c :: l, hp, h => by
    rw [List.pairwise_cons] at hp
    by_cases hc : a = c
    · subst hc
      have : (l.filter fun b => decide (a = b)) = [] := by
        rw [List.filter_eq_nil_iff]
        intro b hb
        have := hp.1 b hb
        simp; omega
      simp [this]
    · have hm : a ∈ l := by
        rcases List.mem_cons.mp h with h | h
        · exact absurd h hc
        · exact h
      rw [List.filter_cons]
      simp [hc, filt_one hp.2 hm]
theorem flat_congr {α β : Type} {f g : α → List β} : ∀ {l : List α}, (∀ x ∈ l, f x = g x) → l.flatMap f = l.flatMap g
  | [], _ => rfl
  | a :: l, h => by
    rw [List.flatMap_cons, List.flatMap_cons, h a List.mem_cons_self, flat_congr fun x hx => h x (List.mem_cons_of_mem _ hx)]
theorem flat_one {α β : Type} {f : α → β} : ∀ {l : List α}, (l.flatMap fun x => [f x]) = l.map f
  | [] => rfl
  | a :: l => by rw [List.flatMap_cons, flat_one]; rfl
theorem letT_mark {K : List Kd} {l : Lb} (h : l.r = t6) (hs : l.s = l.t) : letT K l = (nds K l.s.toNat).map fun a => (a, a) := by
  unfold letT
  rw [← flat_one]
  refine flat_congr fun a ha => ?_
  rw [← hs]
  have : okE l a = fun b => decide (a = b) := by funext b; simp [okE, h]
  rw [this, filt_one (nds_lt K _) ha]
  rfl
theorem letT_plain {K : List Kd} {l : Lb} (h : l.r ≠ t6) : letT K l = (nds K l.s.toNat).flatMap fun a => (nds K l.t.toNat).map fun b => (a, b) := by
  unfold letT
  refine flat_congr fun a ha => ?_
  rw [List.filter_eq_self.mpr (fun b _ => by simp [okE, h])]
theorem mem_letT {K : List Kd} {l : Lb} {a b : Int} : (a, b) ∈ letT K l ↔ a ∈ nds K l.s.toNat ∧ b ∈ nds K l.t.toNat ∧ (l.r ≠ t6 ∨ a = b) := by
  unfold letT
  simp only [List.mem_flatMap, List.mem_map, List.mem_filter, Prod.mk.injEq]
  constructor
  · rintro ⟨a', h1, b', ⟨h2, h3⟩, rfl, rfl⟩
    exact ⟨h1, h2, by simpa [okE] using h3⟩
  · rintro ⟨h1, h2, h3⟩
    exact ⟨a, h1, b, ⟨h2, by simpa [okE] using h3⟩, rfl, rfl⟩
theorem letT_lt (K : List Kd) (l : Lb) : (letT K l).Pairwise fun p q => p.1 < q.1 ∨ p.1 = q.1 ∧ p.2 < q.2 := by
  unfold letT
  rw [List.pairwise_flatMap]
  constructor
  · intro a ha
    rw [List.pairwise_map]
    exact ((nds_lt K _).filter _).imp fun h => .inr ⟨rfl, h⟩
  · refine (nds_lt K _).imp ?_
    intro a b hab p hp q hq
    obtain ⟨x, _, rfl⟩ := List.mem_map.mp hp
    obtain ⟨y, _, rfl⟩ := List.mem_map.mp hq
    exact .inl hab
/-! sorted already -/
theorem srtD_id : ∀ {l : List (List Int × Dv)}, l.Pairwise (fun p q => ltI q.1 p.1 = false) → srtD l = l
  | [], _ => rfl
  | x :: l, h => by
    rw [List.pairwise_cons] at h
    rw [srtD, srtD_id h.2]
    cases l with
    | nil => rfl
    | cons y r =>
      have := h.1 y List.mem_cons_self
      simp [insD, this]
theorem tupsI_tr (j : Nat) : ∀ l : List (Int × Int), tupsI (l.map (tr j)) = some (l.map fun p => ([p.1, (j : Int), p.2], tr j p))
  | [] => rfl
  | p :: l => by
    have : tupI (tr j p) = some [p.1, (j : Int), p.2] := rfl
    simp only [List.map_cons, tupsI, this, tupsI_tr j l]
theorem sort_tr {j : Nat} {l : List (Int × Int)} (h : l.Pairwise fun p q => p.1 < q.1 ∨ p.1 = q.1 ∧ p.2 < q.2) : oSortT (.lst (l.map (tr j))) = some (l.map (tr j)) := by
  simp only [oSortT, tupsI_tr, Option.map_some]
  rw [srtD_id]
  · simp
  · rw [List.pairwise_map]
    refine h.imp ?_
    intro p q h
    rcases h with h | ⟨h1, h2⟩
    · have e1 : ¬ q.1 = p.1 := by omega
      have e2 : ¬ q.1 < p.1 := by omega
      simp [ltI, e1, e2]
    · have e1 : q.1 = p.1 := h1.symm
      have e2 : ¬ q.2 = p.2 := by omega
      have e3 : ¬ q.2 < p.2 := by omega
      simp [ltI, e1, e2, e3]
theorem low_tr {n j : Nat} (p : Int × Int) : lowD (n + 1) (tr j p) = true := by simp [tr, lowD, lowDs]
theorem lows_tr {n j : Nat} : ∀ l : List (Int × Int), lowDs (n + 1) (l.map (tr j)) = true
  | [] => by simp [lowDs]
  | p :: l => by simp [lowDs, low_tr, lows_tr l]
theorem eqD_tr {j : Nat} (p q : Int × Int) : eqD (tr j p) (tr j q) = decide (p = q) := by
  obtain ⟨a, b⟩ := p; obtain ⟨c, d⟩ := q
  simp [tr, eqD, eqDs, eqF, beqI]
theorem eqDs_tr {j : Nat} : ∀ l : List (Int × Int), eqDs (l.map (tr j)) (l.map (tr j)) = true
  | [] => by simp [eqDs]
  | p :: l => by simp [eqDs, eqD_tr, eqDs_tr l]
theorem len_letT {K : List Kd} (hv : vK K) (l : Lb) : (letT K l).length ≤ 576 := by
  unfold letT
  rw [List.length_flatMap]
  have h1 := nds_len hv l.s.toNat
  generalize nds K l.s.toNat = S at *
  have : ∀ S : List Int, ((S.map fun a => (((nds K l.t.toNat).filter (okE l a)).map fun b => (a, b)).length).sum) ≤ 24 * S.length := by
    intro S
    induction S with
    | nil => simp
    | cons a S ih =>
      have h2 := nds_len hv l.t.toNat
      have h3 : (((nds K l.t.toNat).filter (okE l a)).map fun b => (a, b)).length ≤ 24 := by
        rw [List.length_map]
        exact Nat.le_trans (List.length_filter_le _ _) h2
      simp only [List.map_cons, List.sum_cons, List.length_cons]
      omega
  have := this S
  omega
/-! the edges a label lets -/
theorem edges_ok {K : List Kd} {L : List Lb} {j : Nat} (h : j < L.length) (hv : vK K) (hl : vL K.length L[j]) : F_edges_let [.fz (scD K L), .fz (.int j)] = .ok (.fz (.tup ((letT K L[j]).map (tr j)))) [] := by
  refine fn_rt rfl rfl ?_
  show RT (m_edges_let [.fz (scD K L), .fz (.int j), .un, .un, .un, .un, .un, .un]) _ _
  have h1 := lk_ok (K := K) h
  have h2 := mark_ok (K := K) h
  obtain ⟨⟨s1, s2⟩, ⟨u1, u2⟩, hm⟩ := hl
  generalize L[j] = l at *
  have ns := nodes_of_ok (L := L) (k := l.s.toNat) (by omega) hv
  have nt := nodes_of_ok (L := L) (k := l.t.toNat) (by omega) hv
  have ls := nds_len hv l.s.toNat
  have lt := nds_len hv l.t.toNat
  rw [Int.toNat_of_nonneg s1] at ns
  rw [Int.toNat_of_nonneg u1] at nt
  have hlim := limv
  unfold m_edges_let
  simp only [ev_seq, ev_set, ev_callD, call_f2, ev_var, List.getElem?_cons_zero, List.getElem?_cons_succ, Rs.bind_ok, h1, h2, Rs.go_ok, ev_gT, ev_gT1, ev_gT0, ev_gN, ev_free1, if_true, List.set_cons_succ, List.set_cons_zero, Option.bind_some, ev_nxO1, Sr.then_nx, ev_if, ev_truth, truthD, Rs.of_some]
  by_cases c : l.r = t6
  · have hst := hm c
    simp only [c, decide_true, if_true]
    have hmm : mLc (mIt itT (mCallD F_nodes_of [.val (mVar 0), .val (mVar 2)])) (gN 5) mYes (mTup [(mVar 5), (mVar 1), (mVar 5)]) [5] [.fz (scD K L), .fz (.int j), .fz (.int l.s), .fz (.int l.t), .un, .un, .un, .un] =
        .ok (.lst ((nds K l.s.toNat).map fun a => tr j (a, a))) [.fz (scD K L), .fz (.int j), .fz (.int l.s), .fz (.int l.t), .un, .un, .un, .un] :=
      mlc_mapA (h := Dv.int) (by simp [ns, itT]) rfl (by omega) (fun d hd => ⟨_, _, rfl, rfl, rfl, rfl⟩) rfl
    rw [letT_mark c hst, List.map_map]
    simp only [ev_ret, ev_O1, ev_fz, hmm, Rs.bind_ok, ev_toD, oTup, Rs.of_some, Rs.go_ok, Sr.then_rt]
    exact ⟨_, rfl, rfl⟩
  · simp only [c, decide_false, Bool.false_eq_true, if_false, ev_nil, Sr.then_nx, ev_seq, ev_set, ev_callD, call_f2, ev_var, List.getElem?_cons_zero, List.getElem?_cons_succ, Rs.bind_ok, nt, Rs.go_ok, ev_gN, ev_free1, if_true, List.set_cons_succ, List.set_cons_zero, ev_nxO1]
    have hmm : mLc2 (mIt itT (mCallD F_nodes_of [.val (mVar 0), .val (mVar 2)])) (gN 6) mYes (mIt itT (mVar 4)) (gN 7) mYes (mTup [(mVar 6), (mVar 1), (mVar 7)]) [6, 7] [7] [.fz (scD K L), .fz (.int j), .fz (.int l.s), .fz (.int l.t), .fz (.tup ((nds K l.t.toNat).map .int)), .un, .un, .un] =
        .ok (.lst ((nds K l.s.toNat).flatMap fun a => (nds K l.t.toNat).map fun b => tr j (a, b))) [.fz (scD K L), .fz (.int j), .fz (.int l.s), .fz (.int l.t), .fz (.tup ((nds K l.t.toNat).map .int)), .un, .un, .un] :=
      mlc2_mapA (h := Dv.int) (h' := Dv.int) (M := fun _ => nds K l.t.toNat) (f := fun a b => tr j (a, b)) (B := 24) (by simp [ns, itT]) rfl (by omega)
        (fun a ha => ⟨lt, _, rfl, rfl, rfl, rfl, fun b hb => ⟨_, _, rfl, rfl, rfl, rfl⟩⟩) rfl
    have : (letT K l).map (tr j) = (nds K l.s.toNat).flatMap fun a => (nds K l.t.toNat).map fun b => tr j (a, b) := by
      rw [letT_plain c, List.map_flatMap]
      refine flat_congr fun a ha => ?_
      rw [List.map_map]; rfl
    rw [this]
    simp only [ev_ret, ev_O1, ev_fz, hmm, Rs.bind_ok, ev_toD, oTup, Rs.of_some, Rs.go_ok]
    exact ⟨_, rfl, rfl⟩
theorem let_in {K : List Kd} {L : List Lb} {j : Nat} {l : Lb} {a : Int} : ∀ {T : List Int} {acc : List Dv} {x : Slt}, free (some x) = true → acc.length + T.length ≤ 1000 →
    ∃ x', free (some x') = true ∧ loop (gN 5) (sIf (mOr (mTest (mO2 oNe (mO2 oIx (mVar 2) (mC (.int 4))) (mC (.str t6)))) (mTest (mO2 oEq (mVar 4) (mVar 5)))) (sApp 3 (mTup [(mVar 4), (mVar 1), (mVar 5)])) sNil) (T.map .int) [.fz (scD K L), .fz (.int j), .fz (lD l), .ow none (.lst acc), .fz (.int a), x] =
      .nx [.fz (scD K L), .fz (.int j), .fz (lD l), .ow none (.lst (acc ++ ((T.filter (okE l a)).map fun b => tr j (a, b)))), .fz (.int a), x']
  | [], acc, x, hx, _ => ⟨x, hx, by simp [loop]⟩
  | b :: T, acc, x, hx, hl => by
    simp only [List.length_cons] at hl
    have hlt : acc.length < lim := by have := limv; omega
    have g4 : oIx (lD l) (.int 4) = some (.str l.r) := rfl
    have hb : gN 5 (.int b) [.fz (scD K L), .fz (.int j), .fz (lD l), .ow none (.lst acc), .fz (.int a), x] = some [.fz (scD K L), .fz (.int j), .fz (lD l), .ow none (.lst acc), .fz (.int a), .fz (.int b)] := by simp [hx]
    simp only [List.map_cons, loop, hb]
    by_cases c : okE l a b = true
    · obtain ⟨x', hx', q⟩ := let_in (K := K) (L := L) (j := j) (l := l) (a := a) (T := T) (acc := acc ++ [tr j (a, b)]) (x := .fz (.int b)) rfl (by simp; omega)
      refine ⟨x', hx', ?_⟩
      rw [List.filter_cons_of_pos c, List.map_cons, List.append_cons, ← q]
      by_cases c1 : l.r = t6
      · have c2 : a = b := by simpa [okE, c1] using c
        simp [g4, oNe, eqS, c1, oEq, c2, hlt, tr]
      · simp [g4, oNe, eqS, c1, hlt, tr]
    · obtain ⟨x', hx', q⟩ := let_in (K := K) (L := L) (j := j) (l := l) (a := a) (T := T) (acc := acc) (x := .fz (.int b)) rfl (by omega)
      refine ⟨x', hx', ?_⟩
      rw [List.filter_cons_of_neg c, ← q]
      have c' : l.r = t6 ∧ ¬ a = b := by simpa [okE] using c
      simp [g4, oNe, eqS, c'.1, oEq, c'.2]
theorem let_out {K : List Kd} {L : List Lb} {j : Nat} {l : Lb} (hv : vK K) (hl : vL K.length l) : ∀ {S : List Int} {acc : List Dv} {x y : Slt}, free (some x) = true → free (some y) = true → acc.length + S.length * 24 ≤ 1000 →
    ∃ x' y', loop (gN 4) (sFor (mIt itL (mFz (mCallO F__law_nodes [.val (mVar 0), .val (mO2 oIx (mVar 2) (mC (.int 2)))]))) (gN 5) (sIf (mOr (mTest (mO2 oNe (mO2 oIx (mVar 2) (mC (.int 4))) (mC (.str t6)))) (mTest (mO2 oEq (mVar 4) (mVar 5)))) (sApp 3 (mTup [(mVar 4), (mVar 1), (mVar 5)])) sNil)) (S.map .int) [.fz (scD K L), .fz (.int j), .fz (lD l), .ow none (.lst acc), x, y] =
      .nx [.fz (scD K L), .fz (.int j), .fz (lD l), .ow none (.lst (acc ++ S.flatMap fun a => ((nds K l.t.toNat).filter (okE l a)).map fun b => tr j (a, b))), x', y']
  | [], acc, x, y, _, _, _ => ⟨x, y, by simp [loop]⟩
  | a :: S, acc, x, y, hx, hy, hle => by
    simp only [List.length_cons, Nat.succ_mul] at hle
    obtain ⟨⟨s1, s2⟩, ⟨u1, u2⟩, hm⟩ := hl
    have nt := law_nodes_ok (L := L) (k := l.t.toNat) (by omega) hv
    have lt := nds_len hv l.t.toNat
    rw [Int.toNat_of_nonneg u1] at nt
    have g2 : oIx (lD l) (.int 2) = some (.int l.t) := rfl
    obtain ⟨y', hy', q⟩ := let_in (K := K) (L := L) (j := j) (l := l) (a := a) (T := nds K l.t.toNat) (acc := acc) (x := y) hy (by omega)
    have hf := List.length_filter_le (okE l a) (nds K l.t.toNat)
    obtain ⟨x2, y2, q2⟩ := let_out (L := L) (j := j) hv ⟨⟨s1, s2⟩, ⟨u1, u2⟩, hm⟩ (S := S) (acc := acc ++ ((nds K l.t.toNat).filter (okE l a)).map fun b => tr j (a, b)) (x := .fz (.int a)) (y := y') rfl hy' (by simp; omega)
    refine ⟨x2, y2, ?_⟩
    have hg : gN 4 (.int a) [.fz (scD K L), .fz (.int j), .fz (lD l), .ow none (.lst acc), x, y] = some [.fz (scD K L), .fz (.int j), .fz (lD l), .ow none (.lst acc), .fz (.int a), y] := by simp [hx]
    simp only [List.map_cons, loop, hg, ev_for, ev_it, ev_fz, ev_callO, call_f2, ev_var, List.getElem?_cons_zero, List.getElem?_cons_succ, Rs.bind_ok, ev_O2, ev_C, g2, Rs.of_some, nt, ev_toD, itL, Rs.go_ok, q]
    rw [q2, List.flatMap_cons, List.append_assoc]
theorem let_ok {K : List Kd} {L : List Lb} {j : Nat} (h : j < L.length) (hv : vK K) (hl : vL K.length L[j]) : F__law_let [.fz (scD K L), .fz (.int j)] = .ok (.ow none (.lst ((letT K L[j]).map (tr j)))) [] := by
  refine fn_rt rfl rfl ?_
  show RT (m__law_let [.fz (scD K L), .fz (.int j), .un, .un, .un, .un]) _ _
  have ix : oIx (.tup (L.map lD)) (.int j) = some (lD L[j]) := by
    simp only [oIx]; rw [getI_of (by simpa using h)]; simp
  generalize L[j] = l at *
  have hl' := hl
  obtain ⟨⟨s1, s2⟩, ⟨u1, u2⟩, hm⟩ := hl
  have ns := law_nodes_ok (L := L) (k := l.s.toNat) (by omega) hv
  have ls := nds_len hv l.s.toNat
  rw [Int.toNat_of_nonneg s1] at ns
  have g1 : oIx (lD l) (.int 1) = some (.int l.s) := rfl
  obtain ⟨x', y', q⟩ := let_out (L := L) (j := j) hv hl' (S := nds K l.s.toNat) (acc := []) (x := .un) (y := .un) rfl rfl (by simp; omega)
  have hq : (letT K l).map (tr j) = (nds K l.s.toNat).flatMap fun a => ((nds K l.t.toNat).filter (okE l a)).map fun b => tr j (a, b) := by
    unfold letT
    rw [List.map_flatMap]
    refine flat_congr fun a ha => ?_
    rw [List.map_map]; rfl
  rw [hq]
  unfold m__law_let
  simp only [ev_seq, ev_set, ev_O2, ev_var, ev_C, List.getElem?_cons_zero, List.getElem?_cons_succ, Rs.bind_ok, sc_2, Rs.of_some, ix, Rs.go_ok, ev_gN, ev_free1, if_true, List.set_cons_succ, List.set_cons_zero, ev_nxO1, Sr.then_nx, ev_setO, ev_lst, ev_args0, List.length_nil, Nat.zero_le, ev_for, ev_it, ev_fz, ev_callO, call_f2, g1, ns, ev_toD, itL, q, List.nil_append, ev_retV]
  exact ⟨_, rfl, rfl⟩
/-! is_edge -/
theorem low_ki {n : Nat} (o : Option Nat) : lowD n (kiD o) = true := by cases o <;> simp [kiD, lowD]
theorem eq_ki {o : Option Nat} {s : Nat} : eqD (kiD o) (.int s) = decide (o = some s) := by
  cases o with
  | none => simp [kiD, eqD, eqF]
  | some k =>
    simp only [kiD, eqD, eqF, beqI, Option.some.injEq]
    congr 1; apply propext; omega
def edgeB (K : List Kd) (L : List Lb) (a j b : Int) : Bool := ((if 0 ≤ j then L[j.toNat]? else none).map fun l => decide ((a, b) ∈ letT K l)).getD false
theorem edgeB_in {K : List Kd} {L : List Lb} {a b : Int} {j : Nat} (h : j < L.length) : edgeB K L a j b = decide ((a, b) ∈ letT K L[j]) := by
  simp [edgeB, h]
theorem edgeB_hi {K : List Kd} {L : List Lb} {a b j : Int} (h : ¬ j.toNat < L.length) : edgeB K L a j b = false := by
  unfold edgeB
  split
  · rw [List.getElem?_eq_none (by omega)]; rfl
  · rfl
theorem edgeB_lo {K : List Kd} {L : List Lb} {a b j : Int} (h : ¬ 0 ≤ j) : edgeB K L a j b = false := by
  simp [edgeB, h]
theorem is_edge_ok {K : List Kd} {L : List Lb} {j a b : Int} (hv : vK K) (hL : ∀ l ∈ L, vL K.length l) :
    F_is_edge [.fz (scD K L), .fz (.tup [.int a, .int j, .int b])] = .ok (.fz (.bl (edgeB K L a j b))) [] := by
  refine fn_rt rfl rfl ?_
  show RT (m_is_edge [.fz (scD K L), .fz (.tup [.int a, .int j, .int b]), .un, .un, .un]) _ _
  by_cases c1 : 0 ≤ j
  · by_cases c2 : j.toNat < L.length
    · obtain ⟨j, rfl⟩ := Int.eq_ofNat_of_zero_le c1
      simp only [Int.toNat_natCast] at c2
      have c3 : (j : Int) < (L.length : Int) := by omega
      have h1 := lk_ok (K := K) c2
      have h2 := mark_ok (K := K) c2
      have hl := hL _ (List.getElem_mem c2)
      have ka := kind_ok (K := K) (L := L) (n := a)
      have kb := kind_ok (K := K) (L := L) (n := b)
      rw [edgeB_in c2]
      generalize L[j] = l at *
      obtain ⟨⟨s1, s2⟩, ⟨u1, u2⟩, hm⟩ := hl
      have es : l.s = (l.s.toNat : Int) := (Int.toNat_of_nonneg s1).symm
      have et : l.t = (l.t.toNat : Int) := (Int.toNat_of_nonneg u1).symm
      have hne : oNeD (.tup [kiD (ko K a), kiD (ko K b)]) (.tup [.int l.s, .int l.t]) = some (.bl (!(decide (a ∈ nds K l.s.toNat) && decide (b ∈ nds K l.t.toNat)))) := by
        unfold oNeD
        rw [if_pos ⟨by simp [lowD, lowDs, low_ki], by simp [lowD, lowDs]⟩]
        have e1 := ko_iff hv (n := a) (i := l.s.toNat)
        have e2 := ko_iff hv (n := b) (i := l.t.toNat)
        rw [es, et]
        simp only [eqD, eqDs, eq_ki, Int.toNat_natCast, Bool.and_true, e1, e2]
      have hmem : decide ((a, b) ∈ letT K l) = ((decide (a ∈ nds K l.s.toNat) && decide (b ∈ nds K l.t.toNat)) && (decide (a = b) || !decide (l.r = t6))) := by
        have := mem_letT (K := K) (l := l) (a := a) (b := b)
        rw [Bool.eq_iff_iff]
        simp only [decide_eq_true_eq, Bool.and_eq_true, Bool.or_eq_true, Bool.not_eq_true', decide_eq_false_iff_not, this]
        constructor
        · rintro ⟨x, y, z⟩; exact ⟨⟨x, y⟩, z.symm⟩
        · rintro ⟨⟨x, y⟩, z⟩; exact ⟨x, y, z.symm⟩
      rw [hmem]
      generalize (decide (a ∈ nds K l.s.toNat) && decide (b ∈ nds K l.t.toNat)) = z at *
      unfold m_is_edge
      cases z with
      | false => simp [sc_2, oLe, oLt, oLen, c3, ka, kb, h1, hne]
      | true =>
        by_cases c4 : a = b
        · subst c4
          simp [sc_2, oLe, oLt, oLen, c3, ka, h1, hne, h2, oEq, eqS]
        · simp [sc_2, oLe, oLt, oLen, c3, ka, kb, h1, hne, h2, oEq, eqS, c4]
    · have c3 : ¬ j < (L.length : Int) := by omega
      rw [edgeB_hi c2]
      simp [m_is_edge, sc_2, oLe, oLt, oLen, c1, c3]
  · rw [edgeB_lo c1]
    simp [m_is_edge, sc_2, oLe, oLt, oLen, c1]
end K01

set_option linter.all false
set_option maxRecDepth 10000
set_option maxHeartbeats 1000000
namespace Ml
/-- a loop that goes through -/
theorem loop_nx {g : MG} {b : MS} {I : Loc → Prop} : ∀ {ds : List Dv} {e : Loc}, I e → (∀ d ∈ ds, ∀ e, I e → ∃ e1 e2, g d e = some e1 ∧ b e1 = .nx e2 ∧ I e2) → ∃ e', loop g b ds e = .nx e' ∧ I e'
  | [], e, h, _ => ⟨e, rfl, h⟩
  | d :: ds, e, h, hs => by
    obtain ⟨e1, e2, hg, hb, h2⟩ := hs d List.mem_cons_self e h
    obtain ⟨e', q, h'⟩ := loop_nx (ds := ds) h2 fun d hd => hs d (List.mem_cons_of_mem _ hd)
    exact ⟨e', by simp only [loop, hg, hb, q], h'⟩
end Ml
namespace K01
open Ml
theorem eqDs_int : ∀ l : List Int, eqDs (l.map .int) (l.map .int) = true
  | [] => by simp [eqDs]
  | p :: l => by simp [eqDs, eqD, eqF, eqDs_int l]
theorem lows_int {n : Nat} : ∀ l : List Int, lowDs n (l.map .int) = true
  | [] => by simp [lowDs]
  | p :: l => by simp [lowDs, lowD, lows_int l]
theorem is_int_ok (n : Int) : F__law_is_int [.fz (.int n)] = .ok (.fz (.bl true)) [] := rfl
theorem nodes_right_ok {K : List Kd} {L : List Lb} (hv : vK K) : F__law_nodes_right [.fz (scD K L)] = .ok (.fz (.bl true)) [] := by
  refine fn_rt rfl rfl ?_
  show RT (m__law_nodes_right [.fz (scD K L), .un, .un, .un, .un, .un]) _ _
  have hn := node_count_ok (K := K) (L := L) (by have := hv.1; omega)
  have hm : mLc (mIt itT (mO2 oIx (mVar 0) (mC (.int 1)))) (gN 5) mYes (mO2 oIx (mVar 5) (mC (.int 1))) [5] [.fz (scD K L), .fz (.int (K.map (·.2)).sum), .un, .un, .un, .un] = .ok (.lst (K.map fun k => .int k.2)) [.fz (scD K L), .fz (.int (K.map (·.2)).sum), .un, .un, .un, .un] :=
    mlc_mapA (h := kD) rfl rfl (by have := limv; have := hv.1; omega) (fun d hd => ⟨_, _, rfl, rfl, rfl, rfl⟩) rfl
  have rK : itR 0 (K.length : Int) = some ((List.range K.length).map fun (j : Nat) => Dv.int (j : Int)) := itR_nat (by have := hv.1; omega)
  obtain ⟨e', q, c1, c2, c3, rfl, _⟩ := loop_nx (g := gN 2) (b := (sSeq (sSet (mFz (mCallO F__law_nodes [.val (mVar 0), .val (mVar 2)])) (gN 3))
  (sSeq (sIf (mTest (mO2 oNeD (mCallD F_nodes_of [.val (mVar 0), .val (mVar 2)]) (mO1 oTup (mVar 3))))
  (sRet (mC (.bl false)))
  sNil)
  (sFor (mIt itL (mVar 3)) (gN 4)
  (sIf (mOr (mTest (mO2 oNeD (mCallD F_kind_of [.val (mVar 0), .val (mVar 4)]) (mVar 2))) (mNot (mTruth (mCallD F__law_is_int [.val (mCallD F_kind_of [.val (mVar 0), .val (mVar 4)])]))))
  (sRet (mC (.bl false)))
  sNil)))))
    (I := fun e => ∃ c1 c2 c3, e = [.fz (scD K L), .fz (.int (K.map (·.2)).sum), c1, c2, c3, .un] ∧ free (some c1) = true ∧ free (some c2) = true ∧ free (some c3) = true)
    (ds := (List.range K.length).map fun (j : Nat) => Dv.int (j : Int)) (e := [.fz (scD K L), .fz (.int (K.map (·.2)).sum), .un, .un, .un, .un]) ⟨.un, .un, .un, rfl, rfl, rfl, rfl⟩
    (fun d hd e he => by
      obtain ⟨c1, c2, c3, rfl, f1, f2, f3⟩ := he
      obtain ⟨k, hk, rfl⟩ := List.mem_map.mp hd
      have hk : k < K.length := by simpa using hk
      have h1 := law_nodes_ok (L := L) hk hv
      have h2 := nodes_of_ok (L := L) hk hv
      have hne : oNeD (.tup ((nds K k).map .int)) (.tup ((nds K k).map .int)) = some (.bl false) := by
        unfold oNeD
        rw [if_pos ⟨by simp [lowD, lows_int], by simp [lowD, lows_int]⟩]
        simp [eqD, eqDs_int]
      obtain ⟨e', q, x, rfl, hx⟩ := loop_nx (g := gN 4) (b := (sIf (mOr (mTest (mO2 oNeD (mCallD F_kind_of [.val (mVar 0), .val (mVar 4)]) (mVar 2))) (mNot (mTruth (mCallD F__law_is_int [.val (mCallD F_kind_of [.val (mVar 0), .val (mVar 4)])]))))
  (sRet (mC (.bl false)))
  sNil)) (I := fun e => ∃ x, e = [.fz (scD K L), .fz (.int (K.map (·.2)).sum), .fz (.int k), .fz (.lst ((nds K k).map .int)), x, .un] ∧ free (some x) = true) (ds := (nds K k).map .int)
        (e := [.fz (scD K L), .fz (.int (K.map (·.2)).sum), .fz (.int k), .fz (.lst ((nds K k).map .int)), c3, .un]) ⟨c3, rfl, f3⟩
        (fun d hd e he => by
          obtain ⟨x, rfl, hx⟩ := he
          obtain ⟨n, hn, rfl⟩ := List.mem_map.mp hd
          have hko := kind_ok (K := K) (L := L) (n := n)
          rw [(ko_iff hv).mpr hn] at hko
          have h0 : oNeD (.int k) (.int k) = some (.bl false) := by simp [oNeD, lowD, eqD, eqF]
          refine ⟨_, [.fz (scD K L), .fz (.int (K.map (·.2)).sum), .fz (.int k), .fz (.lst ((nds K k).map .int)), .fz (.int n), .un], by simp [hx]; rfl, ?_, ⟨_, rfl, rfl⟩⟩
          simp [hko, kiD, h0, is_int_ok, truthD])
      refine ⟨_, [.fz (scD K L), .fz (.int (K.map (·.2)).sum), .fz (.int k), .fz (.lst ((nds K k).map .int)), x, .un], by simp [f1]; rfl, ?_, ⟨_, _, _, rfl, rfl, rfl, hx⟩⟩
      simp only [ev_seq, ev_set, ev_fz, ev_callO, ev_callD, call_f2, ev_var, List.getElem?_cons_zero, List.getElem?_cons_succ, Rs.bind_ok, h1, ev_toD, Rs.go_ok, ev_gN, f2, if_true, List.set_cons_succ, List.set_cons_zero, ev_nxO1, Sr.then_nx, ev_if, ev_test, ev_O2, ev_O1, h2, oTup, Rs.of_some, hne, Bool.false_eq_true, if_false, ev_nil, ev_for, ev_it, itL, q])
  have hne : oNe (.int (K.map (·.2)).sum) (.int (K.map (·.2)).sum) = some (.bl false) := by simp [oNe, eqS]
  unfold m__law_nodes_right
  simp only [ev_seq, ev_set, ev_callD, call_f1, ev_var, List.getElem?_cons_zero, List.getElem?_cons_succ, Rs.bind_ok, hn, Rs.go_ok, ev_gN, ev_free1, if_true, List.set_cons_succ, List.set_cons_zero, ev_nxO1, Sr.then_nx, ev_if, ev_or, ev_not, ev_truth, is_int_ok, truthD, Rs.of_some, Bool.not_true, Bool.false_eq_true, if_false, ev_test, ev_O2, ev_O1, ev_fz, hm, ev_toD, oSum, intsOf_map (fun k : Kd => k.2), Option.map_some, hne, ev_nil, ev_for, ev_rg1, ev_C, sc_1, oLen, List.length_map, rK, q, ev_ret]
  exact ⟨_, rfl, rfl⟩
end K01

set_option linter.all false
set_option maxRecDepth 10000
set_option maxHeartbeats 1000000
namespace Ml
section
variable {a b : MS} {e e1 : Loc} {Q P : Loc → Prop} {t : ME Bool} {x : Bool}
theorem nx_seq (h : a e = .nx e1) (hb : ∃ e', b e1 = .nx e' ∧ Q e') : ∃ e', sSeq a b e = .nx e' ∧ Q e' := by
  obtain ⟨e', q, hq⟩ := hb
  exact ⟨e', by rw [ev_seq, h]; exact q, hq⟩
theorem nx_seqP (h : ∃ e1, a e = .nx e1 ∧ P e1) (hb : ∀ e1, P e1 → ∃ e', b e1 = .nx e' ∧ Q e') : ∃ e', sSeq a b e = .nx e' ∧ Q e' := by
  obtain ⟨e1, q, hp⟩ := h
  exact nx_seq q (hb e1 hp)
theorem nx_if (h : t e = .ok x e1) (ha : x = true → ∃ e', a e1 = .nx e' ∧ Q e') (hb : x = false → ∃ e', b e1 = .nx e' ∧ Q e') : ∃ e', sIf t a b e = .nx e' ∧ Q e' := by
  cases x with
  | true => obtain ⟨e', q, hq⟩ := ha rfl; exact ⟨e', by rw [if_t h]; exact q, hq⟩
  | false => obtain ⟨e', q, hq⟩ := hb rfl; exact ⟨e', by rw [if_f h]; exact q, hq⟩
theorem nx_nil (h : Q e) : ∃ e', sNil e = .nx e' ∧ Q e' := ⟨e, rfl, h⟩
end
end Ml
namespace K01
open Ml
theorem draw_eq : F__law_draw = drawF := rfl
theorem pick_eq : F__law_pick = pickF := rfl
theorem rare_eq : F__law_rare = rareF := rfl
section
variable {ns : List Int} {e e1 : Loc} {i : Nat} {j : Option Nat} {ds : List Dv} {ma : ME Dv} {m : Int} {xs : List Dv}
theorem cdraw (hd : Dr ns ds) (he : e[i]? = some (.ow j (.lst ds))) (hm : ma e = .ok (.int m) e) (h1 : 1 ≤ m) (h2 : m < 1073741824) :
    ∃ k ds', mCallD F__law_draw [.own i, .val ma] e = .ok (.int k) (e.set i (.ow j (.lst ds'))) ∧ 0 ≤ k ∧ k < m ∧ Dr ns ds' :=
  call_draw he hd hm he h1 h2
theorem cpick (hd : Dr ns ds) (he : e[i]? = some (.ow j (.lst ds))) (hm : ma e = .ok (.lst xs) e) (h1 : xs ≠ []) (h2 : xs.length < 1073741824) :
    ∃ x ds', mCallD F__law_pick [.own i, .val ma] e = .ok x (e.set i (.ow j (.lst ds'))) ∧ x ∈ xs ∧ Dr ns ds' := by
  obtain ⟨x, ds', h, hx, hd'⟩ := pick_ok hd h1 h2
  exact ⟨x, ds', call_2 he hm he h, hx, hd'⟩
theorem crare (hd : Dr ns ds) (he : e[i]? = some (.ow j (.lst ds))) (hm : ma e = .ok (.int m) e) (h1 : 1 ≤ m) (h2 : m < 1073741824) :
    ∃ b ds', mCallD F__law_rare [.own i, .val ma] e = .ok (.bl b) (e.set i (.ow j (.lst ds'))) ∧ Dr ns ds' := by
  obtain ⟨x, ds', h, hd'⟩ := rare_ok hd h1 h2
  exact ⟨x, ds', call_2 he hm he h, hd'⟩
/-- a list in whose place stands another, x in between -/
theorem pop_ok (hd : Dr ns ds) (h1 : xs ≠ []) (h2 : xs.length < 1000000000) :
    ∃ k ds', ∃ hk : k < xs.length, F__law_pop [.ow none (.lst ds), .ow none (.lst xs)] = .ok (.fz xs[k]) [.lst ds', .lst (xs.eraseIdx k)] ∧ Dr ns ds' := by
  have h1 : 1 ≤ (xs.length : Int) := by
    cases xs with
    | nil => exact absurd rfl h1
    | cons => simp; omega
  obtain ⟨k, ds', h, b1, b2, b3⟩ := cdraw (ns := ns) (ds := ds) (e := [.ow (some 0) (.lst ds), .ow (some 1) (.lst xs)]) (i := 0) (j := some 0) (ma := mOwn 1 wLen) (m := xs.length) hd rfl rfl h1 (by omega)
  obtain ⟨k, rfl⟩ := Int.eq_ofNat_of_zero_le b1
  have hk : k < xs.length := by omega
  refine ⟨k, ds', hk, ?_, b3⟩
  refine fn_ok rfl rfl (e := [.ow (some 0) (.lst ds'), .ow (some 1) (.lst (xs.eraseIdx k))]) ?_ rfl
  simp only [List.set_cons_zero] at h
  have h3 : 0 ≤ (k : Int) ∧ (k : Int) < xs.length ∧ (k : Int) < 1000000000 := by omega
  simp [m__law_pop, initE, mPopAt, isOw, h, h3, hk, -ev_callD]
end
/-- names used, names left -/
def NM (U P : List (List Nat)) : Prop := U.Nodup ∧ P.Nodup ∧ (∀ u ∈ U, u ∉ P) ∧ (∀ u ∈ U, isName u = true) ∧ ∀ p ∈ P, isName p = true
theorem erase_mem {α : Type} {x : α} : ∀ {l : List α} {k : Nat}, x ∈ l.eraseIdx k → x ∈ l
  | [], _, h => by simp at h
  | a :: l, 0, h => List.mem_cons_of_mem _ h
  | a :: l, k + 1, h => by
    rw [List.eraseIdx_cons_succ] at h
    rcases List.mem_cons.mp h with h | h
    · exact h ▸ List.mem_cons_self
    · exact List.mem_cons_of_mem _ (erase_mem h)
theorem erase_not {α : Type} : ∀ {l : List α} {k : Nat} (hk : k < l.length), l.Nodup → l[k] ∉ l.eraseIdx k
  | [], _, hk, _ => by simp at hk
  | a :: l, 0, _, h => by
    have := (List.nodup_cons.mp h).1
    simpa using this
  | a :: l, k + 1, hk, h => by
    have h2 := List.nodup_cons.mp h
    have hk' : k < l.length := by simpa using hk
    simp only [List.getElem_cons_succ, List.eraseIdx_cons_succ, List.mem_cons, not_or]
    exact ⟨fun e => h2.1 (e ▸ List.getElem_mem hk'), erase_not hk' h2.2⟩
theorem erase_nd {α : Type} : ∀ {l : List α} {k : Nat}, l.Nodup → (l.eraseIdx k).Nodup
  | [], _, h => by simp
  | a :: l, 0, h => (List.nodup_cons.mp h).2
  | a :: l, k + 1, h => by
    have h2 := List.nodup_cons.mp h
    rw [List.eraseIdx_cons_succ]
    exact List.nodup_cons.mpr ⟨fun e => h2.1 (erase_mem e), erase_nd h2.2⟩
theorem erase_map {α β : Type} (f : α → β) : ∀ {l : List α} {k : Nat}, (l.map f).eraseIdx k = (l.eraseIdx k).map f
  | [], _ => by simp
  | a :: l, 0 => rfl
  | a :: l, k + 1 => by simp only [List.map_cons, List.eraseIdx_cons_succ, erase_map f]
theorem NM_pop {U P : List (List Nat)} {k : Nat} (h : NM U P) (hk : k < P.length) : NM (U ++ [P[k]]) (P.eraseIdx k) := by
  obtain ⟨a, b, c, d, f⟩ := h
  have hm := List.getElem_mem hk
  refine ⟨?_, erase_nd b, ?_, ?_, fun p hp => f p (erase_mem hp)⟩
  · rw [List.nodup_append]
    exact ⟨a, by simp, fun x hx y hy e => by
      simp only [List.mem_singleton] at hy
      subst hy; subst e
      exact c _ hx hm⟩
  · intro u hu
    rcases List.mem_append.mp hu with hu | hu
    · exact fun h => c u hu (erase_mem h)
    · simp only [List.mem_singleton] at hu
      subst hu
      exact erase_not hk b
  · intro u hu
    rcases List.mem_append.mp hu with hu | hu
    · exact d u hu
    · simp only [List.mem_singleton] at hu
      subst hu
      exact f _ hm
def poolL : List (List Nat) := splitN 32 [] (t27 ++ t28)
theorem pool_ok : F__law_pool [] = .ok (.ow none (.lst (poolL.map .str))) [] := by
  refine fn_rt rfl rfl ?_
  show RT (m__law_pool [.un]) _ _
  have h1 : oAdd (.str t27) (.str t28) = some (.str (t27 ++ t28)) := by
    have : t27.length + t28.length ≤ lim := by decide
    simp [oAdd, this]
  have h2 : oSplit (t27 ++ t28) (.str t29) = some (poolL.map .str) := by
    have : (32 : Nat) < 128 ∧ (t27 ++ t28).length + 2 ≤ lim := by decide
    simp only [oSplit, t29, this, and_self, if_true]; rfl
  simp [m__law_pool, h1, mM1N, h2]
theorem pool_len : poolL.length = 51 := by decide
theorem pool_nm : NM [] poolL := ⟨List.nodup_nil, (by decide : poolL.Nodup), fun _ h => absurd h List.not_mem_nil, fun _ h => absurd h List.not_mem_nil, by decide⟩
theorem name_tx {s : List Nat} (h : isName s = true) : tx s := by
  cases s with
  | nil => simp [isName] at h
  | cons c r =>
    simp only [isName, Bool.and_eq_true, decide_eq_true_eq] at h
    obtain ⟨h1, _, h2, _⟩ := h
    refine ⟨by simp; omega, ?_⟩
    rw [List.all_eq_true] at h2 ⊢
    intro x hx
    have := h2 x hx
    simp only [sgn, Bool.or_eq_true, decide_eq_true_eq] at this ⊢
    rcases this with h | h
    · have : ∀ x ∈ t0, x < 1114112 := by decide
      exact this x h
    · have : ∀ x ∈ t1, x < 1114112 := by decide
      exact this x h
end K01

set_option linter.all false
set_option maxRecDepth 10000
set_option maxHeartbeats 1000000
namespace K01
open Ml
def gdL (m : Nat) (l : Lb) : Prop := vL m l ∧ 0 ≤ l.p ∧ l.p ≤ 9 ∧ l.r ∈ rules
/-- what _law_schema makes -/
def Gd (m n : Nat) (K : List Kd) (L : List Lb) : Prop := K.length = m ∧ L.length = n ∧ (K.map (·.1) ++ L.map (·.n)).Nodup ∧ (∀ s ∈ K.map (·.1) ++ L.map (·.n), isName s = true) ∧ (∀ k ∈ K, 1 ≤ k.2 ∧ k.2 ≤ 6) ∧ ∀ l ∈ L, gdL m l
section
variable {ns : List Int}
def S1 (m n : Nat) (ds : List Dv) (P : List (List Nat)) (K : List Kd) (x : Slt) : Loc := [.ow (some 0) (.lst ds), .fz (.int m), .fz (.int n), .fz (.int 6), .ow none (.lst (P.map .str)), .ow none (.lst (K.map kD)), x, .un, .un, .un, .un, .un, .un]
def S2 (m n : Nat) (ds : List Dv) (P : List (List Nat)) (K : List Kd) (L : List Lb) (x x8 x9 x10 x11 x12 : Slt) : Loc := [.ow (some 0) (.lst ds), .fz (.int m), .fz (.int n), .fz (.int 6), .ow none (.lst (P.map .str)), .fz (.lst (K.map kD)), x, .ow none (.lst (L.map lD)), x8, x9, x10, x11, x12]
theorem cpop {ds : List Dv} {P : List (List Nat)} {e : Loc} {j : Option Nat} (hd : Dr ns ds) (he : e[0]? = some (.ow j (.lst ds))) (he4 : e[4]? = some (.ow none (.lst (P.map .str)))) (h1 : 1 ≤ P.length) (h2 : P.length ≤ 51) :
    ∃ k ds', ∃ hk : k < P.length, mCallD F__law_pop [.own 0, .own 4] e = .ok (.str P[k]) ((e.set 0 (.ow j (.lst ds'))).set 4 (.ow none (.lst ((P.eraseIdx k).map .str)))) ∧ Dr ns ds' := by
  obtain ⟨k, ds', hk, h, hd'⟩ := pop_ok (xs := P.map Dv.str) hd (by cases P <;> simp at h1 ⊢) (by simp; omega)
  have hk' : k < P.length := by simpa using hk
  refine ⟨k, ds', hk', ?_, hd'⟩
  have hl0 : 4 < e.length := (List.getElem?_eq_some_iff.mp he4).1
  have e4 : (e.set 0 (.ow j (.lst ds')))[4]? = some (.ow none (.lst (P.map .str))) := by rw [List.getElem?_set_ne (by decide)]; exact he4
  rw [erase_map] at h
  simp only [mCallD, mCall, mAs, he, isOw, if_true, he4, Rs.bind_ok, owns, resolve, Option.map_some, h, List.nodup_cons, List.mem_cons, List.not_mem_nil, or_false, not_false_eq_true, List.nodup_nil, and_self, wback, putO, e4]
  simp [Rs.of, putO]
theorem rows_step {m n : Nat} {ds : List Dv} {P : List (List Nat)} {K : List Kd} {x : Slt} {N : Nat} (hd : Dr ns ds) (hn : NM (K.map (·.1)) P) (hP : P.length + K.length = 51) (hK : K.length ≤ 10) :
    ∃ e', (sApp 5 (mTup [(mCallD F__law_pop [.own 0, .own 4]), (mO2 oAdd (mC (.int 1)) (mCallD F__law_draw [.own 0, .val (mVar 3)]))])) (S1 m n ds P K x) = .nx e' ∧
      ∃ ds' P' k, e' = S1 m n ds' P' (K ++ [k]) x ∧ Dr ns ds' ∧ NM ((K ++ [k]).map (·.1)) P' ∧ P'.length + (K ++ [k]).length = 51 ∧ 1 ≤ k.2 ∧ k.2 ≤ 6 := by
  obtain ⟨i, ds1, hi, h1, hd1⟩ := cpop (ns := ns) (P := P) (e := S1 m n ds P K x) hd rfl rfl (by omega) (by omega)
  have e1 : ((S1 m n ds P K x).set 0 (.ow (some 0) (.lst ds1))).set 4 (.ow none (.lst ((P.eraseIdx i).map .str))) = S1 m n ds1 (P.eraseIdx i) K x := rfl
  rw [e1] at h1
  obtain ⟨q, ds2, h2, q1, q2, hd2⟩ := cdraw (ns := ns) (ds := ds1) (e := S1 m n ds1 (P.eraseIdx i) K x) (i := 0) (j := some 0) (ma := mVar 3) (m := 6) hd1 rfl rfl (by omega) (by omega)
  have e2 : (S1 m n ds1 (P.eraseIdx i) K x).set 0 (.ow (some 0) (.lst ds2)) = S1 m n ds2 (P.eraseIdx i) K x := rfl
  rw [e2] at h2
  refine ⟨S1 m n ds2 (P.eraseIdx i) (K ++ [(P[i], 1 + q)]) x, ?_, ds2, P.eraseIdx i, (P[i], 1 + q), rfl, hd2, ?_, ?_, by omega, by omega⟩
  · have hl : K.length < lim := by have := limv; omega
    have : isOw (S1 m n ds P K x)[5]? = true := rfl
    rw [ev_app, if_pos this]
    simp only [ev_tup, ev_args1, ev_args0, h1, Rs.bind_ok, ev_O2, ev_C, h2, oAdd, Rs.of_some, List.length_cons, List.length_nil]
    simp [S1, hl, kD]
  · have := NM_pop hn hi
    simpa using this
  · simp [List.length_eraseIdx, hi]; omega
theorem told_step {m n : Nat} {ds : List Dv} {P : List (List Nat)} {K : List Kd} {L : List Lb} {x x8 x9 x10 x11 x12 : Slt} (f8 : free (some x8) = true) (f9 : free (some x9) = true) (f10 : free (some x10) = true) (f11 : free (some x11) = true) (f12 : free (some x12) = true)
    (hm : 1 ≤ m ∧ m ≤ 3) (hd : Dr ns ds) (hn : NM (K.map (·.1) ++ L.map (·.n)) P) (hP : P.length + (K.length + L.length) = 51) (hK : K.length + L.length ≤ 10) :
    ∃ e', (sSeq (sSet (mCallD F__law_draw [.own 0, .val (mVar 1)]) (gN 8))
  (sSeq (sSet (mCallD F__law_draw [.own 0, .val (mVar 1)]) (gN 9))
  (sSeq (sSet (mCallD F__law_draw [.own 0, .val (mC (.int 10))]) (gN 10))
  (sSeq (sSet (mC (.str t4)) (gN 11))
  (sSeq (sIf (mTest (mO2 oIn (mVar 10) (mTup [(mC (.int 3)), (mC (.int 4))])))
  (sSet (mC (.str t5)) (gN 11))
  sNil)
  (sSeq (sIf (mTest (mO2 oEq (mVar 10) (mC (.int 7))))
  (sSeq (sSet (mC (.str t6)) (gN 11))
  (sSet (mVar 8) (gN 9)))
  sNil)
  (sSeq (sSet (mO2 oAdd (mC (.int 1)) (mCallD F__law_draw [.own 0, .val (mC (.int 4))])) (gN 12))
  (sSeq (sIf (mTest (mO2 oEq (mCallD F__law_draw [.own 0, .val (mC (.int 9))]) (mC (.int 5))))
  (sSet (mC (.int 0)) (gN 12))
  sNil)
  (sSeq (sIf (mTruth (mCallD F__law_rare [.own 0, .val (mC (.int 9))]))
  (sSet (mC (.int 9)) (gN 12))
  sNil)
  (sApp 7 (mTup [(mCallD F__law_pop [.own 0, .own 4]), (mVar 8), (mVar 9), (mVar 12), (mVar 11)]))))))))))) (S2 m n ds P K L x x8 x9 x10 x11 x12) = .nx e' ∧
      ∃ ds' P' l y8 y9 y10 y11 y12, e' = S2 m n ds' P' K (L ++ [l]) x y8 y9 y10 y11 y12 ∧ (free (some y8) = true ∧ free (some y9) = true ∧ free (some y10) = true ∧ free (some y11) = true ∧ free (some y12) = true) ∧ Dr ns ds' ∧ NM (K.map (·.1) ++ (L ++ [l]).map (·.n)) P' ∧ P'.length + (K.length + (L ++ [l]).length) = 51 ∧ gdL m l := by
  obtain ⟨s, ds1, h1, s1, s2, hd1⟩ := cdraw (ns := ns) (ds := ds) (e := S2 m n ds P K L x x8 x9 x10 x11 x12) (i := 0) (j := some 0) (ma := mVar 1) (m := m) hd rfl rfl (by omega) (by omega)
  refine nx_seq (e1 := S2 m n ds1 P K L x (.fz (.int s)) x9 x10 x11 x12) (by rw [ev_set, h1]; simp [S2, f8]) ?_
  obtain ⟨t, ds2, h2, u1, u2, hd2⟩ := cdraw (ns := ns) (ds := ds1) (e := S2 m n ds1 P K L x (.fz (.int s)) x9 x10 x11 x12) (i := 0) (j := some 0) (ma := mVar 1) (m := m) hd1 rfl rfl (by omega) (by omega)
  refine nx_seq (e1 := S2 m n ds2 P K L x (.fz (.int s)) (.fz (.int t)) x10 x11 x12) (by rw [ev_set, h2]; simp [S2, f9]) ?_
  obtain ⟨w, ds3, h3, w1, w2, hd3⟩ := cdraw (ns := ns) (ds := ds2) (e := S2 m n ds2 P K L x (.fz (.int s)) (.fz (.int t)) x10 x11 x12) (i := 0) (j := some 0) (ma := mC (.int 10)) (m := 10) hd2 rfl rfl (by omega) (by omega)
  refine nx_seq (e1 := S2 m n ds3 P K L x (.fz (.int s)) (.fz (.int t)) (.fz (.int w)) x11 x12) (by rw [ev_set, h3]; simp [S2, f10]) ?_
  refine nx_seq (e1 := S2 m n ds3 P K L x (.fz (.int s)) (.fz (.int t)) (.fz (.int w)) (.fz (.str t4)) x12) (by simp [S2, f11]) ?_
  refine nx_seqP (P := fun e => ∃ r, (r = t4 ∨ r = t5) ∧ e = S2 m n ds3 P K L x (.fz (.int s)) (.fz (.int t)) (.fz (.int w)) (.fz (.str r)) x12) ?_ ?_
  · refine nx_if (x := (w == 3 || w == 4)) (e1 := S2 m n ds3 P K L x (.fz (.int s)) (.fz (.int t)) (.fz (.int w)) (.fz (.str t4)) x12) ?_ ?_ ?_
    · have : oIn (.int w) (.tup [.int 3, .int 4]) = some (.bl (w == 3 || w == 4)) := by
        simp [oIn, seqD, flatD, eqF, Bool.beq_comm (a := w), BEq.comm (a := w)]
      simp [S2, this]
    · intro _; exact ⟨_, by simp [S2], t5, .inr rfl, rfl⟩
    · intro _; exact nx_nil ⟨t4, .inl rfl, rfl⟩
  rintro _ ⟨r, hr, rfl⟩
  refine nx_seqP (P := fun e => ∃ r t, r ∈ rules ∧ (0 ≤ t ∧ t < (m : Int)) ∧ (r = t6 → s = t) ∧ e = S2 m n ds3 P K L x (.fz (.int s)) (.fz (.int t)) (.fz (.int w)) (.fz (.str r)) x12) ?_ ?_
  · refine nx_if (x := decide (w = 7)) (e1 := S2 m n ds3 P K L x (.fz (.int s)) (.fz (.int t)) (.fz (.int w)) (.fz (.str r)) x12) ?_ ?_ ?_
    · simp [S2, oEq, eqS]
    · intro _; exact ⟨_, by simp [S2], t6, s, by simp [rules], ⟨s1, s2⟩, fun _ => rfl, rfl⟩
    · intro _
      refine nx_nil ⟨r, t, ?_, ⟨u1, u2⟩, fun h => ?_, rfl⟩
      · rcases hr with rfl | rfl <;> simp [rules]
      · rcases hr with rfl | rfl
        · exact absurd h (by decide)
        · exact absurd h (by decide)
  rintro _ ⟨r, t, hr, ht, hrt, rfl⟩
  obtain ⟨p, ds4, h4, p1, p2, hd4⟩ := cdraw (ns := ns) (ds := ds3) (e := S2 m n ds3 P K L x (.fz (.int s)) (.fz (.int t)) (.fz (.int w)) (.fz (.str r)) x12) (i := 0) (j := some 0) (ma := mC (.int 4)) (m := 4) hd3 rfl rfl (by omega) (by omega)
  refine nx_seq (e1 := S2 m n ds4 P K L x (.fz (.int s)) (.fz (.int t)) (.fz (.int w)) (.fz (.str r)) (.fz (.int (1 + p)))) (by rw [ev_set, ev_O2, ev_C, Rs.bind_ok, h4]; simp [S2, f12, oAdd]) ?_
  obtain ⟨k5, ds5, h5, _, _, hd5⟩ := cdraw (ns := ns) (ds := ds4) (e := S2 m n ds4 P K L x (.fz (.int s)) (.fz (.int t)) (.fz (.int w)) (.fz (.str r)) (.fz (.int (1 + p)))) (i := 0) (j := some 0) (ma := mC (.int 9)) (m := 9) hd4 rfl rfl (by omega) (by omega)
  refine nx_seqP (P := fun e => ∃ p, (0 ≤ p ∧ p ≤ 9) ∧ e = S2 m n ds5 P K L x (.fz (.int s)) (.fz (.int t)) (.fz (.int w)) (.fz (.str r)) (.fz (.int p))) ?_ ?_
  · refine nx_if (x := decide (k5 = 5)) (e1 := S2 m n ds5 P K L x (.fz (.int s)) (.fz (.int t)) (.fz (.int w)) (.fz (.str r)) (.fz (.int (1 + p)))) ?_ ?_ ?_
    · rw [ev_test, ev_O2, h5]; simp [S2, oEq, eqS]
    · intro _; exact ⟨_, by simp [S2], 0, by omega, rfl⟩
    · intro _; exact nx_nil ⟨1 + p, by omega, rfl⟩
  rintro _ ⟨p, hp, rfl⟩
  obtain ⟨b6, ds6, h6, hd6⟩ := crare (ns := ns) (ds := ds5) (e := S2 m n ds5 P K L x (.fz (.int s)) (.fz (.int t)) (.fz (.int w)) (.fz (.str r)) (.fz (.int p))) (i := 0) (j := some 0) (ma := mC (.int 9)) (m := 9) hd5 rfl rfl (by omega) (by omega)
  refine nx_seqP (P := fun e => ∃ p, (0 ≤ p ∧ p ≤ 9) ∧ e = S2 m n ds6 P K L x (.fz (.int s)) (.fz (.int t)) (.fz (.int w)) (.fz (.str r)) (.fz (.int p))) ?_ ?_
  · refine nx_if (x := b6) (e1 := S2 m n ds6 P K L x (.fz (.int s)) (.fz (.int t)) (.fz (.int w)) (.fz (.str r)) (.fz (.int p))) ?_ ?_ ?_
    · rw [ev_truth, h6]; simp [S2, truthD]
    · intro _; exact ⟨_, by simp [S2], 9, by omega, rfl⟩
    · intro _; exact nx_nil ⟨p, by omega, rfl⟩
  rintro _ ⟨p, hp, rfl⟩
  obtain ⟨i, ds7, hi, h7, hd7⟩ := cpop (ns := ns) (P := P) (e := S2 m n ds6 P K L x (.fz (.int s)) (.fz (.int t)) (.fz (.int w)) (.fz (.str r)) (.fz (.int p))) hd6 rfl rfl (by omega) (by omega)
  refine ⟨S2 m n ds7 (P.eraseIdx i) K (L ++ [⟨P[i], s, t, p, r⟩]) x (.fz (.int s)) (.fz (.int t)) (.fz (.int w)) (.fz (.str r)) (.fz (.int p)), ?_, ds7, P.eraseIdx i, ⟨P[i], s, t, p, r⟩, _, _, _, _, _, rfl, ⟨rfl, rfl, rfl, rfl, rfl⟩, hd7, ?_, ?_, ⟨⟨⟨s1, s2⟩, ht, hrt⟩, hp.1, hp.2, hr⟩⟩
  · have hl : L.length < lim := by have := limv; omega
    rw [ev_app, if_pos (by rfl)]
    simp only [ev_tup, ev_args1, ev_args0, h7, Rs.bind_ok]
    simp [S2, hl, lD]
  · have := NM_pop hn hi
    simpa [List.append_assoc] using this
  · simp [List.length_eraseIdx, hi]; omega
theorem schema_ok {m n : Nat} {ds : List Dv} (hm : 1 ≤ m ∧ m ≤ 3) (hn : n ≤ 4) (hd : Dr ns ds) :
    ∃ K L ds', F__law_schema [.ow none (.lst ds), .fz (.int m), .fz (.int n), .fz (.int 6)] = .ok (.fz (scD K L)) [.lst ds'] ∧ Dr ns ds' ∧ Gd m n K L := by
  obtain ⟨e1, q1, ds1, P1, K, x1, rfl, hx1, hd1, n1, l1, hK, hc⟩ := loop_inv (g := gN 6) (b := (sApp 5 (mTup [(mCallD F__law_pop [.own 0, .own 4]), (mO2 oAdd (mC (.int 1)) (mCallD F__law_draw [.own 0, .val (mVar 3)]))])))
    (ds := (List.range m).map fun (k : Nat) => Dv.int (k : Int)) (e := S1 m n ds poolL [] .un)
    (fun k e => ∃ ds P K x, e = S1 m n ds P K x ∧ free (some x) = true ∧ Dr ns ds ∧ NM (K.map (·.1)) P ∧ P.length + K.length = 51 ∧ K.length = k ∧ ∀ k ∈ K, 1 ≤ k.2 ∧ k.2 ≤ 6)
    ⟨ds, poolL, [], .un, rfl, rfl, hd, pool_nm, by rw [pool_len]; rfl, rfl, by simp⟩
    (fun k d e hk he => by
      obtain ⟨ds, P, K, x, rfl, hx, hd, hn, hl, hK, hc⟩ := he
      have hkm : k < m := by
        have := (List.getElem?_eq_some_iff.mp hk).1
        simpa using this
      obtain ⟨e', q, ds', P', k', rfl, hd', hn', hl', k1, k2⟩ := rows_step (ns := ns) (m := m) (n := n) (x := .fz d) (N := 0) hd hn hl (by omega)
      refine ⟨S1 m n ds P K (.fz d), _, by simp [S1, hx], .inl q, ds', P', _, _, rfl, rfl, hd', hn', hl', by simp [hK], ?_⟩
      intro y hy
      rcases List.mem_append.mp hy with hy | hy
      · exact hc y hy
      · simp only [List.mem_singleton] at hy; subst hy; exact ⟨k1, k2⟩)
  simp only [List.length_map, List.length_range] at hK
  obtain ⟨e2, q2, ds2, P2, L, x2, y8, y9, y10, y11, y12, rfl, hx2, ⟨f8, f9, f10, f11, f12⟩, hd2, n2, l2, hL, hg⟩ := loop_inv (g := gN 6) (b := (sSeq (sSet (mCallD F__law_draw [.own 0, .val (mVar 1)]) (gN 8))
  (sSeq (sSet (mCallD F__law_draw [.own 0, .val (mVar 1)]) (gN 9))
  (sSeq (sSet (mCallD F__law_draw [.own 0, .val (mC (.int 10))]) (gN 10))
  (sSeq (sSet (mC (.str t4)) (gN 11))
  (sSeq (sIf (mTest (mO2 oIn (mVar 10) (mTup [(mC (.int 3)), (mC (.int 4))])))
  (sSet (mC (.str t5)) (gN 11))
  sNil)
  (sSeq (sIf (mTest (mO2 oEq (mVar 10) (mC (.int 7))))
  (sSeq (sSet (mC (.str t6)) (gN 11))
  (sSet (mVar 8) (gN 9)))
  sNil)
  (sSeq (sSet (mO2 oAdd (mC (.int 1)) (mCallD F__law_draw [.own 0, .val (mC (.int 4))])) (gN 12))
  (sSeq (sIf (mTest (mO2 oEq (mCallD F__law_draw [.own 0, .val (mC (.int 9))]) (mC (.int 5))))
  (sSet (mC (.int 0)) (gN 12))
  sNil)
  (sSeq (sIf (mTruth (mCallD F__law_rare [.own 0, .val (mC (.int 9))]))
  (sSet (mC (.int 9)) (gN 12))
  sNil)
  (sApp 7 (mTup [(mCallD F__law_pop [.own 0, .own 4]), (mVar 8), (mVar 9), (mVar 12), (mVar 11)]))))))))))))
    (ds := (List.range n).map fun (k : Nat) => Dv.int (k : Int)) (e := S2 m n ds1 P1 K [] x1 .un .un .un .un .un)
    (fun k e => ∃ ds P L x y8 y9 y10 y11 y12, e = S2 m n ds P K L x y8 y9 y10 y11 y12 ∧ free (some x) = true ∧ (free (some y8) = true ∧ free (some y9) = true ∧ free (some y10) = true ∧ free (some y11) = true ∧ free (some y12) = true) ∧ Dr ns ds ∧ NM (K.map (·.1) ++ L.map (·.n)) P ∧ P.length + (K.length + L.length) = 51 ∧ L.length = k ∧ ∀ l ∈ L, gdL m l)
    ⟨ds1, P1, [], x1, .un, .un, .un, .un, .un, rfl, hx1, ⟨rfl, rfl, rfl, rfl, rfl⟩, hd1, by simpa using n1, by simpa using l1, rfl, by simp⟩
    (fun k d e hk he => by
      obtain ⟨ds, P, L, x, y8, y9, y10, y11, y12, rfl, hx, ⟨f8, f9, f10, f11, f12⟩, hd, hn', hl, hL, hg⟩ := he
      have hkm : k < n := by
        have := (List.getElem?_eq_some_iff.mp hk).1
        simpa using this
      obtain ⟨e', q, ds', P', l', z8, z9, z10, z11, z12, rfl, fz, hd', hn', hl', g⟩ := told_step (ns := ns) (m := m) (n := n) (x := .fz d) f8 f9 f10 f11 f12 hm hd hn' hl (by omega)
      refine ⟨S2 m n ds P K L (.fz d) y8 y9 y10 y11 y12, _, by simp [S2, hx], .inl q, ds', P', _, _, _, _, _, _, _, rfl, rfl, fz, hd', hn', hl', by simp [hL], ?_⟩
      intro y hy
      rcases List.mem_append.mp hy with hy | hy
      · exact hg y hy
      · simp only [List.mem_singleton] at hy; subst hy; exact g)
  simp only [List.length_map, List.length_range] at hL
  refine ⟨K, L, ds2, ?_, hd2, hK, hL, n2.1, n2.2.2.2.1, hc, hg⟩
  refine fn_ok rfl rfl (e := [.ow (some 0) (.lst ds2), .fz (.int m), .fz (.int n), .fz (.int 6), .ow none (.lst (P2.map .str)), .fz (.lst (K.map kD)), x2, .fz (.lst (L.map lD)), y8, y9, y10, y11, y12]) ?_ rfl
  have rm : itR 0 (m : Int) = some ((List.range m).map fun (j : Nat) => Dv.int (j : Int)) := itR_nat (by omega)
  have rn : itR 0 (n : Int) = some ((List.range n).map fun (j : Nat) => Dv.int (j : Int)) := itR_nat (by omega)
  show m__law_schema [.ow (some 0) (.lst ds), .fz (.int m), .fz (.int n), .fz (.int 6), .un, .un, .un, .un, .un, .un, .un, .un, .un] = _
  unfold m__law_schema
  simp only [ev_seq, ev_setO, ev_callO, call_f0, pool_ok, Rs.bind_ok, Rs.go_ok, List.getElem?_cons_succ, List.getElem?_cons_zero, ev_free1, if_true, List.set_cons_succ, List.set_cons_zero, Sr.then_nx, ev_lst, ev_args0, List.length_nil, Nat.zero_le, ev_for, ev_rg1, ev_var, rm, Rs.of_some]
  rw [show ([.ow (some 0) (.lst ds), .fz (.int m), .fz (.int n), .fz (.int 6), .ow none (.lst (poolL.map .str)), .ow none (.lst []), .un, .un, .un, .un, .un, .un, .un] : Loc) = S1 m n ds poolL [] .un from rfl, q1]
  simp only [Sr.then_nx, ev_frz, S1, ev_seq, ev_setO, Rs.go_ok, List.getElem?_cons_succ, List.getElem?_cons_zero, ev_free1, if_true, List.set_cons_succ, List.set_cons_zero, ev_lst, ev_args0, Rs.bind_ok, List.length_nil, Nat.zero_le, ev_for, ev_rg1, ev_var, rn, Rs.of_some]
  rw [show ([.ow (some 0) (.lst ds1), .fz (.int m), .fz (.int n), .fz (.int 6), .ow none (.lst (P1.map .str)), .fz (.lst (K.map kD)), x1, .ow none (.lst []), .un, .un, .un, .un, .un] : Loc) = S2 m n ds1 P1 K [] x1 .un .un .un .un .un from rfl, q2]
  simp [S2, oTup, scD]
end
end K01

set_option linter.all false
set_option maxRecDepth 10000
set_option maxHeartbeats 1000000
namespace K01
open Ml
section
variable {ns : List Int}
def txsB (l : List (List Nat)) : Bool := l.all fun s => decide (s.length ≤ 1000) && s.all fun c => decide (c < 1114112)
theorem txsB_ok {l : List (List Nat)} (h : txsB l = true) : ∀ s ∈ l, tx s := fun s hs => tx_of (List.all_eq_true.mp h s hs)
def odds : List (List Nat) := [t39, t38, t37, t36, t2, t35, t34, t15, t33, t14, t8, [122, 122, 122, 122, 122, 122, 122, 122, 122], t31]
theorem odd_ok {ds : List Dv} {xs : List (List Nat)} (hd : Dr ns ds) (hx : ∀ s ∈ xs, tx s) (hl : xs.length ≤ 1000) :
    ∃ s ds', F__law_odd_name [.ow none (.lst ds), .fz (.lst (xs.map .str))] = .ok (.fz (.str s)) [.lst ds'] ∧ tx s ∧ Dr ns ds' := by
  have ho : ∀ s ∈ odds, tx s := txsB_ok (by decide)
  have hrep : oRepS (.str t32) (.int 9) = some (.str [122, 122, 122, 122, 122, 122, 122, 122, 122]) := by rfl
  -- the last pick
  have last : ∀ ds, Dr ns ds → ∃ s ds', mCallD F__law_pick [.own 0, .val (mVar 2)] [.ow (some 0) (.lst ds), .fz (.lst (xs.map .str)), .fz (.lst (odds.map .str))] = .ok (.str s) [.ow (some 0) (.lst ds'), .fz (.lst (xs.map .str)), .fz (.lst (odds.map .str))] ∧ tx s ∧ Dr ns ds' := by
    intro ds hd
    obtain ⟨x, ds', h, hx, hd'⟩ := cpick (ns := ns) (ds := ds) (e := [.ow (some 0) (.lst ds), .fz (.lst (xs.map .str)), .fz (.lst (odds.map .str))]) (i := 0) (j := some 0) (ma := mVar 2) (xs := odds.map .str) hd rfl rfl (by simp [odds]) (by simp [odds])
    obtain ⟨s, hs, rfl⟩ := List.mem_map.mp hx
    exact ⟨s, ds', h, ho s hs, hd'⟩
  have key : ∃ s ds', m__law_odd_name [.ow (some 0) (.lst ds), .fz (.lst (xs.map .str)), .un] = .rt (.fz (.str s)) [.ow (some 0) (.lst ds'), .fz (.lst (xs.map .str)), .fz (.lst (odds.map .str))] ∧ tx s ∧ Dr ns ds' := by
    have step : ∀ b : MS, (sSeq (sSet (mFz (mLst [(mC (.str t39)), (mC (.str t38)), (mC (.str t37)), (mC (.str t36)), (mC (.str t2)), (mC (.str t35)), (mC (.str t34)), (mC (.str t15)), (mC (.str t33)), (mC (.str t14)), (mC (.str t8)), (mO2 oRepS (mC (.str t32)) (mC (.int 9))), (mC (.str t31))])) (gN 2)) b) [.ow (some 0) (.lst ds), .fz (.lst (xs.map .str)), .un] = b [.ow (some 0) (.lst ds), .fz (.lst (xs.map .str)), .fz (.lst (odds.map .str))] := by
      intro b; simp [hrep, odds]
    unfold m__law_odd_name
    rw [step]
    have hlen : oLen (.lst (xs.map Dv.str)) = some (.int xs.length) := by simp [oLen]
    by_cases c : 0 < xs.length
    · obtain ⟨k, ds1, h1, _, _, hd1⟩ := cdraw (ns := ns) (ds := ds) (e := [.ow (some 0) (.lst ds), .fz (.lst (xs.map .str)), .fz (.lst (odds.map .str))]) (i := 0) (j := some 0) (ma := mC (.int 2)) (m := 2) hd rfl rfl (by omega) (by omega)
      have c' : (0 : Int) < xs.length := by omega
      by_cases c2 : k = 1
      · obtain ⟨x, ds', h, hxx, hd'⟩ := cpick (ns := ns) (ds := ds1) (e := [.ow (some 0) (.lst ds1), .fz (.lst (xs.map .str)), .fz (.lst (odds.map .str))]) (i := 0) (j := some 0) (ma := mVar 1) (xs := xs.map .str) hd1 rfl rfl (by cases xs <;> simp at c ⊢) (by simp; omega)
        obtain ⟨s, hs, rfl⟩ := List.mem_map.mp hxx
        refine ⟨s, ds', ?_, hx s hs, hd'⟩
        simp [hlen, oGt, c, c', h1, oEq, eqS, c2, h, -ev_callD]
      · obtain ⟨s, ds', h, hs, hd'⟩ := last ds1 hd1
        refine ⟨s, ds', ?_, hs, hd'⟩
        simp [hlen, oGt, c, c', h1, oEq, eqS, c2, h, -ev_callD]
    · obtain ⟨s, ds', h, hs, hd'⟩ := last ds hd
      have c' : ¬ (0 : Int) < xs.length := by omega
      refine ⟨s, ds', ?_, hs, hd'⟩
      simp [hlen, oGt, c, c', h, -ev_callD]
  obtain ⟨s, ds', h, hs, hd'⟩ := key
  exact ⟨s, ds', fn_ok rfl rfl h rfl, hs, hd'⟩
theorem codd {ds : List Dv} {e : Loc} {i : Nat} {j : Option Nat} {ma : ME Dv} {xs : List (List Nat)} (hd : Dr ns ds) (he : e[i]? = some (.ow j (.lst ds))) (hm : ma e = .ok (.lst (xs.map .str)) e) (hx : ∀ s ∈ xs, tx s) (hl : xs.length ≤ 1000) :
    ∃ s ds', mCallD F__law_odd_name [.own i, .val ma] e = .ok (.str s) (e.set i (.ow j (.lst ds'))) ∧ tx s ∧ Dr ns ds' := by
  obtain ⟨s, ds', h, hs, hd'⟩ := odd_ok hd hx hl
  exact ⟨s, ds', call_2 he hm he h, hs, hd'⟩
/-! names_right -/
theorem names_right_ok {ds : List Dv} (hd : Dr ns ds) : ∃ ds', F__law_names_right [.ow none (.lst ds)] = .ok (.fz (.bl true)) [.lst ds'] ∧ Dr ns ds' := by
  let X : List (List Nat) := [t54, t53, t52, t51, t50, t49, t48, t47]
  let Y : List (List Nat) := [t39, t56, t29, t55]
  have hX : ∀ s ∈ X, s.length ≤ 8 := by decide
  have hY : ∀ s ∈ Y, s.length ≤ 1 := by decide
  obtain ⟨s1, ds1, h1, hs1, hd1⟩ := codd (ns := ns) (ds := ds) (e := [.ow (some 0) (.lst ds), .fz (.lst (X.map .str)), .un, .un]) (i := 0) (j := some 0) (ma := mFz (mLst [])) (xs := []) hd rfl rfl (by simp) (by simp)
  obtain ⟨x2, ds2, h2, hx2, hd2⟩ := cpick (ns := ns) (ds := ds1) (e := [.ow (some 0) (.lst ds1), .fz (.lst (X.map .str)), .un, .un]) (i := 0) (j := some 0) (ma := mVar 1) (xs := X.map .str) hd1 rfl rfl (by simp [X]) (by simp [X])
  obtain ⟨s2, hs2, rfl⟩ := List.mem_map.mp hx2
  obtain ⟨x3, ds3, h3, hx3, hd3⟩ := cpick (ns := ns) (ds := ds2) (e := [.ow (some 0) (.lst ds2), .fz (.lst (X.map .str)), .un, .un]) (i := 0) (j := some 0) (ma := mVar 1) (xs := X.map .str) hd2 rfl rfl (by simp [X]) (by simp [X])
  obtain ⟨s3, hs3, rfl⟩ := List.mem_map.mp hx3
  obtain ⟨x4, ds4, h4, hx4, hd4⟩ := cpick (ns := ns) (ds := ds3) (e := [.ow (some 0) (.lst ds3), .fz (.lst (X.map .str)), .un, .un]) (i := 0) (j := some 0) (ma := mFz (mLst [(mC (.str t39)), (mC (.str t56)), (mC (.str t29)), (mC (.str t55))])) (xs := Y.map .str) hd3 rfl rfl (by simp [Y]) (by simp [Y])
  obtain ⟨s4, hs4, rfl⟩ := List.mem_map.mp hx4
  have l2 := hX s2 hs2
  have l3 := hX s3 hs3
  have l4 := hY s4 hs4
  have hadd : oAdd (.str s3) (.str s4) = some (.str (s3 ++ s4)) := by
    simp only [oAdd]; rw [if_pos (by have := limv; omega)]
  have hT : ∀ s ∈ [s1, s2, s3 ++ s4], s.length ≤ 1000 := by
    intro s hs
    simp only [List.mem_cons, List.not_mem_nil, or_false] at hs
    rcases hs with rfl | rfl | rfl
    · exact hs1.1
    · omega
    · simp; omega
  obtain ⟨e', q, x, y, rfl, _, _⟩ := loop_nx (g := gN 2) (b := (sSeq (sSet (mCallD F_is_name [.val (mVar 2)]) (gN 3))
  (sIf (mOr (mTest (mO2 oNe (mVar 3) (mCallD F__law_name_good [.val (mVar 2)]))) (mNot (mTruth (mO1 oIsB (mVar 3)))))
  (sRet (mC (.bl false)))
  sNil))) (I := fun e => ∃ x y, e = [.ow (some 0) (.lst ds4), .fz (.lst (X.map .str)), x, y] ∧ free (some x) = true ∧ free (some y) = true) (ds := [s1, s2, s3 ++ s4].map .str) (e := [.ow (some 0) (.lst ds4), .fz (.lst (X.map .str)), .un, .un]) ⟨.un, .un, rfl, rfl, rfl⟩
    (fun d hd e he => by
      obtain ⟨x, y, rfl, hx, hy⟩ := he
      obtain ⟨s, hs, rfl⟩ := List.mem_map.mp hd
      have a := is_name_ok (hT s hs)
      have b := name_good_ok (hT s hs)
      have hne : oNe (.bl (isName s)) (.bl (isName s)) = some (.bl false) := by simp [oNe, eqS]
      refine ⟨[.ow (some 0) (.lst ds4), .fz (.lst (X.map .str)), .fz (.str s), y], [.ow (some 0) (.lst ds4), .fz (.lst (X.map .str)), .fz (.str s), .fz (.bl (isName s))], by simp [hx], ?_, ⟨_, _, rfl, rfl, rfl⟩⟩
      simp [a, b, hy, hne, oIsB, truthD])
  refine ⟨ds4, ?_, hd4⟩
  refine fn_ok rfl rfl (e := [.ow (some 0) (.lst ds4), .fz (.lst (X.map .str)), x, y]) ?_ rfl
  show m__law_names_right [.ow (some 0) (.lst ds), .un, .un, .un] = _
  have step : ∀ b : MS, (sSeq (sSet (mFz (mLst [(mC (.str t54)), (mC (.str t53)), (mC (.str t52)), (mC (.str t51)), (mC (.str t50)), (mC (.str t49)), (mC (.str t48)), (mC (.str t47))])) (gN 1)) b) [.ow (some 0) (.lst ds), .un, .un, .un] = b [.ow (some 0) (.lst ds), .fz (.lst (X.map .str)), .un, .un] := by
    intro b; simp [X]
  unfold m__law_names_right
  rw [step, ev_seq, ev_for, ev_it, ev_fz, ev_lst]
  simp only [List.set_cons_zero] at h1 h2 h3 h4
  simp only [ev_args1, ev_args0, h1, h2, h3, h4, ev_O2, Rs.bind_ok, hadd, Rs.of_some, List.length_cons, List.length_nil, ev_toD, itL]
  simp only [Nat.reduceAdd, Nat.reduceLeDiff, if_true, Rs.bind_ok, ev_toD, itL, Rs.of_some, Rs.go_ok]
  rw [show ([.str s1, .str s2, .str (s3 ++ s4)] : List Dv) = [s1, s2, s3 ++ s4].map .str from rfl, q]
  rfl
end
end K01

set_option linter.all false
set_option maxRecDepth 10000
set_option maxHeartbeats 1000000
namespace Ml
theorem lcO_mapA {α : Type} {i : Nat} {j : Option Nat} {g : MG} {t : ME Bool} {m : ME Dv} {vs : List Nat} {h f : α → Dv} {e : Loc} {L : List α} (he : e[i]? = some (.ow j (.lst (L.map h))))
    (hh : ∀ x ∈ L, ∃ e2 e3, g (h x) e = some e2 ∧ t e2 = .ok true e2 ∧ m e2 = .ok (f x) e3 ∧ wipeE e3 vs = e) :
    ∀ {n k : Nat} {acc : List Dv}, k ≤ L.length → L.length < n + k → acc.length + (L.length - k) ≤ lim → lcGoO i g t m vs n k acc e = some (acc ++ (L.drop k).map f, e)
  | 0, k, acc, hk, hn, hl => by omega
  | n + 1, k, acc, hk, hn, hl => by
    unfold lcGoO
    rw [he]
    simp only [List.getElem?_map]
    by_cases c : k < L.length
    · obtain ⟨e2, e3, h1, h2, h3, h4⟩ := hh _ (List.getElem_mem c)
      have hlt : acc.length < lim := by omega
      simp only [List.getElem?_eq_getElem c, Option.map_some, h1, h2, h3, hlt, if_true, h4]
      rw [lcO_mapA he hh (n := n) (k := k + 1) c (by omega) (by simp; omega)]
      rw [List.drop_eq_getElem_cons c, List.map_cons, List.append_assoc]
      rfl
    · rw [List.getElem?_eq_none (by omega)]
      simp only [Option.map_none]
      rw [List.drop_eq_nil_of_le (by omega)]
      simp
theorem mlcO_mapA {α : Type} {i : Nat} {j : Option Nat} {g : MG} {t : ME Bool} {m : ME Dv} {vs : List Nat} {h f : α → Dv} {e : Loc} {L : List α} (he : (wipeE e vs)[i]? = some (.ow j (.lst (L.map h)))) (ho : isOw e[i]? = true) (hn : noOw e vs = true) (hl : L.length < lim)
    (hh : ∀ x ∈ L, ∃ e2 e3, g (h x) (wipeE e vs) = some e2 ∧ t e2 = .ok true e2 ∧ m e2 = .ok (f x) e3 ∧ wipeE e3 vs = wipeE e vs)
    (hb : backE e (wipeE e vs) vs = e) : mLcO i g t m vs e = .ok (.lst (L.map f)) e := by
  unfold mLcO
  rw [if_pos ⟨ho, hn⟩, lcO_mapA he hh (by omega) (by omega) (by simp; omega)]
  simp [hb]
end Ml
set_option exponentiation.threshold 1000
namespace K01
open Ml
section
variable {ns : List Int}
def EF (w : Int) (nm : List (List Nat)) (a t : Nat) (row : Lb) (ds : List Dv) (K : List Kd) (L : List Lb) (x : Slt) : Loc :=
  [.ow (some 0) (.lst ds), .ow (some 1) (.lst (K.map kD)), .ow (some 2) (.lst (L.map lD)), .fz (.int w), .fz (.lst (nm.map .str)), .fz (.int a), .fz (.int t), .fz (lD row), x]
def IF (ns : List Int) (w : Int) (nm : List (List Nat)) (a t : Nat) (row : Lb) (A B : Nat) (e : Loc) : Prop :=
  ∃ ds K L x, e = EF w nm a t row ds K L x ∧ free (some x) = true ∧ Dr ns ds ∧ (∀ k ∈ K, tx k.1) ∧ (∀ l ∈ L, tx l.n) ∧ a < K.length ∧ t < L.length ∧ K.length ≤ A ∧ L.length ≤ B
section
variable {w : Int} {nm : List (List Nat)} {a t : Nat} {row : Lb} {A B : Nat}
theorem IF.le {A' B' : Nat} {e : Loc} (h : IF ns w nm a t row A B e) (hA : A ≤ A') (hB : B ≤ B') : IF ns w nm a t row A' B' e := by
  obtain ⟨ds, K, L, x, h1, h2, h3, h4, h5, h6, h7, h8, h9⟩ := h
  exact ⟨ds, K, L, x, h1, h2, h3, h4, h5, h6, h7, by omega, by omega⟩
theorem put_K {ds ds' : List Dv} {K : List Kd} {L : List Lb} {x : Slt} {m : ME Dv} {k : Kd} (hm : m (EF w nm a t row ds K L x) = .ok (kD k) (EF w nm a t row ds' K L x)) (hx : free (some x) = true) (hd : Dr ns ds') (hk : tx k.1)
    (hK : ∀ k ∈ K, tx k.1) (hL : ∀ l ∈ L, tx l.n) (ha : a < K.length) (ht : t < L.length) (hA : K.length ≤ A) (hB : L.length ≤ B) : ∃ e', sPut 1 (mVar 5) m (EF w nm a t row ds K L x) = .nx e' ∧ IF ns w nm a t row A B e' := by
  refine ⟨EF w nm a t row ds' (K.set a k) L x, ?_, ds', K.set a k, L, x, rfl, hx, hd, ?_, hL, by simpa using ha, ht, by simpa using hA, hB⟩
  · unfold sPut
    rw [hm]
    have : ixn (K.map kD).length (a : Int) = some a := by simp [ixn, ha]
    simp [EF, isOw, ixn, ha]
  · intro y hy
    rcases List.mem_or_eq_of_mem_set hy with hy | rfl
    · exact hK y hy
    · exact hk
theorem put_L {ds ds' : List Dv} {K : List Kd} {L : List Lb} {x : Slt} {m : ME Dv} {k : Lb} (hm : m (EF w nm a t row ds K L x) = .ok (lD k) (EF w nm a t row ds' K L x)) (hx : free (some x) = true) (hd : Dr ns ds') (hk : tx k.n)
    (hK : ∀ k ∈ K, tx k.1) (hL : ∀ l ∈ L, tx l.n) (ha : a < K.length) (ht : t < L.length) (hA : K.length ≤ A) (hB : L.length ≤ B) : ∃ e', sPut 2 (mVar 6) m (EF w nm a t row ds K L x) = .nx e' ∧ IF ns w nm a t row A B e' := by
  refine ⟨EF w nm a t row ds' K (L.set t k) x, ?_, ds', K, L.set t k, x, rfl, hx, hd, hK, ?_, ha, by simpa using ht, hA, by simpa using hB⟩
  · unfold sPut
    rw [hm]
    simp [EF, isOw, ixn, ht]
  · intro y hy
    rcases List.mem_or_eq_of_mem_set hy with hy | rfl
    · exact hL y hy
    · exact hk
theorem ownK {ds : List Dv} {K : List Kd} {L : List Lb} {x : Slt} (ha : a < K.length) : mOwn2 1 wIx (mVar 5) (EF w nm a t row ds K L x) = .ok (kD K[a]) (EF w nm a t row ds K L x) := by
  have : getI (K.map kD) (a : Int) = some (kD K[a]) := by rw [getI_of (by simpa using ha)]; simp
  simp [EF, wIx, this]
/-- one of the ways -/
theorem way_if {e : Loc} {A' B' : Nat} {n : Int} {act : MS} (h : IF ns w nm a t row A B e) (hA : A ≤ A') (hB : B ≤ B')
    (hs : ∀ ds K L x, free (some x) = true → Dr ns ds → (∀ k ∈ K, tx k.1) → (∀ l ∈ L, tx l.n) → a < K.length → t < L.length → K.length ≤ A → L.length ≤ B → ∃ e', act (EF w nm a t row ds K L x) = .nx e' ∧ IF ns w nm a t row A' B' e') :
    ∃ e', sIf (mTest (mO2 oEq (mVar 3) (mC (.int n)))) act sNil e = .nx e' ∧ IF ns w nm a t row A' B' e' := by
  have h0 := h
  obtain ⟨ds, K, L, x, rfl, h2, h3, h4, h5, h6, h7, h8, h9⟩ := h
  refine nx_if (x := decide (w = n)) (e1 := EF w nm a t row ds K L x) (by simp [EF, oEq, eqS]) (fun _ => hs ds K L x h2 h3 h4 h5 h6 h7 h8 h9) (fun _ => nx_nil (h0.le hA hB))
theorem cpickI {ds : List Dv} {e : Loc} {i : Nat} {j : Option Nat} {ma : ME Dv} {xs : List Int} (hd : Dr ns ds) (he : e[i]? = some (.ow j (.lst ds))) (hm : ma e = .ok (.lst (xs.map .int)) e) (h1 : xs ≠ []) (h2 : xs.length < 1000) :
    ∃ x ds', mCallD F__law_pick [.own i, .val ma] e = .ok (.int x) (e.set i (.ow j (.lst ds'))) ∧ x ∈ xs ∧ Dr ns ds' := by
  obtain ⟨x, ds', h, hx, hd'⟩ := cpick hd he hm (by cases xs <;> simp at h1 ⊢) (by simp; omega)
  obtain ⟨s, hs, rfl⟩ := List.mem_map.mp hx
  exact ⟨s, ds', h, hs, hd'⟩
theorem cpickS {ds : List Dv} {e : Loc} {i : Nat} {j : Option Nat} {ma : ME Dv} {xs : List (List Nat)} (hd : Dr ns ds) (he : e[i]? = some (.ow j (.lst ds))) (hm : ma e = .ok (.lst (xs.map .str)) e) (h1 : xs ≠ []) (h2 : xs.length < 1000) :
    ∃ x ds', mCallD F__law_pick [.own i, .val ma] e = .ok (.str x) (e.set i (.ow j (.lst ds'))) ∧ x ∈ xs ∧ Dr ns ds' := by
  obtain ⟨x, ds', h, hx, hd'⟩ := cpick hd he hm (by cases xs <;> simp at h1 ⊢) (by simp; omega)
  obtain ⟨s, hs, rfl⟩ := List.mem_map.mp hx
  exact ⟨s, ds', h, hs, hd'⟩
def wayBody : MS := (sSeq (sIf (mTest (mO2 oEq (mVar 3) (mC (.int 0))))
  (sPut 1 (mVar 5) (mTup [(mCallD F__law_odd_name [.own 0, .val (mVar 4)]), (mO2 oIx (mOwn2 1 wIx (mVar 5)) (mC (.int 1)))]))
  sNil)
  (sSeq (sIf (mTest (mO2 oEq (mVar 3) (mC (.int 1))))
  (sPut 2 (mVar 6) (mO2 oCatT (mTup [(mCallD F__law_odd_name [.own 0, .val (mVar 4)])]) (mSl slT (mVar 7) (some (mC (.int 1))) none)))
  sNil)
  (sSeq (sIf (mTest (mO2 oEq (mVar 3) (mC (.int 2))))
  (sPut 1 (mVar 5) (mTup [(mO2 oIx (mOwn2 1 wIx (mVar 5)) (mC (.int 0))), (mCallD F__law_pick [.own 0, .val (mFz (mLst [(mO1 oNeg (mC (.int 1))), (mC (.int 25)), (mC (.int 30)), (mO1 oNeg (mC (.int 7))), (mC (.int 24))]))])]))
  sNil)
  (sSeq (sIf (mTest (mO2 oEq (mVar 3) (mC (.int 3))))
  (sPut 2 (mVar 6) (mO2 oCatT (mTup [(mO2 oIx (mVar 7) (mC (.int 0))), (mCallD F__law_pick [.own 0, .val (mFz (mLst [(mO1 oNeg (mC (.int 1))), (mOwn 1 wLen), (mC (.int 6)), (mC (.int 9))]))])]) (mSl slT (mVar 7) (some (mC (.int 2))) none)))
  sNil)
  (sSeq (sIf (mTest (mO2 oEq (mVar 3) (mC (.int 4))))
  (sPut 2 (mVar 6) (mO2 oCatT (mO2 oCatT (mSl slT (mVar 7) none (some (mC (.int 2)))) (mTup [(mCallD F__law_pick [.own 0, .val (mFz (mLst [(mO1 oNeg (mC (.int 1))), (mOwn 1 wLen), (mC (.int 7))]))])])) (mSl slT (mVar 7) (some (mC (.int 3))) none)))
  sNil)
  (sSeq (sIf (mTest (mO2 oEq (mVar 3) (mC (.int 5))))
  (sPut 2 (mVar 6) (mO2 oCatT (mSl slT (mVar 7) none (some (mC (.int 3)))) (mTup [(mCallD F__law_pick [.own 0, .val (mFz (mLst [(mO1 oNeg (mC (.int 1))), (mC (.int 10)), (mC (.int 9)), (mC (.int 0)), (mC (.int 100))]))]), (mO2 oIx (mVar 7) (mC (.int 4)))])))
  sNil)
  (sSeq (sIf (mTest (mO2 oEq (mVar 3) (mC (.int 6))))
  (sPut 2 (mVar 6) (mO2 oCatT (mSl slT (mVar 7) none (some (mC (.int 4)))) (mTup [(mCallD F__law_pick [.own 0, .val (mFz (mLst [(mC (.str t42)), (mC (.str t39)), (mC (.str t41)), (mC (.str t6)), (mC (.str t5))]))])])))
  sNil)
  (sSeq (sIf (mTest (mO2 oEq (mVar 3) (mC (.int 7))))
  (sFor (mRg1 (mC (.int 7))) (gN 8)
  (sApp 1 (mTup [(mO2 oAdd (mO2 oAdd (mC (.str t43)) (mO1 oStr (mVar 8))) (mC (.str t44))), (mC (.int 1))])))
  sNil)
  (sSeq (sIf (mTest (mO2 oEq (mVar 3) (mC (.int 8))))
  (sFor (mRg1 (mC (.int 13))) (gN 8)
  (sApp 2 (mTup [(mO2 oAdd (mO2 oAdd (mC (.str t45)) (mO1 oStr (mVar 8))) (mC (.str t44))), (mC (.int 0)), (mC (.int 0)), (mC (.int 1)), (mC (.str t4))])))
  sNil)
  (sIf (mTest (mO2 oEq (mVar 3) (mC (.int 9))))
  (sPut 1 (mVar 5) (mTup [(mO2 oIx (mOwn2 1 wIx (mVar 5)) (mC (.int 0))), (mCallD F__law_pick [.own 0, .val (mFz (mLst [(mC (.int 24)), (mC (.int 20)), (mC (.int 12))]))])]))
  sNil))))))))))
theorem way_ok {e : Loc} (h : IF ns w nm a t row A B e) (hnm : ∀ s ∈ nm, tx s) (hnl : nm.length ≤ 1000) (hrow : tx row.n) (hA : A ≤ 100) (hB : B ≤ 100) : ∃ e', wayBody e = .nx e' ∧ IF ns w nm a t row (A + 7) (B + 13) e' := by
  have hlim := limv
  unfold wayBody
  -- 0
  refine nx_seqP (way_if h (Nat.le_refl _) (Nat.le_refl _) fun ds K L x hx hd hK hL ha ht h1 h2 => ?_) fun e h => ?_
  · obtain ⟨s, ds', q, hs, hd'⟩ := codd (ns := ns) (ds := ds) (e := EF w nm a t row ds K L x) (i := 0) (j := some 0) (ma := mVar 4) (xs := nm) hd rfl rfl hnm hnl
    refine put_K (ds' := ds') (k := (s, K[a].2)) ?_ hx hd' hs hK hL ha ht h1 h2
    have : (EF w nm a t row ds K L x).set 0 (.ow (some 0) (.lst ds')) = EF w nm a t row ds' K L x := rfl
    rw [this] at q
    have o := ownK (w := w) (nm := nm) (t := t) (row := row) (ds := ds') (L := L) (x := x) ha
    have g1 : oIx (kD K[a]) (.int 1) = some (.int K[a].2) := rfl
    simp only [ev_tup, ev_args1, ev_args0, q, Rs.bind_ok, mO2, o, mC, g1, Rs.of_some, List.length_cons, List.length_nil]
    rfl
  -- 1
  refine nx_seqP (way_if h (Nat.le_refl _) (Nat.le_refl _) fun ds K L x hx hd hK hL ha ht h1 h2 => ?_) fun e h => ?_
  · obtain ⟨s, ds', q, hs, hd'⟩ := codd (ns := ns) (ds := ds) (e := EF w nm a t row ds K L x) (i := 0) (j := some 0) (ma := mVar 4) (xs := nm) hd rfl rfl hnm hnl
    refine put_L (ds' := ds') (k := ⟨s, row.s, row.t, row.p, row.r⟩) ?_ hx hd' hs hK hL ha ht h1 h2
    have : (EF w nm a t row ds K L x).set 0 (.ow (some 0) (.lst ds')) = EF w nm a t row ds' K L x := rfl
    rw [this] at q
    simp only [ev_tup, ev_args1, ev_args0, q, Rs.bind_ok, mO2, List.length_cons, List.length_nil]
    rfl
  -- 2
  refine nx_seqP (way_if h (Nat.le_refl _) (Nat.le_refl _) fun ds K L x hx hd hK hL ha ht h1 h2 => ?_) fun e h => ?_
  · obtain ⟨s, ds', q, hs, hd'⟩ := cpickI (ns := ns) (ds := ds) (e := EF w nm a t row ds K L x) (i := 0) (j := some 0) (ma := mFz (mLst [(mO1 oNeg (mC (.int 1))), (mC (.int 25)), (mC (.int 30)), (mO1 oNeg (mC (.int 7))), (mC (.int 24))])) (xs := [-1, 25, 30, -7, 24]) hd rfl rfl (by simp) (by simp)
    refine put_K (ds' := ds') (k := (K[a].1, s)) ?_ hx hd' (show tx K[a].1 from hK _ (List.getElem_mem ha)) hK hL ha ht h1 h2
    have : (EF w nm a t row ds K L x).set 0 (.ow (some 0) (.lst ds')) = EF w nm a t row ds' K L x := rfl
    rw [this] at q
    have o := ownK (w := w) (nm := nm) (t := t) (row := row) (ds := ds) (L := L) (x := x) ha
    have g1 : oIx (kD K[a]) (.int 0) = some (.str K[a].1) := rfl
    simp only [ev_tup, ev_args1, ev_args0, Rs.bind_ok, mO2, o, g1, Rs.of_some]
    rw [show mC (.int 0) (EF w nm a t row ds K L x) = .ok (.int 0) (EF w nm a t row ds K L x) from rfl]
    simp only [Rs.bind_ok, g1, Rs.of_some, q, List.length_cons, List.length_nil]
    rfl
  -- 3
  refine nx_seqP (way_if h (Nat.le_refl _) (Nat.le_refl _) fun ds K L x hx hd hK hL ha ht h1 h2 => ?_) fun e h => ?_
  · obtain ⟨s, ds', q, hs, hd'⟩ := cpickI (ns := ns) (ds := ds) (e := EF w nm a t row ds K L x) (i := 0) (j := some 0) (ma := mFz (mLst [(mO1 oNeg (mC (.int 1))), (mOwn 1 wLen), (mC (.int 6)), (mC (.int 9))])) (xs := [-1, K.length, 6, 9]) hd rfl (by simp [EF, oNeg, wLen]) (by simp) (by simp)
    refine put_L (ds' := ds') (k := ⟨row.n, s, row.t, row.p, row.r⟩) ?_ hx hd' hrow hK hL ha ht h1 h2
    have : (EF w nm a t row ds K L x).set 0 (.ow (some 0) (.lst ds')) = EF w nm a t row ds' K L x := rfl
    rw [this] at q
    have g : mO2 oIx (mVar 7) (mC (.int 0)) (EF w nm a t row ds K L x) = .ok (.str row.n) (EF w nm a t row ds K L x) := rfl
    rw [ev_O2]
    simp only [ev_tup, ev_args1, ev_args0, g, q, Rs.bind_ok, List.length_cons, List.length_nil]
    rfl
  -- 4
  refine nx_seqP (way_if h (Nat.le_refl _) (Nat.le_refl _) fun ds K L x hx hd hK hL ha ht h1 h2 => ?_) fun e h => ?_
  · obtain ⟨s, ds', q, hs, hd'⟩ := cpickI (ns := ns) (ds := ds) (e := EF w nm a t row ds K L x) (i := 0) (j := some 0) (ma := mFz (mLst [(mO1 oNeg (mC (.int 1))), (mOwn 1 wLen), (mC (.int 7))])) (xs := [-1, K.length, 7]) hd rfl (by simp [EF, oNeg, wLen]) (by simp) (by simp)
    refine put_L (ds' := ds') (k := ⟨row.n, row.s, s, row.p, row.r⟩) ?_ hx hd' hrow hK hL ha ht h1 h2
    have : (EF w nm a t row ds K L x).set 0 (.ow (some 0) (.lst ds')) = EF w nm a t row ds' K L x := rfl
    rw [this] at q
    have g : mSl slT (mVar 7) none (some (mC (.int 2))) (EF w nm a t row ds K L x) = .ok (.tup [.str row.n, .int row.s]) (EF w nm a t row ds K L x) := rfl
    rw [ev_O2, ev_O2, g]
    simp only [ev_tup, ev_args1, ev_args0, q, Rs.bind_ok, List.length_cons, List.length_nil]
    rfl
  -- 5
  refine nx_seqP (way_if h (Nat.le_refl _) (Nat.le_refl _) fun ds K L x hx hd hK hL ha ht h1 h2 => ?_) fun e h => ?_
  · obtain ⟨s, ds', q, hs, hd'⟩ := cpickI (ns := ns) (ds := ds) (e := EF w nm a t row ds K L x) (i := 0) (j := some 0) (ma := mFz (mLst [(mO1 oNeg (mC (.int 1))), (mC (.int 10)), (mC (.int 9)), (mC (.int 0)), (mC (.int 100))])) (xs := [-1, 10, 9, 0, 100]) hd rfl rfl (by simp) (by simp)
    refine put_L (ds' := ds') (k := ⟨row.n, row.s, row.t, s, row.r⟩) ?_ hx hd' hrow hK hL ha ht h1 h2
    have : (EF w nm a t row ds K L x).set 0 (.ow (some 0) (.lst ds')) = EF w nm a t row ds' K L x := rfl
    rw [this] at q
    have g : mSl slT (mVar 7) none (some (mC (.int 3))) (EF w nm a t row ds K L x) = .ok (.tup [.str row.n, .int row.s, .int row.t]) (EF w nm a t row ds K L x) := rfl
    rw [ev_O2, g]
    simp only [ev_tup, ev_args1, ev_args0, q, Rs.bind_ok, List.length_cons, List.length_nil]
    rfl
  -- 6
  refine nx_seqP (way_if h (Nat.le_refl _) (Nat.le_refl _) fun ds K L x hx hd hK hL ha ht h1 h2 => ?_) fun e h => ?_
  · obtain ⟨s, ds', q, hs, hd'⟩ := cpickS (ns := ns) (ds := ds) (e := EF w nm a t row ds K L x) (i := 0) (j := some 0) (ma := mFz (mLst [(mC (.str t42)), (mC (.str t39)), (mC (.str t41)), (mC (.str t6)), (mC (.str t5))])) (xs := [t42, t39, t41, t6, t5]) hd rfl rfl (by simp) (by simp)
    refine put_L (ds' := ds') (k := ⟨row.n, row.s, row.t, row.p, s⟩) ?_ hx hd' hrow hK hL ha ht h1 h2
    have : (EF w nm a t row ds K L x).set 0 (.ow (some 0) (.lst ds')) = EF w nm a t row ds' K L x := rfl
    rw [this] at q
    have g : mSl slT (mVar 7) none (some (mC (.int 4))) (EF w nm a t row ds K L x) = .ok (.tup [.str row.n, .int row.s, .int row.t, .int row.p]) (EF w nm a t row ds K L x) := rfl
    rw [ev_O2, g]
    simp only [ev_tup, ev_args1, ev_args0, q, Rs.bind_ok, List.length_cons, List.length_nil]
    rfl
  -- 7
  refine nx_seqP (way_if (A' := A + 7) (B' := B) h (by omega) (Nat.le_refl _) fun ds K L x hx hd hK hL ha ht h1 h2 => ?_) fun e h => ?_
  · have hr : mRg1 (mC (.int 7)) (EF w nm a t row ds K L x) = .ok ((List.range 7).map fun (j : Nat) => Dv.int (j : Int)) (EF w nm a t row ds K L x) := by
      simp only [ev_rg1, ev_C, Rs.bind_ok]
      rw [show itR 0 7 = some ((List.range 7).map fun (j : Nat) => Dv.int (j : Int)) from itR_nat (n := 7) (by omega)]; rfl
    obtain ⟨e', q, K', x', rfl, hx', hl', hK'⟩ := loop_inv (g := gN 8) (b := (sApp 1 (mTup [(mO2 oAdd (mO2 oAdd (mC (.str t43)) (mO1 oStr (mVar 8))) (mC (.str t44))), (mC (.int 1))]))) (ds := (List.range 7).map fun (j : Nat) => Dv.int (j : Int)) (e := EF w nm a t row ds K L x)
      (fun k e => ∃ K' x', e = EF w nm a t row ds K' L x' ∧ free (some x') = true ∧ K'.length = K.length + k ∧ ∀ k ∈ K', tx k.1) ⟨K, x, rfl, hx, rfl, hK⟩
      (fun k d e hk he => by
        obtain ⟨K', x', rfl, hx', hl', hK'⟩ := he
        have hd : d = .int k ∧ k < 7 := by
          rw [List.getElem?_map] at hk
          obtain ⟨j, hj, rfl⟩ := Option.map_eq_some_iff.mp hk
          obtain ⟨hj2, rfl⟩ := List.getElem?_eq_some_iff.mp hj
          exact ⟨by simp, by simpa using hj2⟩
        obtain ⟨rfl, hk7⟩ := hd
        have hs : ∃ s, (mO2 oAdd (mO2 oAdd (mC (.str t43)) (mO1 oStr (mVar 8))) (mC (.str t44))) (EF w nm a t row ds K' L (.fz (.int k))) = .ok (.str s) (EF w nm a t row ds K' L (.fz (.int k))) ∧ tx s := by
          have : k = 0 ∨ k = 1 ∨ k = 2 ∨ k = 3 ∨ k = 4 ∨ k = 5 ∨ k = 6 := by omega
          rcases this with rfl | rfl | rfl | rfl | rfl | rfl | rfl <;> exact ⟨_, rfl, tx_of (by decide)⟩
        obtain ⟨s, hs, hts⟩ := hs
        refine ⟨EF w nm a t row ds K' L (.fz (.int k)), EF w nm a t row ds (K' ++ [(s, 1)]) L (.fz (.int k)), by simp [EF, hx'], .inl ?_, _, _, rfl, rfl, by simp [hl']; omega, ?_⟩
        · have hll : K'.length < lim := by omega
          rw [ev_app, if_pos (by rfl)]
          simp only [ev_tup, ev_args1, ev_args0, hs, Rs.bind_ok]
          simp [EF, hll, kD]
        · intro y hy
          rcases List.mem_append.mp hy with hy | hy
          · exact hK' y hy
          · simp only [List.mem_singleton] at hy; subst hy; exact hts)
    simp only [List.length_map, List.length_range] at hl'
    exact ⟨_, (for_ok hr).trans q, ds, K', L, x', rfl, hx', hd, hK', hL, by omega, ht, by omega, by omega⟩
  -- 8
  refine nx_seqP (way_if (A' := A + 7) (B' := B + 13) h (by omega) (by omega) fun ds K L x hx hd hK hL ha ht h1 h2 => ?_) fun e h => ?_
  · have hr : mRg1 (mC (.int 13)) (EF w nm a t row ds K L x) = .ok ((List.range 13).map fun (j : Nat) => Dv.int (j : Int)) (EF w nm a t row ds K L x) := by
      simp only [ev_rg1, ev_C, Rs.bind_ok]
      rw [show itR 0 13 = some ((List.range 13).map fun (j : Nat) => Dv.int (j : Int)) from itR_nat (n := 13) (by omega)]; rfl
    obtain ⟨e', q, L', x', rfl, hx', hl', hL'⟩ := loop_inv (g := gN 8) (b := (sApp 2 (mTup [(mO2 oAdd (mO2 oAdd (mC (.str t45)) (mO1 oStr (mVar 8))) (mC (.str t44))), (mC (.int 0)), (mC (.int 0)), (mC (.int 1)), (mC (.str t4))]))) (ds := (List.range 13).map fun (j : Nat) => Dv.int (j : Int)) (e := EF w nm a t row ds K L x)
      (fun k e => ∃ L' x', e = EF w nm a t row ds K L' x' ∧ free (some x') = true ∧ L'.length = L.length + k ∧ ∀ k ∈ L', tx k.n) ⟨L, x, rfl, hx, rfl, hL⟩
      (fun k d e hk he => by
        obtain ⟨L', x', rfl, hx', hl', hL'⟩ := he
        have hd : d = .int k ∧ k < 13 := by
          rw [List.getElem?_map] at hk
          obtain ⟨j, hj, rfl⟩ := Option.map_eq_some_iff.mp hk
          obtain ⟨hj2, rfl⟩ := List.getElem?_eq_some_iff.mp hj
          exact ⟨by simp, by simpa using hj2⟩
        obtain ⟨rfl, hk7⟩ := hd
        have hs : ∃ s, (mO2 oAdd (mO2 oAdd (mC (.str t45)) (mO1 oStr (mVar 8))) (mC (.str t44))) (EF w nm a t row ds K L' (.fz (.int k))) = .ok (.str s) (EF w nm a t row ds K L' (.fz (.int k))) ∧ tx s := by
          have : k = 0 ∨ k = 1 ∨ k = 2 ∨ k = 3 ∨ k = 4 ∨ k = 5 ∨ k = 6 ∨ k = 7 ∨ k = 8 ∨ k = 9 ∨ k = 10 ∨ k = 11 ∨ k = 12 := by omega
          rcases this with rfl | rfl | rfl | rfl | rfl | rfl | rfl | rfl | rfl | rfl | rfl | rfl | rfl <;> exact ⟨_, rfl, tx_of (by decide)⟩
        obtain ⟨s, hs, hts⟩ := hs
        refine ⟨EF w nm a t row ds K L' (.fz (.int k)), EF w nm a t row ds K (L' ++ [⟨s, 0, 0, 1, t4⟩]) (.fz (.int k)), by simp [EF, hx'], .inl ?_, _, _, rfl, rfl, by simp [hl']; omega, ?_⟩
        · have hll : L'.length < lim := by omega
          rw [ev_app, if_pos (by rfl)]
          simp only [ev_tup, ev_args1, ev_args0, hs, Rs.bind_ok]
          simp [EF, hll, lD]
        · intro y hy
          rcases List.mem_append.mp hy with hy | hy
          · exact hL' y hy
          · simp only [List.mem_singleton] at hy; subst hy; exact hts)
    simp only [List.length_map, List.length_range] at hl'
    exact ⟨_, (for_ok hr).trans q, ds, K, L', x', rfl, hx', hd, hK, hL', ha, by omega, by omega, by omega⟩
  -- 9
  refine way_if h (Nat.le_refl _) (Nat.le_refl _) fun ds K L x hx hd hK hL ha ht h1 h2 => ?_
  obtain ⟨s, ds', q, hs, hd'⟩ := cpickI (ns := ns) (ds := ds) (e := EF w nm a t row ds K L x) (i := 0) (j := some 0) (ma := mFz (mLst [(mC (.int 24)), (mC (.int 20)), (mC (.int 12))])) (xs := [24, 20, 12]) hd rfl rfl (by simp) (by simp)
  refine put_K (ds' := ds') (k := (K[a].1, s)) ?_ hx hd' (show tx K[a].1 from hK _ (List.getElem_mem ha)) hK hL ha ht h1 h2
  have : (EF w nm a t row ds K L x).set 0 (.ow (some 0) (.lst ds')) = EF w nm a t row ds' K L x := rfl
  rw [this] at q
  have o := ownK (w := w) (nm := nm) (t := t) (row := row) (ds := ds) (L := L) (x := x) ha
  have g1 : oIx (kD K[a]) (.int 0) = some (.str K[a].1) := rfl
  simp only [ev_tup, ev_args1, ev_args0, Rs.bind_ok, mO2, o, g1, Rs.of_some]
  rw [show mC (.int 0) (EF w nm a t row ds K L x) = .ok (.int 0) (EF w nm a t row ds K L x) from rfl]
  simp only [Rs.bind_ok, g1, Rs.of_some, q, List.length_cons, List.length_nil]
  rfl
end
end
end K01

set_option linter.all false
set_option maxRecDepth 10000
set_option maxHeartbeats 1000000
namespace K01
open Ml
section
variable {ns : List Int}
theorem with_fault_ok {ds : List Dv} {K : List Kd} {L : List Lb} (hd : Dr ns ds) (hK : ∀ k ∈ K, tx k.1) (hL : ∀ l ∈ L, tx l.n) (h1 : 1 ≤ K.length) (h2 : 1 ≤ L.length) (h3 : K.length ≤ 100) (h4 : L.length ≤ 100) :
    ∃ (ds' : List Dv) (K' : List Kd) (L' : List Lb), F__law_with_fault [.ow none (.lst ds), .ow none (.lst (K.map kD)), .ow none (.lst (L.map lD))] = .ok (.fz .non) [.lst ds', .lst (K'.map kD), .lst (L'.map lD)] ∧ Dr ns ds' ∧ (∀ k ∈ K', tx k.1) ∧ (∀ l ∈ L', tx l.n) ∧ 1 ≤ K'.length ∧ 1 ≤ L'.length ∧ K'.length ≤ K.length + 7 ∧ L'.length ≤ L.length + 13 := by
  have hlim := limv
  let nm := K.map (·.1) ++ L.map (·.n)
  obtain ⟨w, ds1, q1, _, _, hd1⟩ := cdraw (ns := ns) (ds := ds) (e := [.ow (some 0) (.lst ds), .ow (some 1) (.lst (K.map kD)), .ow (some 2) (.lst (L.map lD)), .un, .un, .un, .un, .un, .un]) (i := 0) (j := some 0) (ma := mC (.int 10)) (m := 10) hd rfl rfl (by omega) (by omega)
  simp only [List.set_cons_zero] at q1
  have n1 : mLcO 1 (gN 7) mYes (mO2 oIx (mVar 7) (mC (.int 0))) [7] [.ow (some 0) (.lst ds1), .ow (some 1) (.lst (K.map kD)), .ow (some 2) (.lst (L.map lD)), .fz (.int w), .un, .un, .un, .un, .un] = .ok (.lst (K.map fun k => .str k.1)) [.ow (some 0) (.lst ds1), .ow (some 1) (.lst (K.map kD)), .ow (some 2) (.lst (L.map lD)), .fz (.int w), .un, .un, .un, .un, .un] :=
    mlcO_mapA (j := some 1) (h := kD) (L := K) rfl rfl rfl (by omega) (fun d hd => ⟨_, _, rfl, rfl, rfl, rfl⟩) rfl
  have n2 : mLcO 2 (gN 7) mYes (mO2 oIx (mVar 7) (mC (.int 0))) [7] [.ow (some 0) (.lst ds1), .ow (some 1) (.lst (K.map kD)), .ow (some 2) (.lst (L.map lD)), .fz (.int w), .un, .un, .un, .un, .un] = .ok (.lst (L.map fun k => .str k.n)) [.ow (some 0) (.lst ds1), .ow (some 1) (.lst (K.map kD)), .ow (some 2) (.lst (L.map lD)), .fz (.int w), .un, .un, .un, .un, .un] :=
    mlcO_mapA (j := some 2) (h := lD) (L := L) rfl rfl rfl (by omega) (fun d hd => ⟨_, _, rfl, rfl, rfl, rfl⟩) rfl
  have hcat : oCat (.lst (K.map fun k => Dv.str k.1)) (.lst (L.map fun k => Dv.str k.n)) = some (nm.map .str) := by
    simp only [oCat]
    rw [if_pos (by simp; omega), List.map_append, List.map_map, List.map_map]
    rfl
  obtain ⟨a, ds2, q2, a1, a2, hd2⟩ := cdraw (ns := ns) (ds := ds1) (e := [.ow (some 0) (.lst ds1), .ow (some 1) (.lst (K.map kD)), .ow (some 2) (.lst (L.map lD)), .fz (.int w), .fz (.lst (nm.map .str)), .un, .un, .un, .un]) (i := 0) (j := some 0) (ma := mOwn 1 wLen) (m := K.length) hd1 rfl (by simp [wLen]) (by omega) (by omega)
  obtain ⟨t, ds3, q3, t1, t2, hd3⟩ := cdraw (ns := ns) (ds := ds2) (e := [.ow (some 0) (.lst ds2), .ow (some 1) (.lst (K.map kD)), .ow (some 2) (.lst (L.map lD)), .fz (.int w), .fz (.lst (nm.map .str)), .fz (.int a), .un, .un, .un]) (i := 0) (j := some 0) (ma := mOwn 2 wLen) (m := L.length) hd2 rfl (by simp [wLen]) (by omega) (by omega)
  simp only [List.set_cons_zero] at q2 q3
  obtain ⟨a, rfl⟩ := Int.eq_ofNat_of_zero_le a1
  obtain ⟨t, rfl⟩ := Int.eq_ofNat_of_zero_le t1
  have ha : a < K.length := by omega
  have ht : t < L.length := by omega
  have hg : getI (L.map lD) (t : Int) = some (lD L[t]) := by rw [getI_of (by simpa using ht)]; simp
  have hnm : ∀ s ∈ nm, tx s := by
    intro s hs
    rcases List.mem_append.mp hs with hs | hs
    · obtain ⟨k, hk, rfl⟩ := List.mem_map.mp hs; exact hK k hk
    · obtain ⟨k, hk, rfl⟩ := List.mem_map.mp hs; exact hL k hk
  obtain ⟨e', q, ds', K', L', x, rfl, hx, hd', hK', hL', b1, b2, b3, b4⟩ := way_ok (ns := ns) (w := w) (nm := nm) (a := a) (t := t) (row := L[t]) (A := K.length) (B := L.length) (e := EF w nm a t L[t] ds3 K L .un) ⟨ds3, K, L, .un, rfl, rfl, hd3, hK, hL, ha, ht, Nat.le_refl _, Nat.le_refl _⟩ hnm (by simp [nm]; omega) (hL _ (List.getElem_mem ht)) h3 h4
  refine ⟨ds', K', L', ?_, hd', hK', hL', by omega, by omega, b3, b4⟩
  have key : m__law_with_fault [.ow (some 0) (.lst ds), .ow (some 1) (.lst (K.map kD)), .ow (some 2) (.lst (L.map lD)), .un, .un, .un, .un, .un, .un] = .nx (EF w nm a t L[t] ds' K' L' x) := by
    rw [← q]
    show (sSeq _ (sSeq _ (sSeq _ (sSeq _ (sSeq _ wayBody))))) _ = _
    rw [ev_seq, ev_set, q1]
    simp only [Rs.go_ok, ev_gN, List.getElem?_cons_succ, List.getElem?_cons_zero, ev_free1, if_true, List.set_cons_succ, List.set_cons_zero, ev_nxO1, Sr.then_nx]
    rw [ev_seq, ev_set, ev_fz, ev_N2, ev_fz, n1]
    simp only [Rs.bind_ok]
    rw [ev_fz, n2]
    simp only [Rs.bind_ok, ev_toD, hcat, Option.map_some, Rs.of_some, Rs.go_ok, ev_gN, List.getElem?_cons_succ, List.getElem?_cons_zero, ev_free1, if_true, List.set_cons_succ, List.set_cons_zero, ev_nxO1, Sr.then_nx]
    rw [ev_seq, ev_set, q2]
    simp only [Rs.go_ok, ev_gN, List.getElem?_cons_succ, List.getElem?_cons_zero, ev_free1, if_true, List.set_cons_succ, List.set_cons_zero, ev_nxO1, Sr.then_nx]
    rw [ev_seq, ev_set, q3]
    simp only [Rs.go_ok, ev_gN, List.getElem?_cons_succ, List.getElem?_cons_zero, ev_free1, if_true, List.set_cons_succ, List.set_cons_zero, ev_nxO1, Sr.then_nx]
    rw [ev_seq, ev_set]
    simp only [ev_own2, ev_own, ev_var, List.getElem?_cons_succ, List.getElem?_cons_zero, Rs.bind_ok, wIx, hg, Rs.of_some, Rs.go_ok, ev_gN, ev_free1, if_true, List.set_cons_succ, List.set_cons_zero, ev_nxO1, Sr.then_nx]
    rfl
  unfold F__law_with_fault mkFn
  rw [if_pos ⟨rfl, rfl⟩]
  show (match m__law_with_fault [.ow (some 0) (.lst ds), .ow (some 1) (.lst (K.map kD)), .ow (some 2) (.lst (L.map lD)), .un, .un, .un, .un, .un, .un] with | .nx e => _ | .rt s e => _ | .er x e => _ | _ => _) = _
  rw [key]
  rfl
/-! edges_right -/
theorem in_tr {j : Nat} {a b : Int} {T : List (Int × Int)} : oInD (.tup [.int a, .int j, .int b]) (.lst (T.map (tr j))) = some (.bl (decide ((a, b) ∈ T))) := by
  have h1 : lowD 60 (.tup [.int a, .int j, .int b]) = true := low_tr (n := 59) (j := j) (a, b)
  have h2 : lowD 60 (.lst (T.map (tr j))) = true := by
    unfold lowD; exact lows_tr T
  have h3 : ((T.map (tr j)).any fun y => eqD y (.tup [.int a, .int j, .int b])) = decide ((a, b) ∈ T) := by
    induction T with
    | nil => simp
    | cons p T ih =>
      have : lowD 60 (.lst (T.map (tr j))) = true := by unfold lowD; exact lows_tr T
      rw [List.map_cons, List.any_cons, ih this, show eqD (tr j p) (.tup [.int a, .int j, .int b]) = decide (p = (a, b)) from eqD_tr p (a, b)]
      simp [eq_comm]
  simp only [oInD, h1, h2, h3, and_self, if_true]
def ER (sc : Dv) (ds : List Dv) (x2 : Slt) (many : Int) (x4 x5 x6 x7 x8 : Slt) : Loc := [.ow (some 0) (.lst ds), .fz sc, x2, .fz (.int many), x4, x5, x6, x7, x8, .un]
theorem edges_right_ok {ds : List Dv} {K : List Kd} {L : List Lb} (hd : Dr ns ds) (hv : vK K) (hL : ∀ l ∈ L, vL K.length l) (h2 : L.length ≤ 12) :
    ∃ ds', F__law_edges_right [.ow none (.lst ds), .fz (scD K L)] = .ok (.fz (.bl true)) [.lst ds'] := by
  have hlim := limv
  have rL : itR 0 (L.length : Int) = some ((List.range L.length).map fun (j : Nat) => Dv.int (j : Int)) := itR_nat (by omega)
  have r8 : itR 0 8 = some ((List.range 8).map fun (j : Nat) => Dv.int (j : Int)) := itR_nat (n := 8) (by omega)
  obtain ⟨e1, q1, x1, rfl, hx1⟩ := loop_nx (g := gN 2) (b := (sIf (mTest (mO2 oNeD (mCallD F_edges_let [.val (mVar 1), .val (mVar 2)]) (mO1 oTup (mFz (mN1 oSortT (mFz (mCallO F__law_let [.val (mVar 1), .val (mVar 2)])))))))
  (sRet (mC (.bl false)))
  sNil)) (I := fun e => ∃ x, e = [.ow (some 0) (.lst ds), .fz (scD K L), x, .un, .un, .un, .un, .un, .un, .un] ∧ free (some x) = true) (ds := (List.range L.length).map fun (j : Nat) => Dv.int (j : Int)) (e := [.ow (some 0) (.lst ds), .fz (scD K L), .un, .un, .un, .un, .un, .un, .un, .un]) ⟨.un, rfl, rfl⟩
    (fun d hd e he => by
      obtain ⟨x, rfl, hx⟩ := he
      obtain ⟨j, hj, rfl⟩ := List.mem_map.mp hd
      have hj : j < L.length := by simpa using hj
      have a := edges_ok hj hv (hL _ (List.getElem_mem hj))
      have b := let_ok hj hv (hL _ (List.getElem_mem hj))
      have c := sort_tr (j := j) (letT_lt K L[j])
      have d : oNeD (.tup ((letT K L[j]).map (tr j))) (.tup ((letT K L[j]).map (tr j))) = some (.bl false) := by
        have : lowD 60 (.tup ((letT K L[j]).map (tr j))) = true := by unfold lowD; exact lows_tr _
        unfold oNeD
        rw [if_pos ⟨this, this⟩]
        simp [eqD, eqDs_tr]
      refine ⟨[.ow (some 0) (.lst ds), .fz (scD K L), .fz (.int j), .un, .un, .un, .un, .un, .un, .un], [.ow (some 0) (.lst ds), .fz (scD K L), .fz (.int j), .un, .un, .un, .un, .un, .un, .un], by simp [hx], ?_, ⟨_, rfl, rfl⟩⟩
      simp only [ev_if, ev_test, ev_O2, ev_O1, ev_callD, ev_callO, call_f2, ev_var, List.getElem?_cons_succ, List.getElem?_cons_zero, Rs.bind_ok, a, b, ev_fz, ev_N1, ev_toD, c, Option.map_some, Rs.of_some, oTup, d, Rs.go_ok, Bool.false_eq_true, if_false, ev_nil])
  have hsum := sum_b (l := K.map (·.2)) (fun x hx => by
    obtain ⟨k, hk, rfl⟩ := List.mem_map.mp hx
    exact hv.2 k hk)
  have hkl := hv.1
  simp only [List.length_map] at hsum
  have hm : mLc (mIt itT (mO2 oIx (mVar 1) (mC (.int 1)))) (gN 9) mYes (mO2 oIx (mVar 9) (mC (.int 1))) [9] [.ow (some 0) (.lst ds), .fz (scD K L), x1, .un, .un, .un, .un, .un, .un, .un] = .ok (.lst (K.map fun k => .int k.2)) [.ow (some 0) (.lst ds), .fz (scD K L), x1, .un, .un, .un, .un, .un, .un, .un] :=
    mlc_mapA (h := kD) rfl rfl (by omega) (fun d hd => ⟨_, _, rfl, rfl, rfl, rfl⟩) rfl
  have hi := intsOf_map (fun k : Kd => k.2) K
  generalize hM : (K.map (·.2)).sum = M at hsum
  obtain ⟨e2, q2, ds2, y2, y4, y5, y6, y7, y8, rfl, _⟩ := loop_nx (g := gN 4) (b := (sSeq (sSet (mO2 oSub (mCallD F__law_draw [.own 0, .val (mO2 oAdd (mO1 oLen (mO2 oIx (mVar 1) (mC (.int 2)))) (mC (.int 2)))]) (mC (.int 1))) (gN 2))
  (sSeq (sSet (mO2 oSub (mCallD F__law_draw [.own 0, .val (mO2 oAdd (mVar 3) (mC (.int 3)))]) (mC (.int 1))) (gN 5))
  (sSeq (sSet (mCallD F__law_pick [.own 0, .val (mFz (mLst [(mVar 5), (mVar 5), (mO2 oSub (mCallD F__law_draw [.own 0, .val (mO2 oAdd (mVar 3) (mC (.int 3)))]) (mC (.int 1))), (mO1 oNeg (mC (.int 1000000)))]))]) (gN 6))
  (sSeq (sSet (mChain oLe oLt (mC (.int 0)) (mVar 2) (mO1 oLen (mO2 oIx (mVar 1) (mC (.int 2))))) (gN 7))
  (sSeq (sIf (mTruth (mVar 7))
  (sSet (mO2 oInD (mTup [(mVar 5), (mVar 2), (mVar 6)]) (mFz (mCallO F__law_let [.val (mVar 1), .val (mVar 2)]))) (gN 7))
  sNil)
  (sSeq (sSet (mCallD F_is_edge [.val (mVar 1), .val (mTup [(mVar 5), (mVar 2), (mVar 6)])]) (gN 8))
  (sIf (mOr (mTest (mO2 oNe (mVar 8) (mVar 7))) (mNot (mTruth (mO1 oIsB (mVar 8)))))
  (sRet (mC (.bl false)))
  sNil))))))))
    (I := fun e => ∃ ds y2 y4 y5 y6 y7 y8, e = ER (scD K L) ds y2 M y4 y5 y6 y7 y8 ∧ Dr ns ds ∧ free (some y2) = true ∧ free (some y4) = true ∧ free (some y5) = true ∧ free (some y6) = true ∧ free (some y7) = true ∧ free (some y8) = true) (ds := (List.range 8).map fun (j : Nat) => Dv.int (j : Int)) (e := ER (scD K L) ds x1 M .un .un .un .un .un) ⟨ds, x1, .un, .un, .un, .un, .un, rfl, hd, hx1, rfl, rfl, rfl, rfl, rfl⟩
    (fun d _ e he => by
      obtain ⟨ds, y2, y4, y5, y6, y7, y8, rfl, hd, f2, f4, f5, f6, f7, f8⟩ := he
      have olen : oLen (.tup (L.map lD)) = some (.int L.length) := by simp [oLen]
      obtain ⟨k, ds1, p1, k1, k2, hd1⟩ := cdraw (ns := ns) (ds := ds) (e := ER (scD K L) ds y2 M (.fz d) y5 y6 y7 y8) (i := 0) (j := some 0) (ma := mO2 oAdd (mO1 oLen (mO2 oIx (mVar 1) (mC (.int 2)))) (mC (.int 2))) (m := L.length + 2) hd rfl (by simp [ER, sc_2, olen, oAdd]) (by omega) (by omega)
      obtain ⟨a, ds2, p2, a1, a2, hd2⟩ := cdraw (ns := ns) (ds := ds1) (e := ER (scD K L) ds1 (.fz (.int (k - 1))) M (.fz d) y5 y6 y7 y8) (i := 0) (j := some 0) (ma := mO2 oAdd (mVar 3) (mC (.int 3))) (m := M + 3) hd1 rfl (by simp [ER, oAdd]) (by omega) (by omega)
      obtain ⟨b, ds3, p3, b1, b2, hd3⟩ := cdraw (ns := ns) (ds := ds2) (e := ER (scD K L) ds2 (.fz (.int (k - 1))) M (.fz d) (.fz (.int (a - 1))) y6 y7 y8) (i := 0) (j := some 0) (ma := mO2 oAdd (mVar 3) (mC (.int 3))) (m := M + 3) hd2 rfl (by simp [ER, oAdd]) (by omega) (by omega)
      rw [show (ER (scD K L) ds y2 M (.fz d) y5 y6 y7 y8).set 0 (.ow (some 0) (.lst ds1)) = ER (scD K L) ds1 y2 M (.fz d) y5 y6 y7 y8 from rfl] at p1
      rw [show (ER (scD K L) ds1 (.fz (.int (k - 1))) M (.fz d) y5 y6 y7 y8).set 0 (.ow (some 0) (.lst ds2)) = ER (scD K L) ds2 (.fz (.int (k - 1))) M (.fz d) y5 y6 y7 y8 from rfl] at p2
      rw [show (ER (scD K L) ds2 (.fz (.int (k - 1))) M (.fz d) (.fz (.int (a - 1))) y6 y7 y8).set 0 (.ow (some 0) (.lst ds3)) = ER (scD K L) ds3 (.fz (.int (k - 1))) M (.fz d) (.fz (.int (a - 1))) y6 y7 y8 from rfl] at p3
      obtain ⟨c, ds4, hc, hd4⟩ : ∃ c ds4, mCallD F__law_pick [.own 0, .val (mFz (mLst [(mVar 5), (mVar 5), (mO2 oSub (mCallD F__law_draw [.own 0, .val (mO2 oAdd (mVar 3) (mC (.int 3)))]) (mC (.int 1))), (mO1 oNeg (mC (.int 1000000)))]))] (ER (scD K L) ds2 (.fz (.int (k - 1))) M (.fz d) (.fz (.int (a - 1))) y6 y7 y8) = .ok (.int c) (ER (scD K L) ds4 (.fz (.int (k - 1))) M (.fz d) (.fz (.int (a - 1))) y6 y7 y8) ∧ Dr ns ds4 := by
        obtain ⟨x, ds4, h, hx, hd4⟩ := pick_ok (xs := [Int.ofNat 0, 0, 0, 0].map Dv.int) hd3 (by simp) (by simp)
        clear h hx
        obtain ⟨x, ds4, h, hx, hd4⟩ := pick_ok (xs := [a - 1, a - 1, b - 1, -1000000].map Dv.int) hd3 (by simp) (by simp)
        obtain ⟨c, _, rfl⟩ := List.mem_map.mp hx
        refine ⟨c, ds4, call_2 (e1 := ER (scD K L) ds3 (.fz (.int (k - 1))) M (.fz d) (.fz (.int (a - 1))) y6 y7 y8) (a := .lst ([a - 1, a - 1, b - 1, -1000000].map Dv.int)) rfl ?_ rfl h, hd4⟩
        have v5 : mVar 5 (ER (scD K L) ds2 (.fz (.int (k - 1))) M (.fz d) (.fz (.int (a - 1))) y6 y7 y8) = .ok (.int (a - 1)) (ER (scD K L) ds2 (.fz (.int (k - 1))) M (.fz d) (.fz (.int (a - 1))) y6 y7 y8) := rfl
        rw [ev_fz, ev_lst]
        simp only [ev_args1, ev_args0, v5, Rs.bind_ok, mO2, p3, List.length_cons, List.length_nil]
        rfl
      have ed := is_edge_ok (K := K) (L := L) (a := a - 1) (j := k - 1) (b := c) hv hL
      have hdue : ∃ e', (sIf (mTruth (mVar 7)) (sSet (mO2 oInD (mTup [(mVar 5), (mVar 2), (mVar 6)]) (mFz (mCallO F__law_let [.val (mVar 1), .val (mVar 2)]))) (gN 7)) sNil) (ER (scD K L) ds4 (.fz (.int (k - 1))) M (.fz d) (.fz (.int (a - 1))) (.fz (.int c)) (.fz (.bl (decide (0 ≤ k - 1) && decide (k - 1 < (L.length : Int))))) y8) = .nx e' ∧ e' = (ER (scD K L) ds4 (.fz (.int (k - 1))) M (.fz d) (.fz (.int (a - 1))) (.fz (.int c)) (.fz (.bl (edgeB K L (a - 1) (k - 1) c))) y8) := by
        refine nx_if (x := decide (0 ≤ k - 1) && decide (k - 1 < (L.length : Int))) (e1 := ER (scD K L) ds4 (.fz (.int (k - 1))) M (.fz d) (.fz (.int (a - 1))) (.fz (.int c)) (.fz (.bl (decide (0 ≤ k - 1) && decide (k - 1 < (L.length : Int))))) y8) rfl (fun hx => ?_) (fun hx => ?_)
        · simp only [Bool.and_eq_true, decide_eq_true_eq] at hx
          obtain ⟨j, hj⟩ := Int.eq_ofNat_of_zero_le hx.1
          have hjl : j < L.length := by omega
          have hl := let_ok hjl hv (hL _ (List.getElem_mem hjl))
          refine ⟨_, ?_, rfl⟩
          rw [hj, edgeB_in hjl]
          have hin := in_tr (j := j) (a := a - 1) (b := c) (T := letT K L[j])
          simp [ER, hl, hin]
        · refine nx_nil ?_
          have : edgeB K L (a - 1) (k - 1) c = false := by
            by_cases h0 : 0 ≤ k - 1
            · exact edgeB_hi (by simp [h0] at hx; omega)
            · exact edgeB_lo h0
          rw [hx, this]
      obtain ⟨_, hdue, rfl⟩ := hdue
      refine ⟨ER (scD K L) ds y2 M (.fz d) y5 y6 y7 y8, ER (scD K L) ds4 (.fz (.int (k - 1))) M (.fz d) (.fz (.int (a - 1))) (.fz (.int c)) (.fz (.bl (edgeB K L (a - 1) (k - 1) c))) (.fz (.bl (edgeB K L (a - 1) (k - 1) c))), by simp [ER, f4], ?_, ds4, _, _, _, _, _, _, rfl, hd4, rfl, rfl, rfl, rfl, rfl, rfl⟩
      have st1 : sSet (mO2 oSub (mCallD F__law_draw [.own 0, .val (mO2 oAdd (mO1 oLen (mO2 oIx (mVar 1) (mC (.int 2)))) (mC (.int 2)))]) (mC (.int 1))) (gN 2) (ER (scD K L) ds y2 M (.fz d) y5 y6 y7 y8) = .nx (ER (scD K L) ds1 (.fz (.int (k - 1))) M (.fz d) y5 y6 y7 y8) := by
        rw [ev_set, ev_O2, p1]; simp [ER, oSub, f2]
      have st2 : sSet (mO2 oSub (mCallD F__law_draw [.own 0, .val (mO2 oAdd (mVar 3) (mC (.int 3)))]) (mC (.int 1))) (gN 5) (ER (scD K L) ds1 (.fz (.int (k - 1))) M (.fz d) y5 y6 y7 y8) = .nx (ER (scD K L) ds2 (.fz (.int (k - 1))) M (.fz d) (.fz (.int (a - 1))) y6 y7 y8) := by
        rw [ev_set, ev_O2, p2]; simp [ER, oSub, f5]
      rw [ev_seq, st1, Sr.then_nx, ev_seq, st2, Sr.then_nx, ev_seq, ev_set, hc]
      have st3 : ((Rs.ok (.int c) (ER (scD K L) ds4 (.fz (.int (k - 1))) M (.fz d) (.fz (.int (a - 1))) y6 y7 y8) : Rs Dv).go fun d e => nxO (gN 6 d e)) = .nx (ER (scD K L) ds4 (.fz (.int (k - 1))) M (.fz d) (.fz (.int (a - 1))) (.fz (.int c)) y7 y8) := by
        simp [ER, f6]
      have st4 : sSet (mChain oLe oLt (mC (.int 0)) (mVar 2) (mO1 oLen (mO2 oIx (mVar 1) (mC (.int 2))))) (gN 7) (ER (scD K L) ds4 (.fz (.int (k - 1))) M (.fz d) (.fz (.int (a - 1))) (.fz (.int c)) y7 y8) = .nx (ER (scD K L) ds4 (.fz (.int (k - 1))) M (.fz d) (.fz (.int (a - 1))) (.fz (.int c)) (.fz (.bl (decide (0 ≤ k - 1) && decide (k - 1 < (L.length : Int))))) y8) := by
        by_cases h0 : 0 ≤ k - 1
        · simp only [ER, ev_set, ev_chain, ev_C, ev_var, List.getElem?_cons_succ, List.getElem?_cons_zero, Rs.bind_ok, oLe, h0, decide_true, Rs.of_some, ev_O1, ev_O2, sc_2, olen, oLt, Bool.true_and, Rs.go_ok, ev_gN, f7, if_true, List.set_cons_succ, List.set_cons_zero, ev_nxO1]
        · simp only [ER, ev_set, ev_chain, ev_C, ev_var, List.getElem?_cons_succ, List.getElem?_cons_zero, Rs.bind_ok, oLe, h0, decide_false, Rs.of_some, Bool.false_and, Rs.go_ok, ev_gN, f7, if_true, List.set_cons_succ, List.set_cons_zero, ev_nxO1]
      have hne : oNe (.bl (edgeB K L (a - 1) (k - 1) c)) (.bl (edgeB K L (a - 1) (k - 1) c)) = some (.bl false) := by simp [oNe, eqS]
      rw [st3, Sr.then_nx, ev_seq, st4, Sr.then_nx, ev_seq, hdue, Sr.then_nx]
      simp [ER, ed, f8, hne, oIsB, truthD])
  refine ⟨ds2, ?_⟩
  refine fn_ok rfl rfl (e := ER (scD K L) ds2 y2 M y4 y5 y6 y7 y8) ?_ rfl
  show m__law_edges_right [.ow (some 0) (.lst ds), .fz (scD K L), .un, .un, .un, .un, .un, .un, .un, .un] = _
  have olen : oLen (.tup (L.map lD)) = some (.int L.length) := by simp [oLen]
  have hr1 : mRg1 (mO1 oLen (mO2 oIx (mVar 1) (mC (.int 2)))) [.ow (some 0) (.lst ds), .fz (scD K L), .un, .un, .un, .un, .un, .un, .un, .un] = .ok ((List.range L.length).map fun (j : Nat) => Dv.int (j : Int)) [.ow (some 0) (.lst ds), .fz (scD K L), .un, .un, .un, .un, .un, .un, .un, .un] := by
    simp only [ev_rg1, ev_O1, ev_O2, ev_C, ev_var, List.getElem?_cons_succ, List.getElem?_cons_zero, Rs.bind_ok, sc_2, Rs.of_some, olen, rL]
  have hr2 : mRg1 (mC (.int 8)) (ER (scD K L) ds x1 M .un .un .un .un .un) = .ok ((List.range 8).map fun (j : Nat) => Dv.int (j : Int)) (ER (scD K L) ds x1 M .un .un .un .un .un) := by
    simp only [ev_rg1, ev_C, Rs.bind_ok, r8, Rs.of_some]
  have st : sSet (mO1 oSum (mFz (mLc (mIt itT (mO2 oIx (mVar 1) (mC (.int 1)))) (gN 9) mYes (mO2 oIx (mVar 9) (mC (.int 1))) [9]))) (gN 3) [.ow (some 0) (.lst ds), .fz (scD K L), x1, .un, .un, .un, .un, .un, .un, .un] = .nx (ER (scD K L) ds x1 M .un .un .un .un .un) := by
    simp only [ev_set, ev_O1, ev_fz, hm, Rs.bind_ok, ev_toD, oSum, hi, Option.map_some, Rs.of_some, Rs.go_ok, ev_gN, List.getElem?_cons_succ, List.getElem?_cons_zero, ev_free1, if_true, List.set_cons_succ, List.set_cons_zero, ev_nxO1, hM, ER]
  unfold m__law_edges_right
  rw [ev_seq, for_ok hr1, q1, Sr.then_nx, ev_seq, st, Sr.then_nx, ev_seq, for_ok hr2, q2, Sr.then_nx]
  rfl
end
end K01

set_option linter.all false
set_option maxRecDepth 10000
set_option maxHeartbeats 1000000
namespace K01
open Ml
/-! what chk says -/
theorem new_none {ns : List (List Nat)} {s : List Nat} (h : isName s = true) (h2 : s ∉ ns) : newNm ns s = none := by simp [newNm, h, h2]
theorem firstK_good : ∀ {K : List Kd} {ns : List (List Nat)}, (ns ++ K.map (·.1)).Nodup → (∀ k ∈ K, isName k.1 = true ∧ 0 ≤ k.2 ∧ k.2 ≤ 24) → firstK ns K = none
  | [], _, _, _ => rfl
  | k :: K, ns, hn, h => by
    obtain ⟨h1, h2, h3⟩ := h k List.mem_cons_self
    have hk : k.1 ∉ ns := by
      intro hm
      have := (List.nodup_append.mp hn).2.2 k.1 hm k.1 (by simp)
      exact this rfl
    simp only [firstK, kindEr, new_none h1 hk, inB, h2, h3, decide_true, Bool.and_self, if_true, Option.none_or]
    exact firstK_good (by simpa [List.append_assoc] using hn) fun x hx => h x (List.mem_cons_of_mem _ hx)
theorem lab_good {m : Nat} {l : Lb} (h : gdL m l) : labE m l = none := by
  obtain ⟨⟨⟨a, b⟩, ⟨c, d⟩, e⟩, f, g, i⟩ := h
  simp only [labE, inK, inB, a, b, c, d, f, g, decide_true, Bool.and_self, if_true]
  rw [if_neg]
  rintro (h | ⟨h1, h2⟩)
  · exact h i
  · exact h2 (e h1)
theorem firstL_good {m : Nat} : ∀ {L : List Lb} {ns : List (List Nat)}, (ns ++ L.map (·.n)).Nodup → (∀ l ∈ L, isName l.n = true ∧ gdL m l) → firstL m ns L = none
  | [], _, _, _ => rfl
  | l :: L, ns, hn, h => by
    obtain ⟨h1, h2⟩ := h l List.mem_cons_self
    have hk : l.n ∉ ns := by
      intro hm
      have := (List.nodup_append.mp hn).2.2 l.n hm l.n (by simp)
      exact this rfl
    simp only [firstL, new_none h1 hk, lab_good h2, Option.none_or]
    exact firstL_good (by simpa [List.append_assoc] using hn) fun x hx => h x (List.mem_cons_of_mem _ hx)
theorem sum_c {c : Int} : ∀ {l : List Int}, (∀ x ∈ l, x ≤ c) → l.sum ≤ c * l.length
  | [], _ => by simp
  | a :: l, h => by
    have h1 := h a List.mem_cons_self
    have h2 := sum_c (l := l) fun x hx => h x (List.mem_cons_of_mem _ hx)
    simp only [List.sum_cons, List.length_cons, Int.natCast_add, Int.natCast_one, Int.mul_add, Int.mul_one]
    omega
theorem gd_chk {m n : Nat} {K : List Kd} {L : List Lb} (h : Gd m n K L) (hm : m ≤ 3) (hn : n ≤ 4) : chk K L = none := by
  obtain ⟨h1, h2, h3, h4, h5, h6⟩ := h
  have a := firstK_good (K := K) (ns := []) (by simpa using (List.nodup_append.mp h3).1) fun k hk => ⟨h4 _ (List.mem_append_left _ (List.mem_map_of_mem hk)), by have := h5 k hk; omega, by have := h5 k hk; omega⟩
  have b := firstL_good (m := K.length) (L := L) (ns := K.map (·.1)) h3 fun l hl => ⟨h4 _ (List.mem_append_right _ (List.mem_map_of_mem hl)), h1 ▸ h6 l hl⟩
  have c := sum_c (c := 6) (l := K.map (·.2)) (fun x hx => by
    obtain ⟨k, hk, rfl⟩ := List.mem_map.mp hx
    exact (h5 k hk).2)
  simp only [List.length_map] at c
  unfold chk
  rw [if_neg (by omega), if_neg (by omega), a, b, if_neg (by omega)]
  rfl
theorem or_none {α : Type} {a b : Option α} (h : a.or b = none) : a = none ∧ b = none := by
  cases a with
  | none => exact ⟨rfl, by simpa using h⟩
  | some x => simp at h
theorem firstK_back : ∀ {K : List Kd} {ns : List (List Nat)}, firstK ns K = none → ∀ k ∈ K, 0 ≤ k.2 ∧ k.2 ≤ 24
  | [], _, _, _, hk => by cases hk
  | x :: K, ns, h, k, hk => by
    obtain ⟨h1, h2⟩ := or_none h
    rcases List.mem_cons.mp hk with rfl | hk
    · have := (or_none h1).2
      by_cases c : inB 0 24 k.2 = true
      · simpa [inB] using c
      · simp [c] at this
    · exact firstK_back h2 k hk
theorem lab_back {m : Nat} {l : Lb} (h : labE m l = none) : vL m l := by
  unfold labE at h
  by_cases c1 : inK m l.s = true
  · by_cases c2 : inK m l.t = true
    · by_cases c3 : inB 0 9 l.p = true
      · by_cases c4 : l.r ∉ rules ∨ l.r = t6 ∧ l.s ≠ l.t
        · simp only [c1, c2, c3, c4, if_true] at h; cases h
        · refine ⟨by simpa [inK] using c1, by simpa [inK] using c2, fun hr => ?_⟩
          by_cases c5 : l.s = l.t
          · exact c5
          · exact absurd (.inr ⟨hr, c5⟩) c4
      · simp [c1, c2, c3] at h
    · simp [c1, c2] at h
  · simp [c1] at h
theorem firstL_back {m : Nat} : ∀ {L : List Lb} {ns : List (List Nat)}, firstL m ns L = none → ∀ l ∈ L, vL m l
  | [], _, _, _, hk => by cases hk
  | x :: L, ns, h, l, hl => by
    obtain ⟨h1, h2⟩ := or_none h
    rcases List.mem_cons.mp hl with rfl | hl
    · exact lab_back (or_none h1).2
    · exact firstL_back h2 l hl
theorem chk_back {K : List Kd} {L : List Lb} (h : chk K L = none) : vK K ∧ (∀ l ∈ L, vL K.length l) ∧ L.length ≤ 12 := by
  unfold chk at h
  split at h
  · cases h
  · split at h
    · cases h
    · obtain ⟨h1, h2⟩ := or_none h
      exact ⟨⟨by omega, firstK_back h1⟩, firstL_back (or_none h2).1, by omega⟩
/-! the law -/
def LE (ns : List Int) (sc : Dv) (ds : List Dv) (K : List Kd) (L : List Lb) (x : Slt) : Loc := [.un, .ow none (.lst ds), .fz sc, .ow none (.lst (K.map kD)), .ow none (.lst (L.map lD)), x, .un, .un, .un]
def IL (ns : List Int) (sc : Dv) (A B : Nat) (e : Loc) : Prop := ∃ ds K L x, e = LE ns sc ds K L x ∧ free (some x) = true ∧ Dr ns ds ∧ (∀ k ∈ K, tx k.1) ∧ (∀ l ∈ L, tx l.n) ∧ 1 ≤ K.length ∧ 1 ≤ L.length ∧ K.length ≤ A ∧ L.length ≤ B
theorem call_4 {e e1 e2 e3 : Loc} {i : Nat} {j : Option Nat} {ds0 ds ds' : List Dv} {ma mb mc : ME Dv} {a b c v : Dv} {F : Fn} (he : e[i]? = some (.ow j (.lst ds0))) (h1 : ma e = .ok a e1) (h2 : mb e1 = .ok b e2) (h3 : mc e2 = .ok c e3) (he3 : e3[i]? = some (.ow j (.lst ds)))
    (h : F [.ow none (.lst ds), .fz a, .fz b, .fz c] = .ok (.fz v) [.lst ds']) : mCallD F [.own i, .val ma, .val mb, .val mc] e = .ok v (e3.set i (.ow j (.lst ds'))) := by
  simp [mCallD, mCall, mAs, he, isOw, h1, h2, h3, owns, resolve, he3, h, wback, putO]
theorem fault_step {ns : List Int} {sc : Dv} {A B : Nat} {e : Loc} (h : IL ns sc A B e) (hA : A ≤ 90) (hB : B ≤ 80) : ∃ e', sDrop (mCallD F__law_with_fault [.own 1, .own 3, .own 4]) e = .nx e' ∧ IL ns sc (A + 7) (B + 13) e' := by
  obtain ⟨ds, K, L, x, rfl, hx, hd, hK, hL, a1, a2, a3, a4⟩ := h
  obtain ⟨ds', K', L', q, hd', hK', hL', b1, b2, b3, b4⟩ := with_fault_ok hd hK hL a1 a2 (by omega) (by omega)
  refine ⟨LE ns sc ds' K' L' x, ?_, ds', K', L', x, rfl, hx, hd', hK', hL', b1, b2, by omega, by omega⟩
  have : mCallD F__law_with_fault [.own 1, .own 3, .own 4] (LE ns sc ds K L x) = .ok .non (LE ns sc ds' K' L' x) := by
    simp only [mCallD, mCall, mAs, LE, isOw, List.getElem?_cons_succ, List.getElem?_cons_zero, if_true, Rs.bind_ok, owns, resolve, Option.map_some, q]
    rfl
  unfold sDrop
  rw [this]; rfl
end K01

set_option linter.all false
set_option maxRecDepth 10000
set_option maxHeartbeats 1000000
namespace K01
open Ml
theorem eqD_str (s : List Nat) : eqD (.str s) (.str s) = true := by simp [eqD, eqF]
theorem eqD_ok {d : Dv} (h : okD d) : eqD d d = true := by
  rcases h with ⟨s, _, rfl⟩ | ⟨i, rfl⟩ <;> simp [eqD, eqF]
theorem isB_ok {d : Dv} (h : okD d) : oIsB d = some (.bl false) := by
  rcases h with ⟨s, _, rfl⟩ | ⟨i, rfl⟩ <;> rfl
def LF (ds : List Dv) (sc : Dv) (K : List Kd) (L : List Lb) (x x6 x7 x8 : Slt) : Loc := [.un, .ow none (.lst ds), .fz sc, .fz (.lst (K.map kD)), .fz (.lst (L.map lD)), x, x6, x7, x8]
def lawEnd : MS := (sSeq (sSet (mCallD F__law_due [.val (mVar 3), .val (mVar 4)]) (gN 6))
  (sSeq (sSet (mFz (mCallO F__law_checked [.val (mTup [(mC (.str t30)), (mO1 oTup (mVar 3)), (mO1 oTup (mVar 4))])])) (gN 7))
  (sSeq (sIf (mTest (mO2 oNoN (mVar 6) (mC .non)))
  (sIf (mOr (mTest (mO2 oNeD (mVar 7) (mFz (mLst [(mVar 6)])))) (mTruth (mO1 oIsB (mO2 oIx (mO2 oIx (mVar 7) (mC (.int 0))) (mC (.int 1))))))
  (sRet (mC (.bl false)))
  sNil)
  (sIf (mTest (mO2 oNeD (mVar 7) (mFz (mLst []))))
  (sRet (mC (.bl false)))
  sNil))
  (sSeq (sIf (mOr (mTest (mO2 oNeD (mFz (mCallO F__law_checked [.val (mVar 2)])) (mFz (mLst [])))) (mNot (mTruth (mCallD F__law_names_right [.own 1]))))
  (sRet (mC (.bl false)))
  sNil)
  (sSeq (sSet (mVar 2) (gN 8))
  (sSeq (sIf (mTest (mO2 oIsN (mVar 6) (mC .non)))
  (sSet (mTup [(mC (.str t30)), (mO1 oTup (mVar 3)), (mO1 oTup (mVar 4))]) (gN 8))
  sNil)
  (sRet (mAndV (mCallD F__law_nodes_right [.val (mVar 8)]) (mCallD F__law_edges_right [.own 1, .val (mVar 8)])))))))))
theorem ne_nil : oNeD (.lst []) (.lst []) = some (.bl false) := by
  simp [oNeD, lowD, lowDs, eqD, eqDs]
theorem end_ok {ns : List Int} {ds : List Dv} {K0 K : List Kd} {L0 L : List Lb} {x : Slt} (hd : Dr ns ds) (hK : ∀ k ∈ K, tx k.1) (hL : ∀ l ∈ L, tx l.n) (h1 : K.length ≤ 100) (h2 : L.length ≤ 100) (hK0 : ∀ k ∈ K0, tx k.1) (hL0 : ∀ l ∈ L0, tx l.n) (h3 : K0.length ≤ 100) (h4 : L0.length ≤ 100) (hc : chk K0 L0 = none) :
    ∃ e, lawEnd (LF ds (scD K0 L0) K L x .un .un .un) = .rt (.fz (.bl true)) e := by
  have a := due_ok hK hL h1 h2
  have b := checked_ok hK hL h1 h2
  have c := checked_ok hK0 hL0 h3 h4
  rw [hc] at c
  obtain ⟨ds1, n1, hd1⟩ := names_right_ok hd
  -- the ends
  have fin : ∀ (K' : List Kd) (L' : List Lb) x6 x7, chk K' L' = none → ∃ e, sRet (mAndV (mCallD F__law_nodes_right [.val (mVar 8)]) (mCallD F__law_edges_right [.own 1, .val (mVar 8)])) (LF ds1 (scD K0 L0) K L x x6 x7 (.fz (scD K' L'))) = .rt (.fz (.bl true)) e := by
    intro K' L' x6 x7 hc'
    obtain ⟨v1, v2, v3⟩ := chk_back hc'
    have p := nodes_right_ok (L := L') v1
    obtain ⟨ds2, q⟩ := edges_right_ok hd1 v1 v2 v3
    have q' := call_2 (i := 1) (j := none) (ds := ds1) (ds' := ds1) (ma := mVar 8) (e := LF ds1 (scD K0 L0) K L x x6 x7 (.fz (scD K' L'))) (e1 := LF ds1 (scD K0 L0) K L x x6 x7 (.fz (scD K' L'))) rfl rfl rfl q
    have p' := call_v1 (ma := mVar 8) (e := LF ds1 (scD K0 L0) K L x x6 x7 (.fz (scD K' L'))) (e1 := LF ds1 (scD K0 L0) K L x x6 x7 (.fz (scD K' L'))) rfl p
    refine ⟨(LF ds1 (scD K0 L0) K L x x6 x7 (.fz (scD K' L'))).set 1 (.ow none (.lst ds2)), ?_⟩
    rw [ev_ret, ev_andV, ev_test, p']
    simp only [Rs.bind_ok, if_true, q', Rs.go_ok]
  -- the middle
  have mid : ∀ (b : MS) d x7, ((sSeq (sIf (mOr (mTest (mO2 oNeD (mFz (mCallO F__law_checked [.val (mVar 2)])) (mFz (mLst [])))) (mNot (mTruth (mCallD F__law_names_right [.own 1])))) (sRet (mC (.bl false))) sNil) (sSeq (sSet (mVar 2) (gN 8)) b)) (LF ds (scD K0 L0) K L x (.fz d) x7 .un)) = b (LF ds1 (scD K0 L0) K L x (.fz d) x7 (.fz (scD K0 L0))) := by
    intro b d x7
    have n2 := call_1 (i := 1) (j := none) (e := LF ds (scD K0 L0) K L x (.fz d) x7 .un) (ds := ds) rfl n1
    have c1 : mFz (mCallO F__law_checked [.val (mVar 2)]) (LF ds (scD K0 L0) K L x (.fz d) x7 .un) = .ok (.lst []) (LF ds (scD K0 L0) K L x (.fz d) x7 .un) := by
      rw [ev_fz, call_o1 (ma := mVar 2) rfl c]; rfl
    rw [ev_seq, ev_if, ev_or, ev_test, ev_O2, c1]
    simp only [Rs.bind_ok, ev_fz, ev_lst, ev_args0, List.length_nil, Nat.zero_le, if_true, ev_toD, ne_nil, Rs.of_some, Bool.false_eq_true, if_false, ev_not, ev_truth, n2, truthD, Bool.not_true, Rs.go_ok, ev_nil, Sr.then_nx]
    simp [LF]
  have s1 : sSet (mCallD F__law_due [.val (mVar 3), .val (mVar 4)]) (gN 6) (LF ds (scD K0 L0) K L x .un .un .un) = .nx (LF ds (scD K0 L0) K L x (.fz (dueD (chk K L))) .un .un) := by
    rw [ev_set, call_v2 (ma := mVar 3) (mb := mVar 4) rfl rfl a]; rfl
  have tupE : ∀ x6 x7 x8, mTup [(mC (.str t30)), (mO1 oTup (mVar 3)), (mO1 oTup (mVar 4))] (LF ds (scD K0 L0) K L x x6 x7 x8) = .ok (scD K L) (LF ds (scD K0 L0) K L x x6 x7 x8) := fun _ _ _ => rfl
  have tupE1 : ∀ x6 x7 x8, mTup [(mC (.str t30)), (mO1 oTup (mVar 3)), (mO1 oTup (mVar 4))] (LF ds1 (scD K0 L0) K L x x6 x7 x8) = .ok (scD K L) (LF ds1 (scD K0 L0) K L x x6 x7 x8) := fun _ _ _ => rfl
  have s2 : sSet (mFz (mCallO F__law_checked [.val (mTup [(mC (.str t30)), (mO1 oTup (mVar 3)), (mO1 oTup (mVar 4))])])) (gN 7) (LF ds (scD K0 L0) K L x (.fz (dueD (chk K L))) .un .un) = .nx (LF ds (scD K0 L0) K L x (.fz (dueD (chk K L))) (.fz (.lst (dueL (chk K L)))) .un) := by
    rw [ev_set, ev_fz, call_o1 (tupE _ _ _) b]; rfl
  have noN : ∀ d, oNoN d .non = some (.bl (!isNon d)) := fun d => rfl
  have isN : ∀ d, oIsN d .non = some (.bl (isNon d)) := fun d => rfl
  unfold lawEnd
  rw [ev_seq, s1, Sr.then_nx, ev_seq, s2, Sr.then_nx, ev_seq]
  have ho := ok_chk hK hL
  cases hx : chk K L with
  | none =>
    have t1 : ∀ b1 : MS, sIf (mTest (mO2 oNoN (mVar 6) (mC .non))) b1 (sIf (mTest (mO2 oNeD (mVar 7) (mFz (mLst [])))) (sRet (mC (.bl false))) sNil) (LF ds (scD K0 L0) K L x (.fz (dueD none)) (.fz (.lst (dueL none))) .un) = .nx (LF ds (scD K0 L0) K L x (.fz (dueD none)) (.fz (.lst (dueL none))) .un) := by
      intro b1
      simp [LF, noN, dueD, dueL, isNon, ne_nil]
    rw [t1, Sr.then_nx, mid, ev_seq]
    have t2 : sIf (mTest (mO2 oIsN (mVar 6) (mC .non))) (sSet (mTup [(mC (.str t30)), (mO1 oTup (mVar 3)), (mO1 oTup (mVar 4))]) (gN 8)) sNil (LF ds1 (scD K0 L0) K L x (.fz (dueD none)) (.fz (.lst (dueL none))) (.fz (scD K0 L0))) = .nx (LF ds1 (scD K0 L0) K L x (.fz (dueD none)) (.fz (.lst (dueL none))) (.fz (scD K L))) := by
      rw [if_t (e1 := LF ds1 (scD K0 L0) K L x (.fz (dueD none)) (.fz (.lst (dueL none))) (.fz (scD K0 L0))) (by simp [LF, isN, dueD, isNon]), ev_set, tupE1]
      rfl
    rw [t2, Sr.then_nx]
    exact fin K L _ _ hx
  | some er =>
    have oe := (ho er hx).2
    have oc := (class_ok (ho er hx)).2.1
    have e1 : oNeD (.lst [.tup [.str er.1, er.2.2]]) (.lst [.tup [.str er.1, er.2.2]]) = some (.bl false) := by
      have hlow : lowD 60 (.lst [.tup [.str er.1, er.2.2]]) = true := by
        have := low_ok oe 58
        simp only [lowDs, lowD, Bool.and_true, this, Bool.and_eq_true, and_true] at oc ⊢
        exact oc
      unfold oNeD
      rw [if_pos ⟨hlow, hlow⟩]
      simp [eqD, eqDs, eqD_ok oe, eqF]
    have e2 : oIx (.lst [.tup [.str er.1, er.2.2]]) (.int 0) = some (.tup [.str er.1, er.2.2]) := rfl
    have e3 : oIx (.tup [.str er.1, er.2.2]) (.int 1) = some er.2.2 := rfl
    have e4 := isB_ok oe
    have t1 : ∀ b1 : MS, sIf (mTest (mO2 oNoN (mVar 6) (mC .non))) (sIf (mOr (mTest (mO2 oNeD (mVar 7) (mFz (mLst [(mVar 6)])))) (mTruth (mO1 oIsB (mO2 oIx (mO2 oIx (mVar 7) (mC (.int 0))) (mC (.int 1)))))) (sRet (mC (.bl false))) sNil) b1 (LF ds (scD K0 L0) K L x (.fz (dueD (some er))) (.fz (.lst (dueL (some er)))) .un) = .nx (LF ds (scD K0 L0) K L x (.fz (dueD (some er))) (.fz (.lst (dueL (some er)))) .un) := by
      intro b1
      simp [LF, noN, dueD, dueL, isNon, e1, e2, e3, e4, truthD]
    rw [t1, Sr.then_nx, mid, ev_seq]
    have t2 : ∀ b1 : MS, sIf (mTest (mO2 oIsN (mVar 6) (mC .non))) b1 sNil (LF ds1 (scD K0 L0) K L x (.fz (dueD (some er))) (.fz (.lst (dueL (some er)))) (.fz (scD K0 L0))) = .nx (LF ds1 (scD K0 L0) K L x (.fz (dueD (some er))) (.fz (.lst (dueL (some er)))) (.fz (scD K0 L0))) := by
      intro b1
      simp [LF, isN, dueD, isNon]
    rw [t2, Sr.then_nx]
    exact fin K0 L0 _ _ hc
def lawMid : MS := (sSeq (sIf (mTest (mO2 oEq (mCallD F__law_draw [.own 1, .val (mC (.int 5))]) (mC (.int 3))))
  (sPut 3 (mCallD F__law_draw [.own 1, .val (mOwn 3 wLen)]) (mTup [(mC (.str t57)), (mCallD F__law_pick [.own 1, .val (mFz (mLst [(mC (.int 0)), (mC (.int 8)), (mC (.int 11))]))])]))
  sNil)
  (sSeq (sIf (mTest (mO2 oGt (mCallD F__law_draw [.own 1, .val (mC (.int 3))]) (mC (.int 0))))
  (sFor (mRg1 (mO2 oAdd (mC (.int 1)) (mCallD F__law_draw [.own 1, .val (mC (.int 3))]))) (gN 5)
  (sDrop (mCallD F__law_with_fault [.own 1, .own 3, .own 4])))
  sNil)
  (sFrz 3 (sFrz 4 lawEnd))))
theorem mid_ok {ns : List Int} {ds : List Dv} {K0 : List Kd} {L0 : List Lb} {m n : Nat} (hd : Dr ns ds) (hg : Gd m n K0 L0) (hm : 1 ≤ m ∧ m ≤ 3) (hn : 1 ≤ n ∧ n ≤ 4) : ∃ e, lawMid (LE ns (scD K0 L0) ds K0 L0 .un) = .rt (.fz (.bl true)) e := by
  have hc := gd_chk hg hm.2 hn.2
  obtain ⟨g1, g2, g3, g4, g5, g6⟩ := hg
  have hK0 : ∀ k ∈ K0, tx k.1 := fun k hk => name_tx (g4 _ (List.mem_append_left _ (List.mem_map_of_mem hk)))
  have hL0 : ∀ l ∈ L0, tx l.n := fun k hk => name_tx (g4 _ (List.mem_append_right _ (List.mem_map_of_mem hk)))
  -- gone0
  have A : ∃ e', (sIf (mTest (mO2 oEq (mCallD F__law_draw [.own 1, .val (mC (.int 5))]) (mC (.int 3))))
      (sPut 3 (mCallD F__law_draw [.own 1, .val (mOwn 3 wLen)]) (mTup [(mC (.str t57)), (mCallD F__law_pick [.own 1, .val (mFz (mLst [(mC (.int 0)), (mC (.int 8)), (mC (.int 11))]))])]))
      sNil) (LE ns (scD K0 L0) ds K0 L0 .un) = .nx e' ∧ IL ns (scD K0 L0) 3 4 e' := by
    obtain ⟨k, ds1, q1, _, _, hd1⟩ := cdraw (ns := ns) (ds := ds) (e := LE ns (scD K0 L0) ds K0 L0 .un) (i := 1) (j := none) (ma := mC (.int 5)) (m := 5) hd rfl rfl (by omega) (by omega)
    rw [show (LE ns (scD K0 L0) ds K0 L0 .un).set 1 (.ow none (.lst ds1)) = LE ns (scD K0 L0) ds1 K0 L0 .un from rfl] at q1
    refine nx_if (x := decide (k = 3)) (e1 := LE ns (scD K0 L0) ds1 K0 L0 .un) (by rw [ev_test, ev_O2, q1]; simp [oEq, eqS]) (fun _ => ?_) (fun _ => nx_nil ⟨ds1, K0, L0, .un, rfl, rfl, hd1, hK0, hL0, by omega, by omega, by omega, by omega⟩)
    obtain ⟨c, ds2, q2, _, hd2⟩ := cpickI (ns := ns) (ds := ds1) (e := LE ns (scD K0 L0) ds1 K0 L0 .un) (i := 1) (j := none) (ma := mFz (mLst [(mC (.int 0)), (mC (.int 8)), (mC (.int 11))])) (xs := [0, 8, 11]) hd1 rfl rfl (by simp) (by simp)
    rw [show (LE ns (scD K0 L0) ds1 K0 L0 .un).set 1 (.ow none (.lst ds2)) = LE ns (scD K0 L0) ds2 K0 L0 .un from rfl] at q2
    obtain ⟨a, ds3, q3, a1, a2, hd3⟩ := cdraw (ns := ns) (ds := ds2) (e := LE ns (scD K0 L0) ds2 K0 L0 .un) (i := 1) (j := none) (ma := mOwn 3 wLen) (m := K0.length) hd2 rfl (by simp [LE, wLen]) (by omega) (by omega)
    rw [show (LE ns (scD K0 L0) ds2 K0 L0 .un).set 1 (.ow none (.lst ds3)) = LE ns (scD K0 L0) ds3 K0 L0 .un from rfl] at q3
    obtain ⟨a, rfl⟩ := Int.eq_ofNat_of_zero_le a1
    have ha : a < K0.length := by omega
    refine ⟨LE ns (scD K0 L0) ds3 (K0.set a (t57, c)) L0 .un, ?_, ds3, K0.set a (t57, c), L0, .un, rfl, rfl, hd3, ?_, hL0, by simp; omega, by omega, by simp; omega, by omega⟩
    · have hm : mTup [(mC (.str t57)), (mCallD F__law_pick [.own 1, .val (mFz (mLst [(mC (.int 0)), (mC (.int 8)), (mC (.int 11))]))])] (LE ns (scD K0 L0) ds1 K0 L0 .un) = .ok (kD (t57, c)) (LE ns (scD K0 L0) ds2 K0 L0 .un) := by
        simp only [ev_tup, ev_args1, ev_args0, ev_C, q2, Rs.bind_ok, List.length_cons, List.length_nil]
        rfl
      unfold sPut
      rw [hm]
      simp only [Rs.go_ok, show isOw (LE ns (scD K0 L0) ds2 K0 L0 .un)[3]? = true from rfl, if_true, q3]
      simp [LE, ixn, ha]
    · intro y hy
      rcases List.mem_or_eq_of_mem_set hy with hy | rfl
      · exact hK0 y hy
      · exact (show tx t57 from tx_of (by decide))
  obtain ⟨e1, s1, I1⟩ := A
  have B : ∃ e', (sIf (mTest (mO2 oGt (mCallD F__law_draw [.own 1, .val (mC (.int 3))]) (mC (.int 0))))
      (sFor (mRg1 (mO2 oAdd (mC (.int 1)) (mCallD F__law_draw [.own 1, .val (mC (.int 3))]))) (gN 5)
      (sDrop (mCallD F__law_with_fault [.own 1, .own 3, .own 4])))
      sNil) e1 = .nx e' ∧ IL ns (scD K0 L0) 24 43 e' := by
    obtain ⟨ds, K, L, x, rfl, hx, hd, hK, hL, a1, a2, a3, a4⟩ := I1
    obtain ⟨k, ds1, q1, _, _, hd1⟩ := cdraw (ns := ns) (ds := ds) (e := LE ns (scD K0 L0) ds K L x) (i := 1) (j := none) (ma := mC (.int 3)) (m := 3) hd rfl rfl (by omega) (by omega)
    rw [show (LE ns (scD K0 L0) ds K L x).set 1 (.ow none (.lst ds1)) = LE ns (scD K0 L0) ds1 K L x from rfl] at q1
    refine nx_if (x := decide (0 < k)) (e1 := LE ns (scD K0 L0) ds1 K L x) (by rw [ev_test, ev_O2, q1]; simp [oGt]) (fun _ => ?_) (fun _ => nx_nil ⟨ds1, K, L, x, rfl, hx, hd1, hK, hL, by omega, by omega, by omega, by omega⟩)
    obtain ⟨t, ds2, q2, t1, t2, hd2⟩ := cdraw (ns := ns) (ds := ds1) (e := LE ns (scD K0 L0) ds1 K L x) (i := 1) (j := none) (ma := mC (.int 3)) (m := 3) hd1 rfl rfl (by omega) (by omega)
    rw [show (LE ns (scD K0 L0) ds1 K L x).set 1 (.ow none (.lst ds2)) = LE ns (scD K0 L0) ds2 K L x from rfl] at q2
    obtain ⟨t, rfl⟩ := Int.eq_ofNat_of_zero_le t1
    have hr : mRg1 (mO2 oAdd (mC (.int 1)) (mCallD F__law_draw [.own 1, .val (mC (.int 3))])) (LE ns (scD K0 L0) ds1 K L x) = .ok ((List.range (1 + t)).map fun (j : Nat) => Dv.int (j : Int)) (LE ns (scD K0 L0) ds2 K L x) := by
      have h1 : itR 0 (1 + (t : Int)) = some ((List.range (1 + t)).map fun (j : Nat) => Dv.int (j : Int)) := by
        have := itR_nat (n := 1 + t) (by omega)
        simpa using this
      rw [ev_rg1, ev_O2, ev_C]
      simp only [Rs.bind_ok, q2, oAdd, Rs.of_some, h1]
    obtain ⟨e', q, hI⟩ := loop_inv (g := gN 5) (b := (sDrop (mCallD F__law_with_fault [.own 1, .own 3, .own 4]))) (ds := (List.range (1 + t)).map fun (j : Nat) => Dv.int (j : Int)) (e := LE ns (scD K0 L0) ds2 K L x)
      (fun k e => k ≤ 1 + t ∧ IL ns (scD K0 L0) (3 + 7 * k) (4 + 13 * k) e) ⟨by omega, ds2, K, L, x, rfl, hx, hd2, hK, hL, a1, a2, by omega, by omega⟩
      (fun k d e hk he => by
        have hkt : k < 1 + t := by
          have := (List.getElem?_eq_some_iff.mp hk).1
          simpa using this
        obtain ⟨_, ds, K, L, x, rfl, hx, hd, hK, hL, b1, b2, b3, b4⟩ := he
        obtain ⟨e', q, hI⟩ := fault_step (ns := ns) (sc := scD K0 L0) (A := 3 + 7 * k) (B := 4 + 13 * k) (e := LE ns (scD K0 L0) ds K L (.fz d)) ⟨ds, K, L, .fz d, rfl, rfl, hd, hK, hL, b1, b2, b3, b4⟩ (by omega) (by omega)
        refine ⟨LE ns (scD K0 L0) ds K L (.fz d), e', by simp [LE, hx], .inl q, by omega, ?_⟩
        rw [show 3 + 7 * (k + 1) = 3 + 7 * k + 7 by omega, show 4 + 13 * (k + 1) = 4 + 13 * k + 13 by omega]
        exact hI)
    simp only [List.length_map, List.length_range] at hI
    obtain ⟨_, ds, K, L, x, rfl, hx, hd, hK, hL, b1, b2, b3, b4⟩ := hI
    exact ⟨_, (for_ok hr).trans q, ds, K, L, x, rfl, hx, hd, hK, hL, b1, b2, by omega, by omega⟩
  obtain ⟨e2, s2, ds2, K, L, x, rfl, hx, hd2, hK, hL, b1, b2, b3, b4⟩ := B
  obtain ⟨e, q⟩ := end_ok (x := x) hd2 hK hL (by omega) (by omega) hK0 hL0 (by omega) (by omega) hc
  refine ⟨e, ?_⟩
  unfold lawMid
  rw [ev_seq, s1, Sr.then_nx, ev_seq, s2, Sr.then_nx, ← q]
  rfl
theorem law_true : ∀ ns : List Int, ns.length ≤ 63 → ∃ e, m_law (lawE ns 7) = .rt (.fz (.bl true)) e := by
  intro ns _
  have hd : Dr ns [.scr ns, .int 0, .int 0, .int 7] := ⟨0, 0, 7, rfl, by omega, by omega, by omega⟩
  let E : List Dv → Slt → Loc := fun ds x => [.un, .ow none (.lst ds), x, .un, .un, .un, .un, .un, .un]
  obtain ⟨a, ds1, q1, a1, a2, hd1⟩ := cdraw (ns := ns) (e := E [.scr ns, .int 0, .int 0, .int 7] .un) (i := 1) (j := none) (ma := mC (.int 3)) (m := 3) hd rfl rfl (by omega) (by omega)
  obtain ⟨b, ds2, q2, c1, c2, hd2⟩ := cdraw (ns := ns) (e := E ds1 .un) (i := 1) (j := none) (ma := mC (.int 4)) (m := 4) hd1 rfl rfl (by omega) (by omega)
  obtain ⟨a, rfl⟩ := Int.eq_ofNat_of_zero_le a1
  obtain ⟨b, rfl⟩ := Int.eq_ofNat_of_zero_le c1
  obtain ⟨K, L, ds3, q3, hd3, hg⟩ := schema_ok (m := 1 + a) (n := 1 + b) (by omega) (by omega) hd2
  obtain ⟨e, q⟩ := mid_ok hd3 hg (by omega) (by omega)
  refine ⟨e, ?_⟩
  have m1 : mO2 oAdd (mC (.int 1)) (mCallD F__law_draw [.own 1, .val (mC (.int 3))]) (E [.scr ns, .int 0, .int 0, .int 7] .un) = .ok (.int ((1 + a : Nat) : Int)) (E ds1 .un) := by
    rw [ev_O2, ev_C, Rs.bind_ok, q1]
    simp [oAdd, E]
  have m2 : mO2 oAdd (mC (.int 1)) (mCallD F__law_draw [.own 1, .val (mC (.int 4))]) (E ds1 .un) = .ok (.int ((1 + b : Nat) : Int)) (E ds2 .un) := by
    rw [ev_O2, ev_C, Rs.bind_ok, q2]
    simp [oAdd, E]
  have m3 := call_4 (i := 1) (j := none) (e := E [.scr ns, .int 0, .int 0, .int 7] .un) (mc := mC (.int 6)) rfl m1 m2 rfl rfl q3
  rw [← q]
  show (sSeq _ (sSeq _ (sSeq _ lawMid))) (E [.scr ns, .int 0, .int 0, .int 7] .un) = _
  rw [ev_seq, ev_set, m3]
  simp only [E, Rs.go_ok, List.set_cons_succ, List.set_cons_zero, ev_gN, List.getElem?_cons_succ, List.getElem?_cons_zero, ev_free1, if_true, ev_nxO1, Sr.then_nx]
  simp [listD, sc_1, sc_2, LE]
end K01

set_option Elab.async false
set_option linter.all false
set_option maxRecDepth 100000
open PySem PySem.W PyProof.Rows
set_option maxHeartbeats 0 in
theorem PySem.Challenge.cw_edgesaway_k01_schemas_checked_holds : PySem.Challenge.rw_edgesaway_k01_schemas_checked.Holds := by
  w_on; o_law; k_head; (case hw => w_witness2)
  k_fill
  refine L2.walk_of (l := PySem.Challenge.rw_edgesaway_k01_schemas_checked) (n := 63) (k := 6) (x := "_law_script") (CX := fun _ => L2.CX0) (sp := fun w => Ml.spLaw _) rfl (by decide) rfl ⟨rfl, by decide, by decide⟩ (fun w h Y => PySem.W.kIn_of Y) ?F (fun _ _ a ns hl _ hS => ⟨a, ns, rfl, hS, hl, fun _ => rfl⟩) (fun _ _ _ _ _ h => h)
  case F =>
    intro w mg fa h KX G hmg
    refine' K01.all_mk KX G hmg K01.law_true ?a ?l ?c ?k (Ml.defK_mk ?a__law_begin ?l__law_begin ?c__law_begin ?k__law_begin) (Ml.defK_mk ?a_is_name ?l_is_name ?c_is_name ?k_is_name) (Ml.defK_mk ?a_check_label ?l_check_label ?c_check_label ?k_check_label) (Ml.defK_mk ?a_check_new_name ?l_check_new_name ?c_check_new_name ?k_check_new_name) (Ml.defK_mk ?a_node_count ?l_node_count ?c_node_count ?k_node_count) (Ml.defK_mk ?a_check_schema ?l_check_schema ?c_check_schema ?k_check_schema) (Ml.defK_mk ?a_first_node ?l_first_node ?c_first_node ?k_first_node) (Ml.defK_mk ?a_nodes_of ?l_nodes_of ?c_nodes_of ?k_nodes_of) (Ml.defK_mk ?a_kind_of ?l_kind_of ?c_kind_of ?k_kind_of) (Ml.defK_mk ?a_label_kinds ?l_label_kinds ?c_label_kinds ?k_label_kinds) (Ml.defK_mk ?a_is_mark ?l_is_mark ?c_is_mark ?k_is_mark) (Ml.defK_mk ?a_is_edge ?l_is_edge ?c_is_edge ?k_is_edge) (Ml.defK_mk ?a_edges_let ?l_edges_let ?c_edges_let ?k_edges_let) (Ml.defK_mk ?a__law_draw ?l__law_draw ?c__law_draw ?k__law_draw) (Ml.defK_mk ?a__law_pick ?l__law_pick ?c__law_pick ?k__law_pick) (Ml.defK_mk ?a__law_pop ?l__law_pop ?c__law_pop ?k__law_pop) (Ml.defK_mk ?a__law_rare ?l__law_rare ?c__law_rare ?k__law_rare) (Ml.defK_mk ?a__law_pool ?l__law_pool ?c__law_pool ?k__law_pool) (Ml.defK_mk ?a__law_is_int ?l__law_is_int ?c__law_is_int ?k__law_is_int) (Ml.defK_mk ?a__law_first ?l__law_first ?c__law_first ?k__law_first) (Ml.defK_mk ?a__law_nodes ?l__law_nodes ?c__law_nodes ?k__law_nodes) (Ml.defK_mk ?a__law_let ?l__law_let ?c__law_let ?k__law_let) (Ml.defK_mk ?a__law_schema ?l__law_schema ?c__law_schema ?k__law_schema) (Ml.defK_mk ?a__law_odd_name ?l__law_odd_name ?c__law_odd_name ?k__law_odd_name) (Ml.defK_mk ?a__law_name_good ?l__law_name_good ?c__law_name_good ?k__law_name_good) (Ml.defK_mk ?a__law_with_fault ?l__law_with_fault ?c__law_with_fault ?k__law_with_fault) (Ml.defK_mk ?a__law_due_kind ?l__law_due_kind ?c__law_due_kind ?k__law_due_kind) (Ml.defK_mk ?a__law_due_label ?l__law_due_label ?c__law_due_label ?k__law_due_label) (Ml.defK_mk ?a__law_due ?l__law_due ?c__law_due ?k__law_due) (Ml.defK_mk ?a__law_class ?l__law_class ?c__law_class ?k__law_class) (Ml.defK_mk ?a__law_checked ?l__law_checked ?c__law_checked ?k__law_checked) (Ml.defK_mk ?a__law_nodes_right ?l__law_nodes_right ?c__law_nodes_right ?k__law_nodes_right) (Ml.defK_mk ?a__law_edges_right ?l__law_edges_right ?c__law_edges_right ?k__law_edges_right) (Ml.defK_mk ?a__law_names_right ?l__law_names_right ?c__law_names_right ?k__law_names_right) ?z_ValueError ?z_abs ?z_all ?z_bool ?z_enumerate ?z_int ?z_isinstance ?z_len ?z_list ?z_range ?z_sorted ?z_str ?z_sum ?z_tuple (Ml.conK_s ?q_DIGITS) (Ml.conK_s ?q_LETTERS) (Ml.conK_i ?q_LONGEST_NAME) (Ml.conK_i ?q_MOST_KINDS) (Ml.conK_i ?q_MOST_LABELS) (Ml.conK_i ?q_MOST_NODES) (Ml.conK_i ?q_MOST_PRICE) (Ml.conT_mk ?q_RESERVED ?y_RESERVED ?w_RESERVED ?u_RESERVED) (Ml.conT_mk ?q_RULES ?y_RULES ?w_RULES ?u_RULES) (L2.errRaw_mk (st := L2.initS (K01.topS 4)) (q := "BadName.__init__") ?ns_BadName (by decide) ?xL_BadName ?bm_BadName ?sa_BadName ?ga_BadName ?gg_BadName (List.forall_mem_cons.mpr ⟨?noname_BadName, List.forall_mem_cons.mpr ⟨?nonumber_BadName, List.forall_mem_cons.mpr ⟨?nopart_BadName, fun _ h => (List.not_mem_nil h).elim⟩⟩⟩) ?iC_BadName ?tI_BadName ?lk_BadName ?cd_BadName ?kC_BadName ?eC_BadName ?tC_BadName ?hC_BadName ?cl_BadName ?ca_BadName ?sg_BadName ?tk_BadName ?mo_BadName K01.sc_BadName rfl (Or.inl rfl) (Or.inl rfl) (by decide) (by decide) (fun _ _ _ => rfl) (fun us hl => match us, hl with | [_, _], _ => rfl)) (L2.errRaw_mk (st := L2.initS (K01.topS 6)) (q := "BadNumber.__init__") ?ns_BadNumber (by decide) ?xL_BadNumber ?bm_BadNumber ?sa_BadNumber ?ga_BadNumber ?gg_BadNumber (List.forall_mem_cons.mpr ⟨?noname_BadNumber, List.forall_mem_cons.mpr ⟨?nonumber_BadNumber, List.forall_mem_cons.mpr ⟨?nopart_BadNumber, fun _ h => (List.not_mem_nil h).elim⟩⟩⟩) ?iC_BadNumber ?tI_BadNumber ?lk_BadNumber ?cd_BadNumber ?kC_BadNumber ?eC_BadNumber ?tC_BadNumber ?hC_BadNumber ?cl_BadNumber ?ca_BadNumber ?sg_BadNumber ?tk_BadNumber ?mo_BadNumber K01.sc_BadNumber rfl (Or.inl rfl) (Or.inl rfl) (by decide) (by decide) (fun _ _ _ => rfl) (fun us hl => match us, hl with | [_, _], _ => rfl)) (L2.errRaw_mk (st := L2.initS (K01.topS 7)) (q := "BadRule.__init__") ?ns_BadRule (by decide) ?xL_BadRule ?bm_BadRule ?sa_BadRule ?ga_BadRule ?gg_BadRule (List.forall_mem_cons.mpr ⟨?noname_BadRule, List.forall_mem_cons.mpr ⟨?nonumber_BadRule, List.forall_mem_cons.mpr ⟨?nopart_BadRule, fun _ h => (List.not_mem_nil h).elim⟩⟩⟩) ?iC_BadRule ?tI_BadRule ?lk_BadRule ?cd_BadRule ?kC_BadRule ?eC_BadRule ?tC_BadRule ?hC_BadRule ?cl_BadRule ?ca_BadRule ?sg_BadRule ?tk_BadRule ?mo_BadRule K01.sc_BadRule rfl (Or.inl rfl) (Or.inl rfl) (by decide) (by decide) (fun _ _ _ => rfl) (fun us hl => match us, hl with | [_, _], _ => rfl)) (L2.errRaw_mk (st := L2.initS (K01.topS 9)) (q := "TooLarge.__init__") ?ns_TooLarge (by decide) ?xL_TooLarge ?bm_TooLarge ?sa_TooLarge ?ga_TooLarge ?gg_TooLarge (List.forall_mem_cons.mpr ⟨?noname_TooLarge, List.forall_mem_cons.mpr ⟨?nonumber_TooLarge, List.forall_mem_cons.mpr ⟨?nopart_TooLarge, fun _ h => (List.not_mem_nil h).elim⟩⟩⟩) ?iC_TooLarge ?tI_TooLarge ?lk_TooLarge ?cd_TooLarge ?kC_TooLarge ?eC_TooLarge ?tC_TooLarge ?hC_TooLarge ?cl_TooLarge ?ca_TooLarge ?sg_TooLarge ?tk_TooLarge ?mo_TooLarge K01.sc_TooLarge rfl (Or.inl rfl) (Or.inl rfl) (by decide) (by decide) (fun _ _ _ => rfl) (fun us hl => match us, hl with | [_, _], _ => rfl)) (L2.errRaw_mk (st := L2.initS (K01.topS 5)) (q := "Twice.__init__") ?ns_Twice (by decide) ?xL_Twice ?bm_Twice ?sa_Twice ?ga_Twice ?gg_Twice (List.forall_mem_cons.mpr ⟨?noname_Twice, List.forall_mem_cons.mpr ⟨?nonumber_Twice, List.forall_mem_cons.mpr ⟨?nopart_Twice, fun _ h => (List.not_mem_nil h).elim⟩⟩⟩) ?iC_Twice ?tI_Twice ?lk_Twice ?cd_Twice ?kC_Twice ?eC_Twice ?tC_Twice ?hC_Twice ?cl_Twice ?ca_Twice ?sg_Twice ?tk_Twice ?mo_Twice K01.sc_Twice rfl (Or.inl rfl) (Or.inl rfl) (by decide) (by decide) (fun _ _ _ => rfl) (fun us hl => match us, hl with | [_, _], _ => rfl)) ?n_AwayError ?n_BadName ?n_BadNumber ?n_BadRule ?n_LimitError ?n_SchemaError ?n_TooLarge ?n_Twice ?n_Unknown ?i_AwayError ?ty_AwayError ?sr_AwayError ?i_BadName ?ty_BadName ?sr_BadName ?i_BadNumber ?ty_BadNumber ?sr_BadNumber ?i_BadRule ?ty_BadRule ?sr_BadRule ?i_LimitError ?ty_LimitError ?sr_LimitError ?i_SchemaError ?ty_SchemaError ?sr_SchemaError ?i_TooLarge ?ty_TooLarge ?sr_TooLarge ?i_Twice ?ty_Twice ?sr_Twice ?i_Unknown ?ty_Unknown ?sr_Unknown ?be_AwayError ?hd_AwayError ?su_AwayError_BadName ?su_AwayError_BadNumber ?su_AwayError_BadRule ?su_AwayError_TooLarge ?su_AwayError_Twice ?su_BadName_BadName ?su_BadName_BadNumber ?su_BadName_BadRule ?su_BadName_TooLarge ?su_BadName_Twice ?su_BadNumber_BadName ?su_BadNumber_BadNumber ?su_BadNumber_BadRule ?su_BadNumber_TooLarge ?su_BadNumber_Twice ?su_BadRule_BadName ?su_BadRule_BadNumber ?su_BadRule_BadRule ?su_BadRule_TooLarge ?su_BadRule_Twice ?su_LimitError_BadName ?su_LimitError_BadNumber ?su_LimitError_BadRule ?su_LimitError_TooLarge ?su_LimitError_Twice ?su_SchemaError_BadName ?su_SchemaError_BadNumber ?su_SchemaError_BadRule ?su_SchemaError_TooLarge ?su_SchemaError_Twice ?su_TooLarge_BadName ?su_TooLarge_BadNumber ?su_TooLarge_BadRule ?su_TooLarge_TooLarge ?su_TooLarge_Twice ?su_Twice_BadName ?su_Twice_BadNumber ?su_Twice_BadRule ?su_Twice_TooLarge ?su_Twice_Twice ?su_Unknown_BadName ?su_Unknown_BadNumber ?su_Unknown_BadRule ?su_Unknown_TooLarge ?su_Unknown_Twice ?su_ValueError_BadName ?su_ValueError_BadNumber ?su_ValueError_BadRule ?su_ValueError_TooLarge ?su_ValueError_Twice
    (case a => k_is); (case l => k_is); (case c => k_is); (case k => k_is)
    (case a__law_begin => k_is)
    (case l__law_begin => k_is)
    (case c__law_begin => k_is)
    (case k__law_begin => k_is)
    (case a_is_name => k_is)
    (case l_is_name => k_is)
    (case c_is_name => k_is)
    (case k_is_name => k_is)
    (case a_check_label => k_is)
    (case l_check_label => k_is)
    (case c_check_label => k_is)
    (case k_check_label => k_is)
    (case a_check_new_name => k_is)
    (case l_check_new_name => k_is)
    (case c_check_new_name => k_is)
    (case k_check_new_name => k_is)
    (case a_node_count => k_is)
    (case l_node_count => k_is)
    (case c_node_count => k_is)
    (case k_node_count => k_is)
    (case a_check_schema => k_is)
    (case l_check_schema => k_is)
    (case c_check_schema => k_is)
    (case k_check_schema => k_is)
    (case a_first_node => k_is)
    (case l_first_node => k_is)
    (case c_first_node => k_is)
    (case k_first_node => k_is)
    (case a_nodes_of => k_is)
    (case l_nodes_of => k_is)
    (case c_nodes_of => k_is)
    (case k_nodes_of => k_is)
    (case a_kind_of => k_is)
    (case l_kind_of => k_is)
    (case c_kind_of => k_is)
    (case k_kind_of => k_is)
    (case a_label_kinds => k_is)
    (case l_label_kinds => k_is)
    (case c_label_kinds => k_is)
    (case k_label_kinds => k_is)
    (case a_is_mark => k_is)
    (case l_is_mark => k_is)
    (case c_is_mark => k_is)
    (case k_is_mark => k_is)
    (case a_is_edge => k_is)
    (case l_is_edge => k_is)
    (case c_is_edge => k_is)
    (case k_is_edge => k_is)
    (case a_edges_let => k_is)
    (case l_edges_let => k_is)
    (case c_edges_let => k_is)
    (case k_edges_let => k_is)
    (case a__law_draw => k_is)
    (case l__law_draw => k_is)
    (case c__law_draw => k_is)
    (case k__law_draw => k_is)
    (case a__law_pick => k_is)
    (case l__law_pick => k_is)
    (case c__law_pick => k_is)
    (case k__law_pick => k_is)
    (case a__law_pop => k_is)
    (case l__law_pop => k_is)
    (case c__law_pop => k_is)
    (case k__law_pop => k_is)
    (case a__law_rare => k_is)
    (case l__law_rare => k_is)
    (case c__law_rare => k_is)
    (case k__law_rare => k_is)
    (case a__law_pool => k_is)
    (case l__law_pool => k_is)
    (case c__law_pool => k_is)
    (case k__law_pool => k_is)
    (case a__law_is_int => k_is)
    (case l__law_is_int => k_is)
    (case c__law_is_int => k_is)
    (case k__law_is_int => k_is)
    (case a__law_first => k_is)
    (case l__law_first => k_is)
    (case c__law_first => k_is)
    (case k__law_first => k_is)
    (case a__law_nodes => k_is)
    (case l__law_nodes => k_is)
    (case c__law_nodes => k_is)
    (case k__law_nodes => k_is)
    (case a__law_let => k_is)
    (case l__law_let => k_is)
    (case c__law_let => k_is)
    (case k__law_let => k_is)
    (case a__law_schema => k_is)
    (case l__law_schema => k_is)
    (case c__law_schema => k_is)
    (case k__law_schema => k_is)
    (case a__law_odd_name => k_is)
    (case l__law_odd_name => k_is)
    (case c__law_odd_name => k_is)
    (case k__law_odd_name => k_is)
    (case a__law_name_good => k_is)
    (case l__law_name_good => k_is)
    (case c__law_name_good => k_is)
    (case k__law_name_good => k_is)
    (case a__law_with_fault => k_is)
    (case l__law_with_fault => k_is)
    (case c__law_with_fault => k_is)
    (case k__law_with_fault => k_is)
    (case a__law_due_kind => k_is)
    (case l__law_due_kind => k_is)
    (case c__law_due_kind => k_is)
    (case k__law_due_kind => k_is)
    (case a__law_due_label => k_is)
    (case l__law_due_label => k_is)
    (case c__law_due_label => k_is)
    (case k__law_due_label => k_is)
    (case a__law_due => k_is)
    (case l__law_due => k_is)
    (case c__law_due => k_is)
    (case k__law_due => k_is)
    (case a__law_class => k_is)
    (case l__law_class => k_is)
    (case c__law_class => k_is)
    (case k__law_class => k_is)
    (case a__law_checked => k_is)
    (case l__law_checked => k_is)
    (case c__law_checked => k_is)
    (case k__law_checked => k_is)
    (case a__law_nodes_right => k_is)
    (case l__law_nodes_right => k_is)
    (case c__law_nodes_right => k_is)
    (case k__law_nodes_right => k_is)
    (case a__law_edges_right => k_is)
    (case l__law_edges_right => k_is)
    (case c__law_edges_right => k_is)
    (case k__law_edges_right => k_is)
    (case a__law_names_right => k_is)
    (case l__law_names_right => k_is)
    (case c__law_names_right => k_is)
    (case k__law_names_right => k_is)
    (case z_ValueError => (unfold Ml.FreeK; k_is))
    (case z_abs => (unfold Ml.FreeK; k_is))
    (case z_all => (unfold Ml.FreeK; k_is))
    (case z_bool => (unfold Ml.FreeK; k_is))
    (case z_enumerate => (unfold Ml.FreeK; k_is))
    (case z_int => (unfold Ml.FreeK; k_is))
    (case z_isinstance => (unfold Ml.FreeK; k_is))
    (case z_len => (unfold Ml.FreeK; k_is))
    (case z_list => (unfold Ml.FreeK; k_is))
    (case z_range => (unfold Ml.FreeK; k_is))
    (case z_sorted => (unfold Ml.FreeK; k_is))
    (case z_str => (unfold Ml.FreeK; k_is))
    (case z_sum => (unfold Ml.FreeK; k_is))
    (case z_tuple => (unfold Ml.FreeK; k_is))
    (case q_DIGITS => k_is)
    (case q_LETTERS => k_is)
    (case q_LONGEST_NAME => k_is)
    (case q_MOST_KINDS => k_is)
    (case q_MOST_LABELS => k_is)
    (case q_MOST_NODES => k_is)
    (case q_MOST_PRICE => k_is)
    (case q_RESERVED => k_is)
    (case y_RESERVED => k_is)
    (case q_RULES => k_is)
    (case y_RULES => k_is)
    (case ns_BadName => k_is)
    (case xL_BadName => k_is)
    (case sa_BadName => k_is)
    (case ga_BadName => k_is)
    (case gg_BadName => k_is)
    (case noname_BadName => k_is)
    (case nonumber_BadName => k_is)
    (case nopart_BadName => k_is)
    (case iC_BadName => k_is)
    (case tI_BadName => k_is)
    (case lk_BadName => k_is)
    (case cd_BadName => k_is)
    (case kC_BadName => k_is)
    (case eC_BadName => k_is)
    (case tC_BadName => k_is)
    (case hC_BadName => k_is)
    (case cl_BadName => k_is)
    (case ca_BadName => k_is)
    (case sg_BadName => k_is)
    (case tk_BadName => k_is)
    (case mo_BadName => k_is)
    (case ns_BadNumber => k_is)
    (case xL_BadNumber => k_is)
    (case sa_BadNumber => k_is)
    (case ga_BadNumber => k_is)
    (case gg_BadNumber => k_is)
    (case noname_BadNumber => k_is)
    (case nonumber_BadNumber => k_is)
    (case nopart_BadNumber => k_is)
    (case iC_BadNumber => k_is)
    (case tI_BadNumber => k_is)
    (case lk_BadNumber => k_is)
    (case cd_BadNumber => k_is)
    (case kC_BadNumber => k_is)
    (case eC_BadNumber => k_is)
    (case tC_BadNumber => k_is)
    (case hC_BadNumber => k_is)
    (case cl_BadNumber => k_is)
    (case ca_BadNumber => k_is)
    (case sg_BadNumber => k_is)
    (case tk_BadNumber => k_is)
    (case mo_BadNumber => k_is)
    (case ns_BadRule => k_is)
    (case xL_BadRule => k_is)
    (case sa_BadRule => k_is)
    (case ga_BadRule => k_is)
    (case gg_BadRule => k_is)
    (case noname_BadRule => k_is)
    (case nonumber_BadRule => k_is)
    (case nopart_BadRule => k_is)
    (case iC_BadRule => k_is)
    (case tI_BadRule => k_is)
    (case lk_BadRule => k_is)
    (case cd_BadRule => k_is)
    (case kC_BadRule => k_is)
    (case eC_BadRule => k_is)
    (case tC_BadRule => k_is)
    (case hC_BadRule => k_is)
    (case cl_BadRule => k_is)
    (case ca_BadRule => k_is)
    (case sg_BadRule => k_is)
    (case tk_BadRule => k_is)
    (case mo_BadRule => k_is)
    (case ns_TooLarge => k_is)
    (case xL_TooLarge => k_is)
    (case sa_TooLarge => k_is)
    (case ga_TooLarge => k_is)
    (case gg_TooLarge => k_is)
    (case noname_TooLarge => k_is)
    (case nonumber_TooLarge => k_is)
    (case nopart_TooLarge => k_is)
    (case iC_TooLarge => k_is)
    (case tI_TooLarge => k_is)
    (case lk_TooLarge => k_is)
    (case cd_TooLarge => k_is)
    (case kC_TooLarge => k_is)
    (case eC_TooLarge => k_is)
    (case tC_TooLarge => k_is)
    (case hC_TooLarge => k_is)
    (case cl_TooLarge => k_is)
    (case ca_TooLarge => k_is)
    (case sg_TooLarge => k_is)
    (case tk_TooLarge => k_is)
    (case mo_TooLarge => k_is)
    (case ns_Twice => k_is)
    (case xL_Twice => k_is)
    (case sa_Twice => k_is)
    (case ga_Twice => k_is)
    (case gg_Twice => k_is)
    (case noname_Twice => k_is)
    (case nonumber_Twice => k_is)
    (case nopart_Twice => k_is)
    (case iC_Twice => k_is)
    (case tI_Twice => k_is)
    (case lk_Twice => k_is)
    (case cd_Twice => k_is)
    (case kC_Twice => k_is)
    (case eC_Twice => k_is)
    (case tC_Twice => k_is)
    (case hC_Twice => k_is)
    (case cl_Twice => k_is)
    (case ca_Twice => k_is)
    (case sg_Twice => k_is)
    (case tk_Twice => k_is)
    (case mo_Twice => k_is)
    (case n_AwayError => k_is)
    (case n_BadName => k_is)
    (case n_BadNumber => k_is)
    (case n_BadRule => k_is)
    (case n_LimitError => k_is)
    (case n_SchemaError => k_is)
    (case n_TooLarge => k_is)
    (case n_Twice => k_is)
    (case n_Unknown => k_is)
    (case i_AwayError => k_is)
    (case ty_AwayError => k_is)
    (case sr_AwayError => first | rfl | k_is)
    (case i_BadName => k_is)
    (case ty_BadName => k_is)
    (case sr_BadName => first | rfl | k_is)
    (case i_BadNumber => k_is)
    (case ty_BadNumber => k_is)
    (case sr_BadNumber => first | rfl | k_is)
    (case i_BadRule => k_is)
    (case ty_BadRule => k_is)
    (case sr_BadRule => first | rfl | k_is)
    (case i_LimitError => k_is)
    (case ty_LimitError => k_is)
    (case sr_LimitError => first | rfl | k_is)
    (case i_SchemaError => k_is)
    (case ty_SchemaError => k_is)
    (case sr_SchemaError => first | rfl | k_is)
    (case i_TooLarge => k_is)
    (case ty_TooLarge => k_is)
    (case sr_TooLarge => first | rfl | k_is)
    (case i_Twice => k_is)
    (case ty_Twice => k_is)
    (case sr_Twice => first | rfl | k_is)
    (case i_Unknown => k_is)
    (case ty_Unknown => k_is)
    (case sr_Unknown => first | rfl | k_is)
    (case be_AwayError => k_is)
    (case hd_AwayError => k_is)
    (case su_AwayError_BadName => first | rfl | k_is)
    (case su_AwayError_BadNumber => first | rfl | k_is)
    (case su_AwayError_BadRule => first | rfl | k_is)
    (case su_AwayError_TooLarge => first | rfl | k_is)
    (case su_AwayError_Twice => first | rfl | k_is)
    (case su_BadName_BadName => first | rfl | k_is)
    (case su_BadName_BadNumber => first | rfl | k_is)
    (case su_BadName_BadRule => first | rfl | k_is)
    (case su_BadName_TooLarge => first | rfl | k_is)
    (case su_BadName_Twice => first | rfl | k_is)
    (case su_BadNumber_BadName => first | rfl | k_is)
    (case su_BadNumber_BadNumber => first | rfl | k_is)
    (case su_BadNumber_BadRule => first | rfl | k_is)
    (case su_BadNumber_TooLarge => first | rfl | k_is)
    (case su_BadNumber_Twice => first | rfl | k_is)
    (case su_BadRule_BadName => first | rfl | k_is)
    (case su_BadRule_BadNumber => first | rfl | k_is)
    (case su_BadRule_BadRule => first | rfl | k_is)
    (case su_BadRule_TooLarge => first | rfl | k_is)
    (case su_BadRule_Twice => first | rfl | k_is)
    (case su_LimitError_BadName => first | rfl | k_is)
    (case su_LimitError_BadNumber => first | rfl | k_is)
    (case su_LimitError_BadRule => first | rfl | k_is)
    (case su_LimitError_TooLarge => first | rfl | k_is)
    (case su_LimitError_Twice => first | rfl | k_is)
    (case su_SchemaError_BadName => first | rfl | k_is)
    (case su_SchemaError_BadNumber => first | rfl | k_is)
    (case su_SchemaError_BadRule => first | rfl | k_is)
    (case su_SchemaError_TooLarge => first | rfl | k_is)
    (case su_SchemaError_Twice => first | rfl | k_is)
    (case su_TooLarge_BadName => first | rfl | k_is)
    (case su_TooLarge_BadNumber => first | rfl | k_is)
    (case su_TooLarge_BadRule => first | rfl | k_is)
    (case su_TooLarge_TooLarge => first | rfl | k_is)
    (case su_TooLarge_Twice => first | rfl | k_is)
    (case su_Twice_BadName => first | rfl | k_is)
    (case su_Twice_BadNumber => first | rfl | k_is)
    (case su_Twice_BadRule => first | rfl | k_is)
    (case su_Twice_TooLarge => first | rfl | k_is)
    (case su_Twice_Twice => first | rfl | k_is)
    (case su_Unknown_BadName => first | rfl | k_is)
    (case su_Unknown_BadNumber => first | rfl | k_is)
    (case su_Unknown_BadRule => first | rfl | k_is)
    (case su_Unknown_TooLarge => first | rfl | k_is)
    (case su_Unknown_Twice => first | rfl | k_is)
    (case su_ValueError_BadName => first | rfl | k_is)
    (case su_ValueError_BadNumber => first | rfl | k_is)
    (case su_ValueError_BadRule => first | rfl | k_is)
    (case su_ValueError_TooLarge => first | rfl | k_is)
    (case su_ValueError_Twice => first | rfl | k_is)
    (case w_RESERVED => decide +kernel)
    (case u_RESERVED => decide +kernel)
    (case w_RULES => decide +kernel)
    (case u_RULES => decide +kernel)
    (case bm_BadName => decide +kernel)
    (case bm_BadNumber => decide +kernel)
    (case bm_BadRule => decide +kernel)
    (case bm_TooLarge => decide +kernel)
    (case bm_Twice => decide +kernel)
