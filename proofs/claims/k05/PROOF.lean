import PyProof.Rows.All
import HandS.ForMost
import PyProof.ListStr
import PyProof.StrOps2
import HandS.IsInst
import HandS.Codes
import PySem.Challenge.RW_edgesaway_k05_tokens
/-! The mirror's own words: data without addresses, the slots of a def, what an expression, a statement, a def comes to. Core Lean alone. -/
namespace Ml
inductive Dv where
  | non | bl (b : Bool) | int (i : Int) | str (s : List Nat) | tup (ds : List Dv) | lst (ds : List Dv) | scr (ns : List Int)
/-- an object that may be changed: a list -/
inductive Ob where
  | lst (ds : List Dv)
inductive Slt where
  | un | fz (d : Dv) | ow (j : Option Nat) (o : Ob)
abbrev Loc := List Slt
abbrev Err := List Nat × List Dv
inductive Rs (α : Type) where
  | ok (a : α) (e : Loc) | er (x : Err) (e : Loc) | ud
abbrev ME (α : Type) := Loc → Rs α
def Rs.bind {α β : Type} (r : Rs α) (f : α → Loc → Rs β) : Rs β := match r with
  | .ok a e => f a e
  | .er x e => .er x e
  | .ud => .ud
def Rs.of {α : Type} (o : Option α) (e : Loc) : Rs α := match o with
  | some a => .ok a e
  | none => .ud
@[simp] theorem Rs.bind_ok {α β : Type} (a : α) (e : Loc) (f : α → Loc → Rs β) : (Rs.ok a e).bind f = f a e := rfl
@[simp] theorem Rs.bind_ud {α β : Type} (f : α → Loc → Rs β) : (Rs.ud : Rs α).bind f = .ud := rfl
@[simp] theorem Rs.bind_er {α β : Type} (x : Err) (e : Loc) (f : α → Loc → Rs β) : (Rs.er x e : Rs α).bind f = .er x e := rfl
@[simp] theorem Rs.of_some {α : Type} (a : α) (e : Loc) : Rs.of (some a) e = .ok a e := rfl
@[simp] theorem Rs.of_none {α : Type} (e : Loc) : Rs.of (none : Option α) e = .ud := rfl

def lim : Nat := 16000000

/-! ### expressions -/
def mVar (i : Nat) : ME Dv := fun e => match e[i]? with
  | some (.fz d) => .ok d e
  | _ => .ud
def mC (d : Dv) : ME Dv := fun e => .ok d e
def mO1 (f : Dv → Option Dv) (ma : ME Dv) : ME Dv := fun e => (ma e).bind fun a e => .of (f a) e
def mO2 (f : Dv → Dv → Option Dv) (ma mb : ME Dv) : ME Dv := fun e => (ma e).bind fun a e => (mb e).bind fun b e => .of (f a b) e
/-- an op whose answer is a new list -/
def mN1 (f : Dv → Option (List Dv)) (ma : ME Dv) : ME Ob := fun e => (ma e).bind fun a e => .of ((f a).map Ob.lst) e
def mN2 (f : Dv → Dv → Option (List Dv)) (ma mb : ME Dv) : ME Ob := fun e => (ma e).bind fun a e => (mb e).bind fun b e => .of ((f a b).map Ob.lst) e
/-- a text's method with an argument -/
def mM1 (f : List Nat → Dv → Option Dv) (ma mb : ME Dv) : ME Dv := fun e => (ma e).bind fun a e => match a with
  | .str s => (mb e).bind fun b e => .of (f s b) e
  | _ => .ud
def mM1N (f : List Nat → Dv → Option (List Dv)) (ma mb : ME Dv) : ME Ob := fun e => (ma e).bind fun a e => match a with
  | .str s => (mb e).bind fun b e => .of ((f s b).map Ob.lst) e
  | _ => .ud
def Ob.toD : Ob → Dv
  | .lst ds => .lst ds
def mFz (m : ME Ob) : ME Dv := fun e => (m e).bind fun o e => .ok o.toD e
def mArgs : List (ME Dv) → ME (List Dv)
  | [] => fun e => .ok [] e
  | m :: ms => fun e => (m e).bind fun d e => (mArgs ms e).bind fun ds e => .ok (d :: ds) e
def mTup (ms : List (ME Dv)) : ME Dv := fun e => (mArgs ms e).bind fun ds e => if ds.length ≤ 1000 then .ok (.tup ds) e else .ud
def mLst (ms : List (ME Dv)) : ME Ob := fun e => (mArgs ms e).bind fun ds e => if ds.length ≤ 1000 then .ok (.lst ds) e else .ud
/-- an owned list as an operand, read when the op is done -/
def mOwn (i : Nat) (f : List Dv → Option Dv) : ME Dv := fun e => match e[i]? with
  | some (.ow _ (.lst ds)) => .of (f ds) e
  | _ => .ud
def mOwn2 (i : Nat) (f : List Dv → Dv → Option Dv) (mb : ME Dv) : ME Dv := fun e => match e[i]? with
  | some (.ow _ _) => (mb e).bind fun b e => mOwn i (fun ds => f ds b) e
  | _ => .ud
def mTest (m : ME Dv) : ME Bool := fun e => (m e).bind fun d e => match d with
  | .bl b => .ok b e
  | _ => .ud
/-- the truth of a value -/
def truthD : Dv → Option Bool
  | .bl b => some b
  | .non => some false
  | .int i => some (i != 0)
  | .str s => if s.length ≤ lim then some (s.length != 0) else none
  | .tup ds => some (!ds.isEmpty)
  | .lst ds => some (!ds.isEmpty)
  | .scr _ => none
def mTruth (m : ME Dv) : ME Bool := fun e => (m e).bind fun d e => .of (truthD d) e
def mOwnTruth (i : Nat) : ME Bool := fun e => match e[i]? with
  | some (.ow _ (.lst ds)) => .ok (!ds.isEmpty) e
  | _ => .ud
def mAnd (a b : ME Bool) : ME Bool := fun e => (a e).bind fun x e => if x = true then b e else .ok false e
def mOr (a b : ME Bool) : ME Bool := fun e => (a e).bind fun x e => if x = true then .ok true e else b e
def mNot (a : ME Bool) : ME Bool := fun e => (a e).bind fun x e => .ok (!x) e
def mAndV (a b : ME Dv) : ME Dv := fun e => (mTest a e).bind fun x e => if x = true then b e else .ok (.bl false) e
def mOrV (a b : ME Dv) : ME Dv := fun e => (mTest a e).bind fun x e => if x = true then .ok (.bl true) e else b e
def mNotV (a : ME Dv) : ME Dv := fun e => (mTest a e).bind fun x e => .ok (.bl (!x)) e
def mIte (t : ME Bool) (a b : ME Dv) : ME Dv := fun e => (t e).bind fun x e => if x = true then a e else b e

/-! ### targets -/
abbrev MG := Dv → Loc → Option Loc
def free : Option Slt → Bool
  | some .un => true
  | some (.fz _) => true
  | some (.ow none _) => true
  | _ => false
def gN (i : Nat) : MG := fun d e => if free e[i]? = true then some (e.set i (.fz d)) else none
def gTs : List MG → List Dv → Loc → Option Loc
  | [], [], e => some e
  | g :: gs, d :: ds, e => (g d e).bind fun e => gTs gs ds e
  | _, _, _ => none
def gT (gs : List MG) : MG := fun d e => match d with
  | .tup ds => gTs gs ds e
  | _ => none

/-! ### calls -/
def isOw : Option Slt → Bool
  | some (.ow _ _) => true
  | _ => false
inductive Fres where
  | ok (s : Slt) (outs : List Ob) | er (x : Err) (outs : List Ob) | ud
abbrev Fn := List Slt → Fres
inductive MA where
  | val (m : ME Dv) | own (i : Nat)
inductive AV where
  | val (d : Dv) | own (i : Nat)
def mAs : List MA → ME (List AV)
  | [] => fun e => .ok [] e
  | .val m :: ms => fun e => (m e).bind fun d e => (mAs ms e).bind fun ds e => .ok (.val d :: ds) e
  | .own i :: ms => fun e => if isOw e[i]? = true then (mAs ms e).bind fun ds e => .ok (.own i :: ds) e else .ud
/-- what a callee is handed -/
def resolve : List AV → Loc → Option (List Slt)
  | [], _ => some []
  | .val d :: as, e => (resolve as e).map fun r => .fz d :: r
  | .own i :: as, e => match e[i]? with
    | some (.ow _ o) => (resolve as e).map fun r => .ow none o :: r
    | _ => none
def owns : List AV → List Nat
  | [] => []
  | .val _ :: as => owns as
  | .own i :: as => i :: owns as
def putO : Option Slt → Ob → Slt
  | some (.ow j _), o => .ow j o
  | _, o => .ow none o
def wback : List Nat → List Ob → Loc → Option Loc
  | [], [], e => some e
  | i :: is, o :: os, e => wback is os (e.set i (putO e[i]? o))
  | _, _, _ => none
def mCall (F : Fn) (as : List MA) : ME Slt := fun e => (mAs as e).bind fun vs e =>
  if (owns vs).Nodup then
    match resolve vs e with
    | none => .ud
    | some ss => match F ss with
      | .ok s outs => (Rs.of (wback (owns vs) outs e) e).bind fun e' _ => .ok s e'
      | .er x outs => (Rs.of (wback (owns vs) outs e) e).bind fun e' _ => .er x e'
      | .ud => .ud
  else .ud
def mCallD (F : Fn) (as : List MA) : ME Dv := fun e => (mCall F as e).bind fun s e => match s with
  | .fz d => .ok d e
  | _ => .ud
def mCallO (F : Fn) (as : List MA) : ME Ob := fun e => (mCall F as e).bind fun s e => match s with
  | .ow none o => .ok o e
  | _ => .ud

/-! ### statements -/
inductive Sr where
  | nx (e : Loc) | rt (s : Slt) (e : Loc) | bk (e : Loc) | ct (e : Loc) | er (x : Err) (e : Loc) | ud
abbrev MS := Loc → Sr
def Rs.go {α : Type} (r : Rs α) (f : α → Loc → Sr) : Sr := match r with
  | .ok a e => f a e
  | .er x e => .er x e
  | .ud => .ud
@[simp] theorem Rs.go_ok {α : Type} (a : α) (e : Loc) (f : α → Loc → Sr) : (Rs.ok a e).go f = f a e := rfl
@[simp] theorem Rs.go_ud {α : Type} (f : α → Loc → Sr) : (Rs.ud : Rs α).go f = .ud := rfl
def Sr.then (r : Sr) (f : MS) : Sr := match r with
  | .nx e => f e
  | r => r
@[simp] theorem Sr.then_nx (e : Loc) (f : MS) : (Sr.nx e).then f = f e := rfl
@[simp] theorem Sr.then_rt (s : Slt) (e : Loc) (f : MS) : (Sr.rt s e).then f = .rt s e := rfl
@[simp] theorem Sr.then_bk (e : Loc) (f : MS) : (Sr.bk e).then f = .bk e := rfl
@[simp] theorem Sr.then_ct (e : Loc) (f : MS) : (Sr.ct e).then f = .ct e := rfl
@[simp] theorem Sr.then_er (x : Err) (e : Loc) (f : MS) : (Sr.er x e).then f = .er x e := rfl
@[simp] theorem Sr.then_ud (f : MS) : (Sr.ud).then f = .ud := rfl
def nxO (o : Option Loc) : Sr := match o with
  | some e => .nx e
  | none => .ud
def sNil : MS := fun e => .nx e
def sSeq (a b : MS) : MS := fun e => (a e).then b
def sBrk : MS := fun e => .bk e
def sCnt : MS := fun e => .ct e
def sSet (m : ME Dv) (g : MG) : MS := fun e => (m e).go fun d e => nxO (g d e)
def sSetO (i : Nat) (m : ME Ob) : MS := fun e => (m e).go fun o e => if free e[i]? = true then .nx (e.set i (.ow none o)) else .ud
def sAug (i : Nat) (f : Dv → Dv → Option Dv) (m : ME Dv) : MS := fun e => match e[i]? with
  | some (.fz d) => (m e).go fun b e => match f d b with
    | some c => .nx (e.set i (.fz c))
    | none => .ud
  | _ => .ud
def sApp (i : Nat) (m : ME Dv) : MS := fun e => if isOw e[i]? = true then (m e).go fun d e => match e[i]? with
    | some (.ow j (.lst ds)) => if ds.length < lim then .nx (e.set i (.ow j (.lst (ds ++ [d])))) else .ud
    | _ => .ud
  else .ud
def ixn (n : Nat) (i : Int) : Option Nat := if 0 ≤ i then (if i < n then some i.toNat else none) else if -(n : Int) ≤ i then some (i + n).toNat else none
def getI {α : Type} (ds : List α) (k : Int) : Option α := (ixn ds.length k).bind fun n => ds[n]?
/-- x[k] = e -/
def sPut (i : Nat) (mk m : ME Dv) : MS := fun e => (m e).go fun d e => if isOw e[i]? = true then (mk e).go fun k e => match e[i]?, k with
    | some (.ow j (.lst ds)), .int k => match ixn ds.length k with
      | some n => .nx (e.set i (.ow j (.lst (ds.set n d))))
      | none => .ud
    | _, _ => .ud
  else .ud
/-- x[k] op= e -/
def sPutAug (i : Nat) (mk : ME Dv) (f : Dv → Dv → Option Dv) (m : ME Dv) : MS := fun e => if isOw e[i]? = true then (mk e).go fun k e => match e[i]?, k with
    | some (.ow _ (.lst ds)), .int k => match getI ds k with
      | some a => (m e).go fun b e => match f a b, e[i]? with
        | some c, some (.ow j (.lst ds')) => match ixn ds'.length k with
          | some n => .nx (e.set i (.ow j (.lst (ds'.set n c))))
          | none => .ud
        | _, _ => .ud
      | none => .ud
    | _, _ => .ud
  else .ud
def sDrop (m : ME Dv) : MS := fun e => (m e).go fun _ e => .nx e
def sIf (t : ME Bool) (a b : MS) : MS := fun e => (t e).go fun x e => if x = true then a e else b e
def sRet (m : ME Dv) : MS := fun e => (m e).go fun d e => .rt (.fz d) e
def sRetO (m : ME Ob) : MS := fun e => (m e).go fun o e => .rt (.ow none o) e
/-- return x, x an owned list of this def's own -/
def sRetV (i : Nat) : MS := fun e => match e[i]? with
  | some (.ow none o) => .rt (.ow none o) e
  | _ => .ud
def loop (g : MG) (b : MS) : List Dv → MS
  | [], e => .nx e
  | d :: ds, e => match g d e with
    | none => .ud
    | some e => match b e with
      | .nx e => loop g b ds e
      | .ct e => loop g b ds e
      | .bk e => .nx e
      | r => r
def sFor (mi : ME (List Dv)) (g : MG) (b : MS) : MS := fun e => (mi e).go fun ds e => loop g b ds e

/-! ### what is walked -/
def itD : Dv → Option (List Dv)
  | .lst ds => some ds
  | .tup ds => some ds
  | .str s => some (s.map fun c => .str [c])
  | _ => none
def itL : Dv → Option (List Dv)
  | .lst ds => some ds
  | _ => none
def itT : Dv → Option (List Dv)
  | .tup ds => some ds
  | _ => none
def itS : Dv → Option (List Dv)
  | .str s => some (s.map fun c => .str [c])
  | _ => none
def big : Int := 4000000000000000000
def itR (lo hi : Int) : Option (List Dv) := if -big ≤ lo ∧ lo ≤ big ∧ -big ≤ hi ∧ hi ≤ big then some ((List.range (hi - lo).toNat).map fun (k : Nat) => Dv.int (lo + (k : Int))) else none
def mIt (f : Dv → Option (List Dv)) (m : ME Dv) : ME (List Dv) := fun e => (m e).bind fun d e => .of (f d) e
def mRg1 (m : ME Dv) : ME (List Dv) := fun e => (m e).bind fun d e => match d with
  | .int n => .of (itR 0 n) e
  | _ => .ud
def mRg2 (a b : ME Dv) : ME (List Dv) := fun e => (a e).bind fun x e => (b e).bind fun y e => match x, y with
  | .int x, .int y => .of (itR x y) e
  | _, _ => .ud
/-- an owned list of this def's, walked, and never changed from now on -/
def mItF (i : Nat) : ME (List Dv) := fun e => match e[i]? with
  | some (.ow none (.lst ds)) => .ok ds (e.set i (.fz (.lst ds)))
  | _ => .ud

/-! ### comprehensions -/
def wipeE (e : Loc) : List Nat → Loc
  | [] => e
  | v :: vs => (wipeE e vs).set v .un
/-- the block's own names as they stood ahead -/
def backE (e0 e : Loc) : List Nat → Loc
  | [] => e
  | v :: vs => (backE e0 e vs).set v (e0[v]?.getD .un)
def noOw (e : Loc) (vs : List Nat) : Bool := vs.all fun v => match e[v]? with
  | some .un => true
  | some (.fz _) => true
  | _ => false
def lcGo (g : MG) (t : ME Bool) (m : ME Dv) (vs : List Nat) : List Dv → List Dv → Loc → Option (List Dv × Loc)
  | [], acc, e => some (acc, e)
  | d :: ds, acc, e => match g d e with
    | none => none
    | some e => match t e with
      | .ok true e => match m e with
        | .ok y e => if acc.length < lim then lcGo g t m vs ds (acc ++ [y]) (wipeE e vs) else none
        | _ => none
      | .ok false e => lcGo g t m vs ds acc (wipeE e vs)
      | _ => none
def mLc (mi : ME (List Dv)) (g : MG) (t : ME Bool) (m : ME Dv) (vs : List Nat) : ME Ob := fun e => (mi e).bind fun ds e =>
  if noOw e vs = true then match lcGo g t m vs ds [] (wipeE e vs) with
    | some (acc, e') => .ok (.lst acc) (backE e e' vs)
    | none => .ud
  else .ud
def mYes : ME Bool := fun e => .ok true e

/-! ### defs -/
def initE : Nat → List Slt → Loc
  | _, [] => []
  | k, .ow _ o :: r => .ow (some k) o :: initE (k + 1) r
  | k, s :: r => s :: initE k r
def outsE : Nat → List Slt → Loc → Option (List Ob)
  | _, [], _ => some []
  | k, .ow _ _ :: r, .ow (some k') o :: e => if k = k' then (outsE (k + 1) r e).map fun os => o :: os else none
  | _, .ow _ _ :: _, _ => none
  | k, _ :: r, _ :: e => outsE k r e
  | _, _ :: _, [] => none
def isArg : Slt → Bool
  | .un => false
  | .ow (some _) _ => false
  | _ => true
def mkFn (np nl : Nat) (b : MS) : Fn := fun as =>
  if as.length = np ∧ as.all isArg = true then
    match b (initE 0 as ++ List.replicate nl .un) with
    | .nx e => match outsE 0 as e with
      | some os => .ok (.fz .non) os
      | none => .ud
    | .rt s e => match outsE 0 as e with
      | some os => .ok s os
      | none => .ud
    | .er x e => match outsE 0 as e with
      | some os => .er x os
      | none => .ud
    | _ => .ud
  else .ud

/-! ### the operations on data -/
def oAdd : Dv → Dv → Option Dv
  | .int a, .int b => some (.int (a + b))
  | .str a, .str b => if a.length + b.length ≤ lim then some (.str (a ++ b)) else none
  | _, _ => none
def oAddI : Dv → Dv → Option Dv
  | .int a, .int b => some (.int (a + b))
  | _, _ => none
def oAddS : Dv → Dv → Option Dv
  | .str a, .str b => if a.length + b.length ≤ lim then some (.str (a ++ b)) else none
  | _, _ => none
def oSub : Dv → Dv → Option Dv
  | .int a, .int b => some (.int (a - b))
  | _, _ => none
def oMul : Dv → Dv → Option Dv
  | .int a, .int b => if (a.natAbs < 2 ^ 62 ∨ b.natAbs < 2 ^ 62) then some (.int (a * b)) else none
  | _, _ => none
def oDiv : Dv → Dv → Option Dv
  | .int a, .int b => if b ≠ 0 ∧ b.natAbs < 1073741824 then some (.int (a.fdiv b)) else none
  | _, _ => none
def oMod : Dv → Dv → Option Dv
  | .int a, .int b => if b ≠ 0 then some (.int (a.fmod b)) else none
  | _, _ => none
def oPow : Dv → Dv → Option Dv
  | .int a, .int b => if 0 ≤ b ∧ b ≤ 1000000 ∧ a.natAbs < 2 ^ 62 then some (.int (a ^ b.toNat)) else none
  | _, _ => none
def oShl : Dv → Dv → Option Dv
  | .int a, .int b => if 0 ≤ b ∧ b ≤ 1000000 ∧ a.natAbs < 2 ^ 62 then some (.int (a * 2 ^ b.toNat)) else none
  | _, _ => none
def oNeg : Dv → Option Dv
  | .int a => some (.int (-a))
  | _ => none
def oLt : Dv → Dv → Option Dv
  | .int a, .int b => some (.bl (decide (a < b)))
  | _, _ => none
def oLe : Dv → Dv → Option Dv
  | .int a, .int b => some (.bl (decide (a ≤ b)))
  | _, _ => none
def oGt : Dv → Dv → Option Dv
  | .int a, .int b => some (.bl (decide (b < a)))
  | _, _ => none
def oGe : Dv → Dv → Option Dv
  | .int a, .int b => some (.bl (decide (b ≤ a)))
  | _, _ => none
/-- == of plain things of one kind (and of None) -/
def eqS : Dv → Dv → Option Bool
  | .int a, .int b => some (decide (a = b))
  | .str a, .str b => some (decide (a = b))
  | .bl a, .bl b => some (decide (a = b))
  | .non, .non => some true
  | .non, .int _ => some false
  | .non, .str _ => some false
  | .int _, .non => some false
  | .str _, .non => some false
  | .str _, .int _ => some false
  | .int _, .str _ => some false
  | _, _ => none
def oEq (a b : Dv) : Option Dv := (eqS a b).map .bl
def oNe (a b : Dv) : Option Dv := (eqS a b).map fun x => .bl (!x)
/-- one sign in a text -/
def oInS : Dv → Dv → Option Dv
  | .str [c], .str s => some (.bl (decide (c ∈ s)))
  | _, _ => none
def oNiS : Dv → Dv → Option Dv
  | .str [c], .str s => some (.bl (!decide (c ∈ s)))
  | _, _ => none
def oIx : Dv → Dv → Option Dv
  | .lst ds, .int k => getI ds k
  | .tup ds, .int k => getI ds k
  | .scr ns, .int k => (getI ns k).map .int
  | .str s, .int k => if s.length ≤ lim then (getI s k).map fun c => .str [c] else none
  | _, _ => none
def oIxL : Dv → Dv → Option Dv
  | .lst ds, .int k => getI ds k
  | .scr ns, .int k => (getI ns k).map .int
  | _, _ => none
def oIxT : Dv → Dv → Option Dv
  | .tup ds, .int k => getI ds k
  | _, _ => none
def oIxS : Dv → Dv → Option Dv
  | .str s, .int k => if s.length ≤ lim then (getI s k).map fun c => .str [c] else none
  | _, _ => none
def wIx (ds : List Dv) : Dv → Option Dv
  | .int k => getI ds k
  | _ => none
def oLenS : Dv → Option Dv
  | .str s => if s.length ≤ lim then some (.int s.length) else none
  | _ => none
def oLenQ : Dv → Option Dv
  | .lst ds => some (.int ds.length)
  | .tup ds => some (.int ds.length)
  | .scr ns => some (.int ns.length)
  | _ => none
def oLen : Dv → Option Dv
  | .str s => if s.length ≤ lim then some (.int s.length) else none
  | .lst ds => some (.int ds.length)
  | .tup ds => some (.int ds.length)
  | .scr ns => some (.int ns.length)
  | _ => none
def wLen (ds : List Dv) : Option Dv := some (.int ds.length)
def oAbs : Dv → Option Dv
  | .int a => some (.int (if a < 0 then -a else a))
  | _ => none
def oInt : Dv → Option Dv
  | .int a => some (.int a)
  | .bl b => some (.int (if b then 1 else 0))
  | _ => none
def oTup : Dv → Option Dv
  | .lst ds => some (.tup ds)
  | .tup ds => some (.tup ds)
  | _ => none
def wTup (ds : List Dv) : Option Dv := some (.tup ds)
def oIsT : Dv → Option Dv
  | .tup _ => some (.bl true)
  | .lst _ => some (.bl false)
  | .int _ => some (.bl false)
  | .str _ => some (.bl false)
  | .non => some (.bl false)
  | .bl _ => some (.bl false)
  | _ => none
def oIsS : Dv → Option Dv
  | .str _ => some (.bl true)
  | .int _ => some (.bl false)
  | .non => some (.bl false)
  | .bl _ => some (.bl false)
  | .tup _ => some (.bl false)
  | .lst _ => some (.bl false)
  | _ => none
def boolsOf : List Dv → Option (List Bool)
  | [] => some []
  | .bl b :: r => (boolsOf r).map fun x => b :: x
  | _ :: _ => none
def oAll : Dv → Option Dv
  | .lst ds => (boolsOf ds).map fun bs => .bl (bs.all id)
  | _ => none
def strsOf : List Dv → Option (List (List Nat))
  | [] => some []
  | .str b :: r => (strsOf r).map fun x => b :: x
  | _ :: _ => none
def joinN (sep : List Nat) : List (List Nat) → List Nat
  | [] => []
  | [a] => a
  | a :: b :: r => a ++ (sep ++ joinN sep (b :: r))
def oJoin (s : List Nat) : Dv → Option Dv
  | .lst ds => (strsOf ds).bind fun xs => if (xs.map List.length).sum + xs.length * s.length ≤ lim then some (.str (joinN s xs)) else none
  | _ => none
/-- split at one sign -/
def splitN (c : Nat) : List Nat → List Nat → List (List Nat)
  | acc, [] => [acc]
  | acc, x :: r => if x = c then acc :: splitN c [] r else splitN c (acc ++ [x]) r
def oSplit (s : List Nat) : Dv → Option (List Dv)
  | .str [c] => if c < 128 ∧ s.length + 2 ≤ lim then some ((splitN c [] s).map .str) else none
  | _ => none
def sIx (n : Nat) (dflt : Nat) : Option Int → Nat
  | none => dflt
  | some i => if i < 0 then (i + (n : Int)).toNat else min i.toNat n
def cutN {α : Type} (s : List α) (lo hi : Option Int) : List α := (s.drop (sIx s.length 0 lo)).take (sIx s.length s.length hi - sIx s.length 0 lo)
/-- a slice's ends -/
def partD : Option Dv → Option (Option Int)
  | none => some none
  | some (.int k) => some (some k)
  | _ => none
def slS : Dv → Option Int → Option Int → Option Dv
  | .str s, lo, hi => if s.length ≤ lim then some (.str (cutN s lo hi)) else none
  | _, _, _ => none
def slL : Dv → Option Int → Option Int → Option (List Dv)
  | .lst ds, lo, hi => some (cutN ds lo hi)
  | _, _, _ => none
def mPart : Option (ME Dv) → ME (Option Int)
  | none => fun e => .ok none e
  | some m => fun e => (m e).bind fun d e => match d with
    | .int k => .ok (some k) e
    | _ => .ud
def mSl (f : Dv → Option Int → Option Int → Option Dv) (m : ME Dv) (lo hi : Option (ME Dv)) : ME Dv := fun e => (m e).bind fun d e => (mPart lo e).bind fun a e => (mPart hi e).bind fun b e => .of (f d a b) e
def mSlN (f : Dv → Option Int → Option Int → Option (List Dv)) (m : ME Dv) (lo hi : Option (ME Dv)) : ME Ob := fun e => (m e).bind fun d e => (mPart lo e).bind fun a e => (mPart hi e).bind fun b e => .of ((f d a b).map Ob.lst) e
def listS : Dv → Option (List Dv)
  | .str s => if s.length ≤ lim then some (s.map fun c => .str [c]) else none
  | _ => none
def oRepS : Dv → Dv → Option Dv
  | .str s, .int k => if s.length * k.toNat ≤ lim ∧ k.natAbs < 2 ^ 60 then some (.str (List.replicate k.toNat s).flatten) else none
  | _, _ => none
def oCat : Dv → Dv → Option (List Dv)
  | .lst a, .lst b => if a.length + b.length ≤ lim then some (a ++ b) else none
  | _, _ => none
/-- a number in decimal -/
def oStr : Dv → Option Dv
  | .int i => if i.natAbs < 2 ^ 900 then some (.str ((toString i).toList.map Char.toNat)) else none
  | _ => none
/-- the slots behind the first row of a law -/
def lawE (ns : List Int) (nl : Nat) : Loc := .un :: .ow none (.lst [.scr ns, .int 0, .int 0, .int 7]) :: List.replicate nl .un
end Ml

set_option linter.all false
set_option maxRecDepth 100000
set_option maxHeartbeats 1000000
/-! A def's reading against its mirror: what stands in the slots and in the heap, and one rule for each construct. -/
namespace Ml
open L2
open PySem (Addr Str sizeLine)

abbrev sOf (s : List Nat) : Str := ⟨s.toArray⟩

section
variable (K : PySem.W.Frag) (sc : Addr)
mutual
def Rep (Hs : Hp) : Dv → V → Prop
  | .non, v => v = .non
  | .bl b, v => v = .bl b
  | .int i, v => v = .int i
  | .str s, v => v = .str (sOf s)
  | .tup ds, v => ∃ a xs, v = .ref a ∧ SqT K Hs a xs ∧ Reps Hs ds xs
  | .lst ds, v => ∃ a xs, v = .ref a ∧ Hs a = some (.lst xs) ∧ Reps Hs ds xs
  | .scr ns, v => v = .ref sc ∧ Hs sc = some (.lst (ns.map V.int))
def Reps (Hs : Hp) : List Dv → List V → Prop
  | [], vs => vs = []
  | d :: ds, vs => ∃ v r, vs = v :: r ∧ Rep Hs d v ∧ Reps Hs ds r
end
end

/-- what was tracked is tracked as it was -/
abbrev Le (H H' : Hp) : Prop := ∀ a o, H a = some o → H' a = some o
theorem Le.rfl' {H : Hp} : Le H H := fun _ _ h => h
theorem Le.trans {H H1 H2 : Hp} (a : Le H H1) (b : Le H1 H2) : Le H H2 := fun x o h => b x o (a x o h)
theorem le_none {H H' : Hp} (h : Le H H') {a : Addr} (e : H' a = none) : H a = none := by
  cases q : H a with
  | none => rfl
  | some o => rw [h a o q] at e; cases e
theorem Le.new {H : Hp} {p : Addr} {o : HO} (h : H p = none) : Le H (upd H p o) := fun a u e => by
  rw [upd_ne (ne_of_none e h)]; exact e
theorem sqt_le {K : PySem.W.Frag} {H H' : Hp} {a : Addr} {xs : List V} (e : Le H H') (h : SqT K H a xs) : SqT K H' a xs := by
  rcases h with (h | ⟨o, h⟩) | h
  · exact .inl (.inl (e _ _ h))
  · exact .inl (.inr ⟨o, e _ _ h⟩)
  · exact .inr h

section
variable {K : PySem.W.Frag} {sc : Addr}
mutual
theorem rep_le {H H' : Hp} (h : Le H H') : ∀ {d : Dv} {v : V}, Rep K sc H d v → Rep K sc H' d v
  | .non, _, r => by simpa only [Rep] using r
  | .bl _, _, r => by simpa only [Rep] using r
  | .int _, _, r => by simpa only [Rep] using r
  | .str _, _, r => by simpa only [Rep] using r
  | .tup ds, v, r => by
    simp only [Rep] at r ⊢
    obtain ⟨a, xs, e, q, rs⟩ := r
    exact ⟨a, xs, e, sqt_le h q, reps_le h rs⟩
  | .lst ds, v, r => by
    simp only [Rep] at r ⊢
    obtain ⟨a, xs, e, q, rs⟩ := r
    exact ⟨a, xs, e, h _ _ q, reps_le h rs⟩
  | .scr ns, v, r => by
    simp only [Rep] at r ⊢
    exact ⟨r.1, h _ _ r.2⟩
theorem reps_le {H H' : Hp} (h : Le H H') : ∀ {ds : List Dv} {vs : List V}, Reps K sc H ds vs → Reps K sc H' ds vs
  | [], _, r => by simpa only [Reps] using r
  | d :: ds, vs, r => by
    simp only [Reps] at r ⊢
    obtain ⟨v, q, e, r1, r2⟩ := r
    exact ⟨v, q, e, rep_le h r1, reps_le h r2⟩
end
variable {H : Hp}
theorem reps_nil : Reps K sc H [] [] := by simp only [Reps]
theorem reps_cons {d : Dv} {ds : List Dv} {v : V} {vs : List V} (a : Rep K sc H d v) (b : Reps K sc H ds vs) : Reps K sc H (d :: ds) (v :: vs) := by
  simp only [Reps]; exact ⟨v, vs, rfl, a, b⟩
theorem reps_len : ∀ {ds : List Dv} {vs : List V}, Reps K sc H ds vs → vs.length = ds.length
  | [], vs, r => by simp only [Reps] at r; subst r; rfl
  | d :: ds, vs, r => by
    simp only [Reps] at r
    obtain ⟨v, q, rfl, _, r2⟩ := r
    simp [reps_len r2]
theorem reps_get : ∀ {ds : List Dv} {vs : List V} {i : Nat} {d : Dv}, Reps K sc H ds vs → ds[i]? = some d → ∃ v, vs[i]? = some v ∧ Rep K sc H d v
  | [], _, _, _, _, e => by simp at e
  | d :: ds, vs, i, d', r, e => by
    simp only [Reps] at r
    obtain ⟨v, q, rfl, r1, r2⟩ := r
    cases i with
    | zero => simp at e; subst e; exact ⟨v, rfl, r1⟩
    | succ i =>
      obtain ⟨w, e1, e2⟩ := reps_get (i := i) (d := d') r2 (by simpa using e)
      exact ⟨w, by simpa using e1, e2⟩
theorem reps_app : ∀ {ds ds' : List Dv} {vs vs' : List V}, Reps K sc H ds vs → Reps K sc H ds' vs' → Reps K sc H (ds ++ ds') (vs ++ vs')
  | [], _, vs, _, r, s => by simp only [Reps] at r; subst r; exact s
  | d :: ds, ds', vs, vs', r, s => by
    simp only [Reps] at r
    obtain ⟨v, q, rfl, r1, r2⟩ := r
    exact reps_cons r1 (reps_app r2 s)
theorem reps_set : ∀ {ds : List Dv} {vs : List V} {i : Nat} {d : Dv} {v : V}, Reps K sc H ds vs → Rep K sc H d v → Reps K sc H (ds.set i d) (vs.set i v)
  | [], vs, _, _, _, r, _ => by simp only [Reps] at r; subst r; exact reps_nil
  | d :: ds, vs, i, d', v', r, s => by
    simp only [Reps] at r
    obtain ⟨v, q, rfl, r1, r2⟩ := r
    cases i with
    | zero => exact reps_cons s r2
    | succ i => exact reps_cons r1 (reps_set r2 s)
theorem reps_strs : ∀ {l : List (List Nat)}, Reps K sc H (l.map Dv.str) (l.map fun s => V.str (sOf s))
  | [] => reps_nil
  | a :: l => reps_cons (by simp only [Rep]) reps_strs
theorem reps_ints : ∀ {l : List Int}, Reps K sc H (l.map Dv.int) (l.map V.int)
  | [] => reps_nil
  | a :: l => reps_cons (by simp only [Rep]) reps_ints
end

/-- what an owned object is -/
def OwnAt (K : PySem.W.Frag) (sc : Addr) (Hs H : Hp) (p : Addr) : Ob → Prop
  | .lst ds => ∃ xs, H p = some (.lst xs) ∧ Reps K sc Hs ds xs
theorem OwnAt.some {K sc Hs H p o} (h : OwnAt K sc Hs H p o) : H p ≠ none := by
  cases o with
  | lst ds => obtain ⟨xs, e, _⟩ := h; rw [e]; exact fun z => nomatch z
theorem OwnAt.mono {K sc Hs Hs' H H' p o} (h : OwnAt K sc Hs H p o) (l : Le Hs Hs') (e : H' p = H p) : OwnAt K sc Hs' H' p o := by
  cases o with
  | lst ds => obtain ⟨xs, e1, r⟩ := h; exact ⟨xs, e.trans e1, reps_le l r⟩

/-- a call's own things: the heap and what was laid at its start, the addresses of the lists that it may change, what is wanted of an error -/
structure Cc where
  K : PySem.W.Frag
  sc : Addr
  H0 : Hp
  P : List Addr
  Hs0 : Hp
  E : XK
  RE : Err → PySem.Value → Option Addr → Hp → Hp → Prop

def JOk (C : Cc) (p : Addr) : Option Nat → Prop
  | none => C.H0 p = none
  | some k => C.P[k]? = some p
def SlotOk (C : Cc) (Hs H : Hp) : Slt → Option (Option V) → Prop
  | .un, _ => True
  | .fz d, x => ∃ v, x = some (some v) ∧ Rep C.K C.sc Hs d v
  | .ow j o, x => ∃ p, x = some (some (.ref p)) ∧ Hs p = none ∧ OwnAt C.K C.sc Hs H p o ∧ JOk C p j

structure StOk (C : Cc) (Z : Hp) (Hs : Hp) (e : Loc) (σ : L2.St) (H : Hp) : Prop where
  len : σ.length = e.length
  le : Le Hs H
  slot : ∀ (i : Nat) s, e[i]? = some s → SlotOk C Hs H s σ[i]?
  sep : ∀ (i i' : Nat) j j' o o' p, e[i]? = some (.ow j o) → e[i']? = some (.ow j' o') → σ[i]? = some (some (.ref p)) → σ[i']? = some (some (.ref p)) → i = i'
  frame : ∀ a o, C.H0 a = some o → a ∉ C.P → H a = some o
  dom : ∀ a, C.H0 a ≠ none → H a ≠ none
  news : ∀ a, Hs a ≠ none → C.Hs0 a ≠ none ∨ C.H0 a = none
  par : ∀ p, p ∈ C.P → C.H0 p ≠ none
  hid : ∀ a o, Z a = some o → H a = some o ∧ Hs a = none
  hids : ∀ (i : Nat) j o p, e[i]? = some (.ow j o) → σ[i]? = some (some (.ref p)) → Z p = none

structure Post (Hs H Hs' H' : Hp) : Prop where
  le : Le Hs Hs'
  dom : ∀ a, H a ≠ none → H' a ≠ none
theorem Post.refl {Hs H : Hp} : Post Hs H Hs H := ⟨Le.rfl', fun _ h => h⟩
theorem Post.trans {Hs H Hs1 H1 Hs2 H2 : Hp} (a : Post Hs H Hs1 H1) (b : Post Hs1 H1 Hs2 H2) : Post Hs H Hs2 H2 := ⟨a.le.trans b.le, fun x h => b.dom x (a.dom x h)⟩
theorem dom_upd {H : Hp} {p : Addr} {o : HO} : ∀ a, H a ≠ none → upd H p o a ≠ none := fun a h => by
  by_cases e : a = p
  · subst e; rw [upd_same]; exact fun z => nomatch z
  · rw [upd_ne e]; exact h
theorem Post.new {Hs H : Hp} {p : Addr} {o : HO} (h : Hs p = none) : Post Hs H (upd Hs p o) (upd H p o) := ⟨Le.new h, dom_upd⟩
theorem Post.newO {Hs H : Hp} {p : Addr} {o : HO} : Post Hs H Hs (upd H p o) := ⟨Le.rfl', dom_upd⟩

section
variable {C : Cc} {Z Hs H Hs' H' : Hp} {e : Loc} {σ : L2.St}
theorem StOk.hs_none (k : StOk C Z Hs e σ H) {p : Addr} (h : H p = none) : Hs p = none := le_none k.le h
theorem StOk.h0_none (k : StOk C Z Hs e σ H) {p : Addr} (h : H p = none) : C.H0 p = none := by
  cases q : C.H0 p with
  | none => rfl
  | some o => exact absurd h (k.dom p (by rw [q]; exact fun z => nomatch z))
theorem StOk.z_none (k : StOk C Z Hs e σ H) {p : Addr} (h : H p = none) : Z p = none := by
  cases q : Z p with
  | none => rfl
  | some o => rw [(k.hid p o q).1] at h; cases h
theorem StOk.own (k : StOk C Z Hs e σ H) {i : Nat} {j : Option Nat} {o : Ob} (h : e[i]? = some (.ow j o)) :
    ∃ p, σ[i]? = some (some (.ref p)) ∧ Hs p = none ∧ OwnAt C.K C.sc Hs H p o ∧ JOk C p j := k.slot i _ h
theorem StOk.fz (k : StOk C Z Hs e σ H) {i : Nat} {d : Dv} (h : e[i]? = some (.fz d)) : ∃ v, σ[i]? = some (some v) ∧ Rep C.K C.sc Hs d v := k.slot i _ h
/-- an owned object's address may be changed: it is not framed -/
theorem StOk.unframed (k : StOk C Z Hs e σ H) {i : Nat} {j : Option Nat} {o : Ob} {p : Addr} (h : e[i]? = some (.ow j o)) (hp : σ[i]? = some (some (.ref p))) : ∀ u, C.H0 p = some u → p ∈ C.P := by
  obtain ⟨q, e1, _, _, z⟩ := k.own h
  rw [hp] at e1; cases e1
  intro u hu
  cases j with
  | none => have z : C.H0 p = none := z; rw [hu] at z; cases z
  | some n => exact List.mem_of_getElem? z
/-- the heap grows by things that are laid -/
theorem StOk.grow (k : StOk C Z Hs e σ H) (l : Le Hs Hs') (l' : Le H H') (ls : Le Hs' H') (n : ∀ a, Hs' a ≠ none → Hs a ≠ none ∨ H a = none) : StOk C Z Hs' e σ H' where
  len := k.len
  le := ls
  slot := fun i s hs => by
    have q := k.slot i s hs
    cases s with
    | un => trivial
    | fz d => obtain ⟨v, e1, r⟩ := q; exact ⟨v, e1, rep_le l r⟩
    | ow j o =>
      obtain ⟨p, e1, e2, e3, e4⟩ := q
      have hp : Hs' p = none := by
        cases z : Hs' p with
        | none => rfl
        | some u =>
          rcases n p (by rw [z]; exact fun q => nomatch q) with h | h
          · exact absurd e2 h
          · exact absurd h e3.some
      refine ⟨p, e1, hp, e3.mono l ?_, e4⟩
      cases z : H p with
      | none => exact absurd z e3.some
      | some u => exact l' p u z
  sep := k.sep
  frame := fun a o h h' => l' _ _ (k.frame a o h h')
  dom := fun a h => by
    have := k.dom a h
    cases z : H a with
    | none => exact absurd z this
    | some u => rw [l' a u z]; exact fun q => nomatch q
  news := fun a h => by
    rcases n a h with h | h
    · exact k.news a h
    · exact .inr (k.h0_none h)
  par := k.par
  hid := fun a o h => ⟨l' _ _ (k.hid a o h).1, by
    cases z : Hs' a with
    | none => rfl
    | some u =>
      rcases n a (by rw [z]; exact fun q => nomatch q) with h' | h'
      · exact absurd (k.hid a o h).2 h'
      · rw [(k.hid a o h).1] at h'; cases h'⟩
  hids := k.hids
theorem StOk.new (k : StOk C Z Hs e σ H) {p : Addr} {o : HO} (h : H p = none) : StOk C Z (upd Hs p o) e σ (upd H p o) :=
  k.grow (Le.new (k.hs_none h)) (Le.new h) (fun a u q => by
    by_cases z : a = p
    · subst z; rw [upd_same] at q ⊢; exact q
    · rw [upd_ne z] at q ⊢; exact k.le a u q) fun a q => by
    by_cases z : a = p
    · subst z; exact .inr h
    · rw [upd_ne z] at q; exact .inl q
theorem StOk.newO (k : StOk C Z Hs e σ H) {p : Addr} {o : HO} (h : H p = none) : StOk C Z Hs e σ (upd H p o) :=
  k.grow Le.rfl' (Le.new h) (fun a u q => Le.new h a u (k.le a u q)) fun a q => .inl q
/-- an object that is not owned by a slot is laid from now on -/
theorem StOk.freeze (k : StOk C Z Hs e σ H) {p : Addr} {o : HO} (h : H p = some o) (h0 : C.H0 p = none) (hn : Hs p = none) (hz : Z p = none) (hs : ∀ (i : Nat) j u, e[i]? = some (.ow j u) → σ[i]? ≠ some (some (.ref p))) : StOk C Z (upd Hs p o) e σ H where
  len := k.len
  le := fun a u q => by
    by_cases z : a = p
    · subst z; rw [upd_same] at q; rw [h]; exact q
    · rw [upd_ne z] at q; exact k.le a u q
  slot := fun i s hs' => by
    have q := k.slot i s hs'
    cases s with
    | un => trivial
    | fz d => obtain ⟨v, e1, r⟩ := q; exact ⟨v, e1, rep_le (Le.new hn) r⟩
    | ow j u =>
      obtain ⟨a, e1, e2, e3, e4⟩ := q
      have z : a ≠ p := fun z => hs i j u hs' (by rw [e1, z])
      exact ⟨a, e1, by rw [upd_ne z]; exact e2, e3.mono (Le.new hn) rfl, e4⟩
  sep := k.sep
  frame := k.frame
  dom := k.dom
  news := fun a q => by
    by_cases z : a = p
    · subst z; exact .inr h0
    · rw [upd_ne z] at q; exact k.news a q
  par := k.par
  hid := fun a u q => ⟨(k.hid a u q).1, by
    rw [upd_ne (ne_of_none q hz)]
    exact (k.hid a u q).2⟩
  hids := k.hids
/-- a slot is filled with data -/
theorem StOk.setF (k : StOk C Z Hs e σ H) {i : Nat} {d : Dv} {v : V} (r : Rep C.K C.sc Hs d v) : StOk C Z Hs (e.set i (.fz d)) (σ.set i (some v)) H where
  len := by rw [List.length_set, List.length_set]; exact k.len
  le := k.le
  slot := fun i' s hs => by
    by_cases z : i = i'
    · subst z
      have hi : i < e.length := by
        have := (List.getElem?_eq_some_iff.mp hs).1; rw [List.length_set] at this; exact this
      rw [List.getElem?_set_self hi] at hs
      cases hs
      rw [List.getElem?_set_self (by rw [k.len]; exact hi)]
      exact ⟨v, rfl, r⟩
    · rw [List.getElem?_set_ne z] at hs ⊢
      exact k.slot i' s hs
  sep := fun a b j j' o o' p h1 h2 h3 h4 => by
    have f : ∀ {c : Nat} {j o}, (e.set i (.fz d))[c]? = some (Slt.ow j o) → c ≠ i := fun {c j o} h z => by
      subst z
      have hi : c < e.length := by
        have := (List.getElem?_eq_some_iff.mp h).1; rw [List.length_set] at this; exact this
      rw [List.getElem?_set_self hi] at h; cases h
    have z1 := f h1; have z2 := f h2
    rw [List.getElem?_set_ne (Ne.symm z1)] at h1 h3
    rw [List.getElem?_set_ne (Ne.symm z2)] at h2 h4
    exact k.sep a b j j' o o' p h1 h2 h3 h4
  frame := k.frame
  dom := k.dom
  news := k.news
  par := k.par
  hid := k.hid
  hids := fun c j o p h h' => by
    have z : c ≠ i := fun z => by
      subst z
      have hi : c < e.length := by
        have := (List.getElem?_eq_some_iff.mp h).1; rw [List.length_set] at this; exact this
      rw [List.getElem?_set_self hi] at h; cases h
    rw [List.getElem?_set_ne (Ne.symm z)] at h h'
    exact k.hids c j o p h h'
/-- a slot is emptied -/
theorem StOk.setU (k : StOk C Z Hs e σ H) {i : Nat} {x : Option V} : StOk C Z Hs (e.set i .un) (σ.set i x) H where
  len := by rw [List.length_set, List.length_set]; exact k.len
  le := k.le
  slot := fun i' s hs => by
    by_cases z : i = i'
    · subst z
      have hi : i < e.length := by
        have := (List.getElem?_eq_some_iff.mp hs).1; rw [List.length_set] at this; exact this
      rw [List.getElem?_set_self hi] at hs
      cases hs
      trivial
    · rw [List.getElem?_set_ne z] at hs ⊢
      exact k.slot i' s hs
  sep := fun a b j j' o o' p h1 h2 h3 h4 => by
    have f : ∀ {c : Nat} {j o}, (e.set i .un)[c]? = some (Slt.ow j o) → c ≠ i := fun {c j o} h z => by
      subst z
      have hi : c < e.length := by
        have := (List.getElem?_eq_some_iff.mp h).1; rw [List.length_set] at this; exact this
      rw [List.getElem?_set_self hi] at h; cases h
    have z1 := f h1; have z2 := f h2
    rw [List.getElem?_set_ne (Ne.symm z1)] at h1 h3
    rw [List.getElem?_set_ne (Ne.symm z2)] at h2 h4
    exact k.sep a b j j' o o' p h1 h2 h3 h4
  frame := k.frame
  dom := k.dom
  news := k.news
  par := k.par
  hid := k.hid
  hids := fun c j o p h h' => by
    have z : c ≠ i := fun z => by
      subst z
      have hi : c < e.length := by
        have := (List.getElem?_eq_some_iff.mp h).1; rw [List.length_set] at this; exact this
      rw [List.getElem?_set_self hi] at h; cases h
    rw [List.getElem?_set_ne (Ne.symm z)] at h h'
    exact k.hids c j o p h h'
/-- a slot is given an object of its own -/
theorem StOk.setO (k : StOk C Z Hs e σ H) {i : Nat} {p : Addr} {o : Ob} (h0 : C.H0 p = none) (hz : Z p = none) (hn : Hs p = none) (ho : OwnAt C.K C.sc Hs H p o) (hs : ∀ (i : Nat) j u, e[i]? = some (.ow j u) → σ[i]? ≠ some (some (.ref p))) :
    StOk C Z Hs (e.set i (.ow none o)) (σ.set i (some (.ref p))) H where
  len := by rw [List.length_set, List.length_set]; exact k.len
  le := k.le
  slot := fun i' s hs' => by
    by_cases z : i = i'
    · subst z
      have hi : i < e.length := by
        have := (List.getElem?_eq_some_iff.mp hs').1; rw [List.length_set] at this; exact this
      rw [List.getElem?_set_self hi] at hs'
      cases hs'
      rw [List.getElem?_set_self (by rw [k.len]; exact hi)]
      exact ⟨p, rfl, hn, ho, h0⟩
    · rw [List.getElem?_set_ne z] at hs' ⊢
      exact k.slot i' s hs'
  sep := fun a b j j' u u' q h1 h2 h3 h4 => by
    by_cases z1 : i = a
    · by_cases z2 : i = b
      · exact z1.symm.trans z2
      · rw [List.getElem?_set_ne z2] at h2 h4
        have hi : i < e.length := by
          have := (List.getElem?_eq_some_iff.mp h1).1; rw [List.length_set] at this; omega
        subst z1
        rw [List.getElem?_set_self (by rw [k.len]; exact hi)] at h3
        cases h3
        exact absurd h4 (hs b j' u' h2)
    · rw [List.getElem?_set_ne z1] at h1 h3
      by_cases z2 : i = b
      · have hi : i < e.length := by
          have := (List.getElem?_eq_some_iff.mp h2).1; rw [List.length_set] at this; omega
        subst z2
        rw [List.getElem?_set_self (by rw [k.len]; exact hi)] at h4
        cases h4
        exact absurd h3 (hs a j u h1)
      · rw [List.getElem?_set_ne z2] at h2 h4
        exact k.sep a b j j' u u' q h1 h2 h3 h4
  frame := k.frame
  dom := k.dom
  news := k.news
  par := k.par
  hid := k.hid
  hids := fun c j u q h h' => by
    by_cases z : i = c
    · have hi : i < e.length := by
        have := (List.getElem?_eq_some_iff.mp h).1; rw [List.length_set] at this; omega
      subst z
      rw [List.getElem?_set_self (by rw [k.len]; exact hi)] at h'
      cases h'
      exact hz
    · rw [List.getElem?_set_ne z] at h h'
      exact k.hids c j u q h h'
/-- an owned object is changed -/
theorem StOk.mut (k : StOk C Z Hs e σ H) {i : Nat} {j : Option Nat} {o o' : Ob} {p : Addr} {u : HO} (he : e[i]? = some (.ow j o)) (hp : σ[i]? = some (some (.ref p))) (ho : OwnAt C.K C.sc Hs (upd H p u) p o') :
    StOk C Z Hs (e.set i (.ow j o')) σ (upd H p u) where
  len := by rw [List.length_set]; exact k.len
  le := fun a v q => by
    obtain ⟨p', e1, e2, _⟩ := k.own he
    rw [hp] at e1; cases e1
    rw [upd_ne (ne_of_none q e2)]
    exact k.le a v q
  slot := fun i' s hs => by
    obtain ⟨p', e1, e2, e3, e4⟩ := k.own he
    rw [hp] at e1; cases e1
    by_cases z : i = i'
    · subst z
      have hi : i < e.length := (List.getElem?_eq_some_iff.mp he).1
      rw [List.getElem?_set_self hi] at hs
      cases hs
      exact ⟨p, hp, e2, ho, e4⟩
    · rw [List.getElem?_set_ne z] at hs
      have q := k.slot i' s hs
      cases s with
      | un => trivial
      | fz d => exact q
      | ow j' o2 =>
        obtain ⟨p2, f1, f2, f3, f4⟩ := q
        have ne : p2 ≠ p := fun z2 => z (k.sep i i' j j' o o2 p he hs hp (by rw [f1, z2]))
        exact ⟨p2, f1, f2, f3.mono Le.rfl' (upd_ne ne), f4⟩
  sep := fun a b j1 j2 o1 o2 q h1 h2 h3 h4 => by
    have f : ∀ {c : Nat} {j' o''}, (e.set i (.ow j o'))[c]? = some (Slt.ow j' o'') → ∃ j2 o2, e[c]? = some (.ow j2 o2) := fun {c j' o''} h => by
      by_cases z : i = c
      · exact ⟨j, o, z ▸ he⟩
      · rw [List.getElem?_set_ne z] at h; exact ⟨_, _, h⟩
    obtain ⟨_, _, g1⟩ := f h1
    obtain ⟨_, _, g2⟩ := f h2
    exact k.sep a b _ _ _ _ q g1 g2 h3 h4
  frame := fun a v h h' => by
    have ne : a ≠ p := fun z => h' (z ▸ k.unframed he hp v (z ▸ h))
    rw [upd_ne ne]
    exact k.frame a v h h'
  dom := fun a h => dom_upd a (k.dom a h)
  news := k.news
  par := k.par
  hid := fun a v q => by
    have ne : a ≠ p := ne_of_none q (k.hids i j o p he hp)
    rw [upd_ne ne]
    exact k.hid a v q
  hids := fun c j1 o1 q h h' => by
    by_cases z : i = c
    · subst z
      rw [hp] at h'; cases h'
      exact k.hids i j o p he hp
    · rw [List.getElem?_set_ne z] at h
      exact k.hids c j1 o1 q h h'
/-- less is hidden -/
theorem StOk.zle {Z1 : Hp} (k : StOk C Z Hs e σ H) (h : Le Z1 Z) : StOk C Z1 Hs e σ H :=
  ⟨k.len, k.le, k.slot, k.sep, k.frame, k.dom, k.news, k.par, fun a o q => k.hid a o (h a o q), fun i j o p h1 h2 => le_none h (k.hids i j o p h1 h2)⟩
/-- an object that no slot owns is hidden -/
theorem StOk.hide (k : StOk C Z Hs e σ H) {p : Addr} {o : HO} (h : H p = some o) (hn : Hs p = none) (hs : ∀ (i : Nat) j u, e[i]? = some (.ow j u) → σ[i]? ≠ some (some (.ref p))) : StOk C (upd Z p o) Hs e σ H :=
  ⟨k.len, k.le, k.slot, k.sep, k.frame, k.dom, k.news, k.par, fun a u q => by
    by_cases z : a = p
    · subst z; rw [upd_same] at q; cases q; exact ⟨h, hn⟩
    · rw [upd_ne z] at q; exact k.hid a u q, fun i j u q h1 h2 => by
    have z : q ≠ p := fun z => hs i j u h1 (z ▸ h2)
    rw [upd_ne z]
    exact k.hids i j u q h1 h2⟩
/-- a hidden object is changed -/
theorem StOk.hmut {D : Addr} {o o' : HO} (k : StOk C (upd Z D o) Hs e σ H) (h0 : C.H0 D = none) : StOk C (upd Z D o') Hs e σ (upd H D o') where
  len := k.len
  le := fun a v q => by
    have ne : a ≠ D := ne_of_none q (k.hid D o upd_same).2
    rw [upd_ne ne]; exact k.le a v q
  slot := fun i s hs => by
    have q := k.slot i s hs
    cases s with
    | un => trivial
    | fz d => exact q
    | ow j u =>
      obtain ⟨p, e1, e2, e3, e4⟩ := q
      have ne : p ≠ D := fun z => by
        have := k.hids i j u p hs e1
        rw [z, upd_same] at this; cases this
      exact ⟨p, e1, e2, e3.mono Le.rfl' (upd_ne ne), e4⟩
  sep := k.sep
  frame := fun a v h h' => by
    rw [upd_ne (ne_of_none h h0)]; exact k.frame a v h h'
  dom := fun a h => dom_upd a (k.dom a h)
  news := k.news
  par := k.par
  hid := fun a v q => by
    by_cases z : a = D
    · subst z; rw [upd_same] at q ⊢; exact ⟨q, (k.hid a o upd_same).2⟩
    · rw [upd_ne z] at q ⊢
      exact k.hid a v (by rw [upd_ne z]; exact q)
  hids := fun i j u p h1 h2 => by
    have q := k.hids i j u p h1 h2
    by_cases z : p = D
    · subst z; rw [upd_same] at q; cases q
    · rw [upd_ne z] at q ⊢; exact q
theorem StOk.fresh (k : StOk C Z Hs e σ H) {p : Addr} (h : H p = none) : ∀ (i : Nat) j u, e[i]? = some (.ow j u) → σ[i]? ≠ some (some (.ref p)) := fun i j u he hp => by
  obtain ⟨p', e1, _, e3, _⟩ := k.own he
  rw [hp] at e1; cases e1
  exact e3.some h
end

/-! ### what is wanted of what an expression comes to -/
def WE {α β : Type} (C : Cc) (Z : Hp) (σ : L2.St) (Hs H : Hp) (rel : α → Loc → β → Hp → Hp → Prop) (r : Rs α) (Q : β → Hp → Prop) : Prop := match r with
  | .ok a e' => ∀ b Hs' H', Post Hs H Hs' H' → StOk C Z Hs' e' σ H' → rel a e' b Hs' H' → Q b H'
  | .er x e' => ∀ Hs' H' c od, Post Hs H Hs' H' → StOk C Z Hs' e' σ H' → C.RE x c od Hs' H' → C.E c od H'
  | .ud => False
theorem we_mono {α β : Type} {C : Cc} {Z : Hp} {σ : L2.St} {Hs H Hs1 H1 : Hp} {rel : α → Loc → β → Hp → Hp → Prop} {r : Rs α} {Q : β → Hp → Prop} (p : Post Hs H Hs1 H1) (h : WE C Z σ Hs H rel r Q) : WE C Z σ Hs1 H1 rel r Q := by
  cases r with
  | ok a e' => exact fun b Hs' H' p' => h b Hs' H' (p.trans p')
  | er x e' => exact fun Hs' H' c od p' => h Hs' H' c od (p.trans p')
  | ud => exact h
theorem we_bind {α β γ δ : Type} {C : Cc} {Z : Hp} {σ : L2.St} {Hs H : Hp} {r1 : α → Loc → β → Hp → Hp → Prop} {r2 : γ → Loc → δ → Hp → Hp → Prop} {r : Rs α} {f : α → Loc → Rs γ} {Q : δ → Hp → Prop} {R : β → Hp → Prop}
    (k : ∀ a e1 b Hs1 H1, Post Hs H Hs1 H1 → StOk C Z Hs1 e1 σ H1 → r1 a e1 b Hs1 H1 → WE C Z σ Hs1 H1 r2 (f a e1) Q → R b H1) (h : WE C Z σ Hs H r2 (r.bind f) Q) : WE C Z σ Hs H r1 r R := by
  cases r with
  | ok a e' => exact fun b Hs' H' p' s q => k a e' b Hs' H' p' s q (we_mono p' h)
  | er x e' => exact h
  | ud => exact h
theorem we_of {α β : Type} {C : Cc} {Z : Hp} {σ : L2.St} {Hs H : Hp} {rel : α → Loc → β → Hp → Hp → Prop} {o : Option α} {e : Loc} {Q : β → Hp → Prop} (h : WE C Z σ Hs H rel (Rs.of o e) Q) : ∃ a, o = some a ∧ WE C Z σ Hs H rel (.ok a e) Q := by
  cases o with
  | none => exact h.elim
  | some a => exact ⟨a, rfl, h⟩

def rD (C : Cc) : Dv → Loc → V → Hp → Hp → Prop := fun d _ v Hs' _ => Rep C.K C.sc Hs' d v
def rDs (C : Cc) : List Dv → Loc → List V → Hp → Hp → Prop := fun d _ v Hs' _ => Reps C.K C.sc Hs' d v
def rB : Bool → Loc → Bool → Hp → Hp → Prop := fun b _ b' _ _ => b = b'
def rO (C : Cc) (Z : Hp) (σ : L2.St) : Ob → Loc → V → Hp → Hp → Prop := fun o e v Hs' H' => ∃ p, v = .ref p ∧ Hs' p = none ∧ (C.H0 p = none ∧ Z p = none) ∧ OwnAt C.K C.sc Hs' H' p o ∧ ∀ (i : Nat) j u, e[i]? = some (.ow j u) → σ[i]? ≠ some (some (.ref p))

/-- the reading t is at least the mirror m -/
def SE (C : Cc) (t : TE) (m : ME Dv) : Prop := ∀ Z Hs e σ H, StOk C Z Hs e σ H → ∀ Q, WE C Z σ Hs H (rD C) (m e) Q → t σ H Q
def SEO (C : Cc) (t : TE) (m : ME Ob) : Prop := ∀ Z Hs e σ H, StOk C Z Hs e σ H → ∀ Q, WE C Z σ Hs H (rO C Z σ) (m e) Q → t σ H Q
def ST (C : Cc) (t : TT) (m : ME Bool) : Prop := ∀ Z Hs e σ H, StOk C Z Hs e σ H → ∀ Q, WE C Z σ Hs H rB (m e) Q → t σ H Q
def SA (C : Cc) (t : TA) (m : ME (List Dv)) : Prop := ∀ Z Hs e σ H, StOk C Z Hs e σ H → ∀ Q, WE C Z σ Hs H (rDs C) (m e) Q → t σ H Q

theorem we_ok {α β : Type} {C : Cc} {Z : Hp} {σ : L2.St} {Hs H : Hp} {rel : α → Loc → β → Hp → Hp → Prop} {a : α} {e : Loc} {Q : β → Hp → Prop} (h : WE C Z σ Hs H rel (.ok a e) Q) {b : β} (k : StOk C Z Hs e σ H) (r : rel a e b Hs H) : Q b H := h b Hs H Post.refl k r
/-- a new thing is laid -/
theorem we_new {α : Type} {C : Cc} {Z : Hp} {σ : L2.St} {Hs H : Hp} {rel : α → Loc → V → Hp → Hp → Prop} {a : α} {e : Loc} {Q : V → Hp → Prop} (h : WE C Z σ Hs H rel (.ok a e) Q) (k : StOk C Z Hs e σ H) {p : Addr} {o : HO} (hp : H p = none)
    (r : rel a e (.ref p) (upd Hs p o) (upd H p o)) : Q (.ref p) (upd H p o) := h _ _ _ (Post.new (k.hs_none hp)) (k.new hp) r
/-- a new list of one's own -/
theorem we_newO {C : Cc} {Z : Hp} {σ : L2.St} {Hs H : Hp} {ds : List Dv} {xs : List V} {e : Loc} {Q : V → Hp → Prop} (h : WE C Z σ Hs H (rO C Z σ) (.ok (.lst ds) e) Q) (k : StOk C Z Hs e σ H) {p : Addr} (hp : H p = none) (r : Reps C.K C.sc Hs ds xs) : Q (.ref p) (upd H p (.lst xs)) :=
  h _ _ _ Post.newO (k.newO hp) ⟨p, rfl, k.hs_none hp, ⟨k.h0_none hp, k.z_none hp⟩, ⟨xs, upd_same, r⟩, k.fresh hp⟩
end Ml

set_option linter.all false
set_option maxRecDepth 100000
set_option maxHeartbeats 1000000
namespace Ml
open L2
open PySem (Addr Str sizeLine)
section
variable {C : Cc}

theorem slen (s : List Nat) : (sOf s).length = s.length := by simp [Str.length]
theorem lim_line {n : Nat} (h : n ≤ lim) : n ≤ sizeLine := Nat.le_trans h (by decide)
theorem lim_lt {n : Nat} (h : n < lim) : n < sizeLine := Nat.lt_of_lt_of_le h (by decide)
theorem sapp (a b : List Nat) : sOf a ++ sOf b = sOf (a ++ b) := TL.ext_tl (by rw [TL.tl_append])

/-! ### names and constants -/
theorem se_var {i : Nat} : SE C (tVar i) (mVar i) := fun Z Hs e σ H k Q w => by
  unfold mVar at w
  split at w
  · rename_i d hd
    obtain ⟨v, e1, r⟩ := k.fz hd
    exact ⟨v, e1, we_ok w k r⟩
  · exact w.elim
theorem se_k {v : V} {d : Dv} (h : ∀ Hs, Rep C.K C.sc Hs d v) : SE C (tC v) (mC d) := fun Z Hs e σ H k Q w => we_ok w k (h Hs)
theorem se_i {i : Int} : SE C (tC (.int i)) (mC (.int i)) := se_k fun _ => by simp only [Rep]
theorem se_b {b : Bool} : SE C (tC (.bl b)) (mC (.bl b)) := se_k fun _ => by simp only [Rep]
theorem se_n : SE C (tC .non) (mC .non) := se_k fun _ => by simp only [Rep]
theorem se_s {x : Str} {s : List Nat} (h : x = sOf s) : SE C (tC (.str x)) (mC (.str s)) := se_k fun _ => by simp only [Rep]; rw [h]

/-! ### operations -/
def R1 (C : Cc) (r : V → Hp → VK → Prop) (f : Dv → Option Dv) : Prop := ∀ Z Hs e σ H, StOk C Z Hs e σ H → ∀ x a c Q, Rep C.K C.sc Hs a x → f a = some c → WE C Z σ Hs H (rD C) (.ok c e) Q → r x H Q
def RV (C : Cc) (r : L2.R2) (f : Dv → Dv → Option Dv) : Prop := ∀ Z Hs e σ H, StOk C Z Hs e σ H → ∀ x y a b c Q, Rep C.K C.sc Hs a x → Rep C.K C.sc Hs b y → f a b = some c → WE C Z σ Hs H (rD C) (.ok c e) Q → r x y H Q
/-- the first operand a list that may be changed -/
def RW (C : Cc) (r : L2.R2) (f : List Dv → Dv → Option Dv) : Prop := ∀ Z Hs e σ H, StOk C Z Hs e σ H → ∀ p xs ds y b c Q, H p = some (.lst xs) → Reps C.K C.sc Hs ds xs → Rep C.K C.sc Hs b y → f ds b = some c → WE C Z σ Hs H (rD C) (.ok c e) Q → r (.ref p) y H Q
def RW1 (C : Cc) (r : V → Hp → VK → Prop) (f : List Dv → Option Dv) : Prop := ∀ Z Hs e σ H, StOk C Z Hs e σ H → ∀ p xs ds c Q, H p = some (.lst xs) → Reps C.K C.sc Hs ds xs → f ds = some c → WE C Z σ Hs H (rD C) (.ok c e) Q → r (.ref p) H Q
def RC1 (C : Cc) (r : List V → Hp → VK → Prop) (f : Dv → Option Dv) : Prop := R1 C (fun x => r [x]) f
def RCW (C : Cc) (r : List V → Hp → VK → Prop) (f : List Dv → Option Dv) : Prop := RW1 C (fun x => r [x]) f
def RN1 (C : Cc) (r : V → Hp → VK → Prop) (f : Dv → Option (List Dv)) : Prop := ∀ Z Hs e σ H, StOk C Z Hs e σ H → ∀ x a c Q, Rep C.K C.sc Hs a x → f a = some c → WE C Z σ Hs H (rO C Z σ) (.ok (.lst c) e) Q → r x H Q
def RCN (C : Cc) (r : List V → Hp → VK → Prop) (f : Dv → Option (List Dv)) : Prop := RN1 C (fun x => r [x]) f
def RN2 (C : Cc) (r : L2.R2) (f : Dv → Dv → Option (List Dv)) : Prop := ∀ Z Hs e σ H, StOk C Z Hs e σ H → ∀ x y a b c Q, Rep C.K C.sc Hs a x → Rep C.K C.sc Hs b y → f a b = some c → WE C Z σ Hs H (rO C Z σ) (.ok (.lst c) e) Q → r x y H Q

variable {ta tb te : TE} {ma mb me : ME Dv}
theorem se_op1 {r : V → Hp → VK → Prop} {f : Dv → Option Dv} (hr : R1 C r f) (ha : SE C ta ma) : SE C (tUn r ta) (mO1 f ma) := fun Z Hs e σ H k Q w =>
  ha Z Hs e σ H k _ (we_bind (fun a e1 x Hs1 H1 _ k1 r1 w1 => by
    obtain ⟨c, hc, w2⟩ := we_of w1
    exact hr Z Hs1 e1 σ H1 k1 x a c Q r1 hc w2) w)
theorem se_op {r : L2.R2} {f : Dv → Dv → Option Dv} (hr : RV C r f) (ha : SE C ta ma) (hb : SE C tb mb) : SE C (tOp r ta tb) (mO2 f ma mb) := fun Z Hs e σ H k Q w =>
  ha Z Hs e σ H k _ (we_bind (fun a e1 x Hs1 H1 _ k1 r1 w1 => hb Z Hs1 e1 σ H1 k1 _ (we_bind (fun b e2 y Hs2 H2 p2 k2 r2 w2 => by
    obtain ⟨c, hc, w3⟩ := we_of w2
    exact hr Z Hs2 e2 σ H2 k2 x y a b c Q (rep_le p2.le r1) r2 hc w3) w1)) w)
theorem seo_op {r : L2.R2} {f : Dv → Dv → Option (List Dv)} (hr : RN2 C r f) (ha : SE C ta ma) (hb : SE C tb mb) : SEO C (tOp r ta tb) (mN2 f ma mb) := fun Z Hs e σ H k Q w =>
  ha Z Hs e σ H k _ (we_bind (fun a e1 x Hs1 H1 _ k1 r1 w1 => hb Z Hs1 e1 σ H1 k1 _ (we_bind (fun b e2 y Hs2 H2 p2 k2 r2 w2 => by
    obtain ⟨o, ho, w3⟩ := we_of w2
    obtain ⟨c, hc, rfl⟩ := Option.map_eq_some_iff.mp ho
    exact hr Z Hs2 e2 σ H2 k2 x y a b c Q (rep_le p2.le r1) r2 hc w3) w1)) w)

/-- the first operand an owned list's name -/
theorem se_opO {r : L2.R2} {f : List Dv → Dv → Option Dv} {i : Nat} (hr : RW C r f) (hb : SE C tb mb) : SE C (tOp r (tVar i) tb) (mOwn2 i f mb) := fun Z Hs e σ H k Q w => by
  unfold mOwn2 at w
  split at w
  · rename_i j o he
    obtain ⟨p, e1, _⟩ := k.own he
    refine ⟨_, e1, hb Z Hs e σ H k _ (we_bind (fun b e2 y Hs2 H2 p2 k2 r2 w2 => ?_) w)⟩
    unfold mOwn at w2
    split at w2
    · rename_i j2 ds he2
      obtain ⟨p', e1', _, ⟨xs, hx, rx⟩, _⟩ := k2.own he2
      rw [e1] at e1'; cases e1'
      obtain ⟨c, hc, w3⟩ := we_of w2
      exact hr Z Hs2 e2 σ H2 k2 p xs ds y b c Q hx rx r2 hc w3
    · exact w2.elim
  · exact w.elim
theorem we_mown {Z : Hp} {σ : L2.St} {Hs H : Hp} {e : Loc} {i : Nat} {f : List Dv → Option Dv} {Q : V → Hp → Prop} (k : StOk C Z Hs e σ H) (w : WE C Z σ Hs H (rD C) (mOwn i f e) Q) :
    ∃ p xs ds c, σ[i]? = some (some (.ref p)) ∧ H p = some (.lst xs) ∧ Reps C.K C.sc Hs ds xs ∧ f ds = some c ∧ WE C Z σ Hs H (rD C) (.ok c e) Q := by
  unfold mOwn at w
  split at w
  · rename_i j ds he
    obtain ⟨p, e1, _, ⟨xs, hx, rx⟩, _⟩ := k.own he
    obtain ⟨c, hc, w3⟩ := we_of w
    exact ⟨p, xs, ds, c, e1, hx, rx, hc, w3⟩
  · exact w.elim
/-- a call of a builtin with one value -/
theorem se_cb1 {r : List V → Hp → VK → Prop} {f : Dv → Option Dv} (hr : RC1 C r f) (ha : SE C ta ma) : SE C (tCB r (tCons ta tNil)) (mO1 f ma) := fun Z Hs e σ H k Q w =>
  ha Z Hs e σ H k _ (we_bind (fun a e1 x Hs1 H1 _ k1 r1 w1 => by
    obtain ⟨c, hc, w2⟩ := we_of w1
    exact hr Z Hs1 e1 σ H1 k1 x a c Q r1 hc w2) w)
theorem se_cb1O {r : List V → Hp → VK → Prop} {f : List Dv → Option Dv} {i : Nat} (hr : RCW C r f) : SE C (tCB r (tCons (tVar i) tNil)) (mOwn i f) := fun Z Hs e σ H k Q w => by
  obtain ⟨p, xs, ds, c, e1, hx, rx, hc, w3⟩ := we_mown k w
  exact ⟨_, e1, hr Z Hs e σ H k p xs ds c Q hx rx hc w3⟩
theorem seo_cb1 {r : List V → Hp → VK → Prop} {f : Dv → Option (List Dv)} (hr : RCN C r f) (ha : SE C ta ma) : SEO C (tCB r (tCons ta tNil)) (mN1 f ma) := fun Z Hs e σ H k Q w =>
  ha Z Hs e σ H k _ (we_bind (fun a e1 x Hs1 H1 _ k1 r1 w1 => by
    obtain ⟨o, ho, w2⟩ := we_of w1
    obtain ⟨c, hc, rfl⟩ := Option.map_eq_some_iff.mp ho
    exact hr Z Hs1 e1 σ H1 k1 x a c Q r1 hc w2) w)
theorem se_cb2 {r : List V → Hp → VK → Prop} {f : Dv → Dv → Option Dv} (hr : RV C (fun x y => r [x, y]) f) (ha : SE C ta ma) (hb : SE C tb mb) : SE C (tCB r (tCons ta (tCons tb tNil))) (mO2 f ma mb) := fun Z Hs e σ H k Q w =>
  ha Z Hs e σ H k _ (we_bind (fun a e1 x Hs1 H1 _ k1 r1 w1 => hb Z Hs1 e1 σ H1 k1 _ (we_bind (fun b e2 y Hs2 H2 p2 k2 r2 w2 => by
    obtain ⟨c, hc, w3⟩ := we_of w2
    exact hr Z Hs2 e2 σ H2 k2 x y a b c Q (rep_le p2.le r1) r2 hc w3) w1)) w)

/-! ### new things -/
theorem se_fz {t : TE} {m : ME Ob} (h : SEO C t m) : SE C t (mFz m) := fun Z Hs e σ H k Q w =>
  h Z Hs e σ H k _ (we_bind (fun o e1 v Hs1 H1 _ k1 r1 w1 => by
    obtain ⟨p, rfl, h1, ⟨h2, hz⟩, ho, hf⟩ := r1
    cases o with
    | lst ds =>
      obtain ⟨xs, hx, rx⟩ := ho
      refine w1 _ (upd Hs1 p (.lst xs)) H1 ⟨Le.new h1, fun _ z => z⟩ (k1.freeze hx h2 h1 hz hf) ?_
      show Rep C.K C.sc _ (.lst ds) _
      simp only [Rep]
      exact ⟨p, xs, rfl, upd_same, reps_le (Le.new h1) rx⟩) w)
theorem sa_nil : SA C tNil (mArgs []) := fun Z Hs e σ H k Q w => we_ok w k reps_nil
theorem sa_cons {tr : TA} {ms : List (ME Dv)} (ha : SE C ta ma) (hr : SA C tr (mArgs ms)) : SA C (tCons ta tr) (mArgs (ma :: ms)) := fun Z Hs e σ H k Q w =>
  ha Z Hs e σ H k _ (we_bind (fun a e1 x Hs1 H1 _ k1 r1 w1 => hr Z Hs1 e1 σ H1 k1 _ (we_bind (fun b e2 y Hs2 H2 p2 k2 r2 w2 => we_ok w2 k2 (reps_cons (rep_le p2.le r1) r2)) w1)) w)

theorem se_tup {t : TA} {ms : List (ME Dv)} (h : SA C t (mArgs ms)) : SE C (tTup t) (mTup ms) := fun Z Hs e σ H k Q w =>
  h Z Hs e σ H k _ (we_bind (fun ds e1 xs Hs1 H1 _ k1 r1 w1 => by
    split at w1
    · rename_i hl
      refine ⟨by rw [reps_len r1]; exact Nat.le_trans hl (by decide), fun p hp => we_new w1 k1 hp ?_⟩
      show Rep C.K C.sc _ (.tup ds) _
      simp only [Rep]
      exact ⟨p, xs, rfl, SqT.of upd_same, reps_le (Le.new (k1.hs_none hp)) r1⟩
    · exact w1.elim) w)
theorem seo_lst {t : TA} {ms : List (ME Dv)} (h : SA C t (mArgs ms)) : SEO C (tLst t) (mLst ms) := fun Z Hs e σ H k Q w =>
  h Z Hs e σ H k _ (we_bind (fun ds e1 xs Hs1 H1 _ k1 r1 w1 => by
    split at w1
    · rename_i hl
      exact ⟨by rw [reps_len r1]; exact Nat.le_trans hl (by decide), fun p hp => we_newO w1 k1 hp r1⟩
    · exact w1.elim) w)

/-! ### tests -/
theorem st_test (h : SE C te me) : ST C (tTest te) (mTest me) := fun Z Hs e σ H k Q w =>
  h Z Hs e σ H k _ (we_bind (fun a e1 x Hs1 H1 _ k1 r1 w1 => by
    cases a with
    | bl b =>
      have r : x = .bl b := by simpa only [rD, Rep] using r1
      subst r
      exact ⟨b, rfl, we_ok w1 k1 rfl⟩
    | _ => exact w1.elim) w)
theorem st_B (h : SE C te me) : ST C (tB te) (mTest me) := st_test h
variable {tt tu : TT} {mt mu : ME Bool}
theorem st_and (h : ST C tt mt) (h' : ST C tu mu) : ST C (tAnd tt tu) (mAnd mt mu) := fun Z Hs e σ H k Q w =>
  h Z Hs e σ H k _ (we_bind (fun a e1 x Hs1 H1 _ k1 r1 w1 => by
    have r1 : a = x := r1
    subst r1
    cases a with
    | true => exact h' Z Hs1 e1 σ H1 k1 Q w1
    | false => exact we_ok w1 k1 rfl) w)
theorem st_or (h : ST C tt mt) (h' : ST C tu mu) : ST C (tOr tt tu) (mOr mt mu) := fun Z Hs e σ H k Q w =>
  h Z Hs e σ H k _ (we_bind (fun a e1 x Hs1 H1 _ k1 r1 w1 => by
    have r1 : a = x := r1
    subst r1
    cases a with
    | true => exact we_ok w1 k1 rfl
    | false => exact h' Z Hs1 e1 σ H1 k1 Q w1) w)
theorem st_not (h : ST C tt mt) : ST C (tNot tt) (mNot mt) := fun Z Hs e σ H k Q w =>
  h Z Hs e σ H k _ (we_bind (fun a e1 x Hs1 H1 _ k1 r1 w1 => by
    have r1 : a = x := r1
    subst r1
    exact we_ok w1 k1 rfl) w)
theorem st_yes : ST C tYes mYes := fun Z Hs e σ H k Q w => we_ok w k rfl
theorem se_andV (ha : SE C ta ma) (hb : SE C tb mb) : SE C (tAndV ta tb) (mAndV ma mb) := fun Z Hs e σ H k Q w =>
  ha Z Hs e σ H k _ (we_bind (r2 := rB) (fun a e1 x Hs1 H1 _ k1 r1 w1 => by
    cases a with
    | bl b =>
      have r : x = .bl b := by simpa only [rD, Rep] using r1
      subst r
      have w2 := w1 b Hs1 H1 Post.refl k1 rfl
      exact ⟨b, rfl, w2⟩
    | _ => exact w1.elim) (Q := fun b H1 => if b = true then tb σ H1 Q else Q (.bl false) H1) (we_bind (r1 := rB) (r2 := rD C) (fun x e1 y Hs1 H1 _ k1 r1 w1 => by
    have r1 : x = y := r1
    subst r1
    cases x with
    | true => exact hb Z Hs1 e1 σ H1 k1 Q w1
    | false => exact we_ok w1 k1 (show Rep C.K C.sc _ (.bl false) _ by simp only [Rep])) w))
theorem se_orV (ha : SE C ta ma) (hb : SE C tb mb) : SE C (tOrV ta tb) (mOrV ma mb) := fun Z Hs e σ H k Q w =>
  ha Z Hs e σ H k _ (we_bind (r2 := rB) (fun a e1 x Hs1 H1 _ k1 r1 w1 => by
    cases a with
    | bl b =>
      have r : x = .bl b := by simpa only [rD, Rep] using r1
      subst r
      have w2 := w1 b Hs1 H1 Post.refl k1 rfl
      exact ⟨b, rfl, w2⟩
    | _ => exact w1.elim) (Q := fun b H1 => if b = true then Q (.bl true) H1 else tb σ H1 Q) (we_bind (r1 := rB) (r2 := rD C) (fun x e1 y Hs1 H1 _ k1 r1 w1 => by
    have r1 : x = y := r1
    subst r1
    cases x with
    | true => exact we_ok w1 k1 (show Rep C.K C.sc _ (.bl true) _ by simp only [Rep])
    | false => exact hb Z Hs1 e1 σ H1 k1 Q w1) w))
theorem se_notV (ha : SE C ta ma) : SE C (tNotV ta) (mNotV ma) := fun Z Hs e σ H k Q w =>
  ha Z Hs e σ H k _ (we_bind (r2 := rB) (fun a e1 x Hs1 H1 _ k1 r1 w1 => by
    cases a with
    | bl b =>
      have r : x = .bl b := by simpa only [rD, Rep] using r1
      subst r
      have w2 := w1 b Hs1 H1 Post.refl k1 rfl
      exact ⟨b, rfl, w2⟩
    | _ => exact w1.elim) (Q := fun b H1 => Q (.bl (!b)) H1) (we_bind (r1 := rB) (r2 := rD C) (fun x e1 y Hs1 H1 _ k1 r1 w1 => by
    have r1 : x = y := r1
    subst r1
    exact we_ok w1 k1 (show Rep C.K C.sc _ (.bl (!x)) _ by simp only [Rep])) w))
theorem se_ite (h : ST C tt mt) (ha : SE C ta ma) (hb : SE C tb mb) : SE C (tIf tt ta tb) (mIte mt ma mb) := fun Z Hs e σ H k Q w =>
  h Z Hs e σ H k _ (we_bind (fun a e1 x Hs1 H1 _ k1 r1 w1 => by
    have r1 : a = x := r1
    subst r1
    cases a with
    | true => exact ha Z Hs1 e1 σ H1 k1 Q w1
    | false => exact hb Z Hs1 e1 σ H1 k1 Q w1) w)
theorem truv {K : PySem.W.Frag} {sc : Addr} {Hs H : Hp} {d : Dv} {x : V} {b : Bool} (l : Le Hs H) (r : Rep K sc Hs d x) (h : truthD d = some b) : TruV K x H b := by
  cases d with
  | bl c => simp only [Rep] at r; subst r; cases h; rfl
  | non => simp only [Rep] at r; subst r; cases h; rfl
  | int i => simp only [Rep] at r; subst r; cases h; rfl
  | str s =>
    simp only [Rep] at r; subst r
    simp only [truthD] at h
    split at h
    · rename_i hl
      cases h
      refine ⟨by rw [slen]; exact lim_line hl, ?_⟩
      rw [slen]
      cases s <;> simp <;> omega
    · cases h
  | tup ds =>
    simp only [Rep] at r
    obtain ⟨a, xs, rfl, hq, rs⟩ := r
    cases h
    refine .inr (.inl ⟨xs, sqt_le l hq, ?_⟩)
    have := reps_len rs
    cases ds <;> cases xs <;> simp_all
  | lst ds =>
    simp only [Rep] at r
    obtain ⟨a, xs, rfl, hq, rs⟩ := r
    cases h
    refine .inl ⟨xs, SqL.of (l _ _ hq), ?_⟩
    have := reps_len rs
    cases ds <;> cases xs <;> simp_all
  | scr ns => cases h
theorem st_truth {K : PySem.W.Frag} (hK : C.K = K) (h : SE C te me) : ST C (fun σ H Q => te σ H fun x H' => ∃ k, TruV K x H' k ∧ Q k H') (mTruth me) := fun Z Hs e σ H k Q w =>
  h Z Hs e σ H k _ (we_bind (fun a e1 x Hs1 H1 _ k1 r1 w1 => by
    subst hK
    obtain ⟨b, hb, w2⟩ := we_of w1
    exact ⟨b, truv k1.le r1 hb, we_ok w2 k1 rfl⟩) w)
theorem st_truthO {K : PySem.W.Frag} {i : Nat} : ST C (fun σ H Q => tVar i σ H fun x H' => ∃ k, TruV K x H' k ∧ Q k H') (mOwnTruth i) := fun Z Hs e σ H k Q w => by
  unfold mOwnTruth at w
  split at w
  · rename_i j ds he
    obtain ⟨p, e1, _, ⟨xs, hx, rx⟩, _⟩ := k.own he
    refine ⟨_, e1, !ds.isEmpty, .inl ⟨xs, SqL.of hx, ?_⟩, we_ok w k rfl⟩
    have := reps_len rx
    cases ds <;> cases xs <;> simp_all
  · exact w.elim
end
end Ml

set_option linter.all false
set_option maxRecDepth 100000
set_option maxHeartbeats 1000000
namespace Ml
open L2
open PySem (Addr Str sizeLine)

/-- the slots that a statement does not store to -/
def Kp (A : List Nat) (σ σ' : L2.St) : Prop := σ'.length = σ.length ∧ ∀ j, j ∉ A → σ'[j]? = σ[j]?
theorem Kp.refl {A : List Nat} {σ : L2.St} : Kp A σ σ := ⟨rfl, fun _ _ => rfl⟩
theorem Kp.trans {A B : List Nat} {σ σ1 σ2 : L2.St} (a : Kp A σ σ1) (b : Kp B σ1 σ2) : Kp (A ++ B) σ σ2 := ⟨b.1.trans a.1, fun j h =>
  (b.2 j fun z => h (List.mem_append_right _ z)).trans (a.2 j fun z => h (List.mem_append_left _ z))⟩
theorem Kp.sub {A B : List Nat} {σ σ' : L2.St} (h : Kp A σ σ') (s : ∀ j, j ∈ A → j ∈ B) : Kp B σ σ' := ⟨h.1, fun j z => h.2 j fun q => z (s j q)⟩

def RetOk (C : Cc) (Hs H : Hp) : Slt → V → Prop
  | .fz d, v => Rep C.K C.sc Hs d v
  | .ow none o, v => ∃ p, v = .ref p ∧ Hs p = none ∧ C.H0 p = none ∧ OwnAt C.K C.sc Hs H p o
  | _, _ => False
def WS (C : Cc) (Z : Hp) (A : List Nat) (σ : L2.St) (Hs H : Hp) (r : Sr) (Dn : Ends) : Prop := match r with
  | .nx e' => ∀ Hs' σ' H', Post Hs H Hs' H' → StOk C Z Hs' e' σ' H' → Kp A σ σ' → Dn.nx σ' H'
  | .ct e' => ∀ Hs' σ' H', Post Hs H Hs' H' → StOk C Z Hs' e' σ' H' → Kp A σ σ' → Dn.ct σ' H'
  | .bk e' => ∀ Hs' σ' H', Post Hs H Hs' H' → StOk C Z Hs' e' σ' H' → Kp A σ σ' → Dn.bk σ' H'
  | .rt s e' => ∀ v Hs' σ' H', Post Hs H Hs' H' → StOk C Z Hs' e' σ' H' → RetOk C Hs' H' s v → Dn.rt v H'
  | .er x e' => ∀ Hs' σ' H' c od, Post Hs H Hs' H' → StOk C Z Hs' e' σ' H' → C.RE x c od Hs' H' → C.E c od H'
  | .ud => False
def SS (C : Cc) (A : List Nat) (t : TS) (m : MS) : Prop := ∀ Z Hs e σ H, StOk C Z Hs e σ H → ∀ Dn, WS C Z A σ Hs H (m e) Dn → t Dn σ H

theorem ws_step {C : Cc} {Z : Hp} {A B : List Nat} {σ σ1 : L2.St} {Hs H Hs1 H1 : Hp} {r : Sr} {Dn : Ends} (p : Post Hs H Hs1 H1) (kp : ∀ σ2, Kp B σ1 σ2 → Kp A σ σ2) (h : WS C Z A σ Hs H r Dn) : WS C Z B σ1 Hs1 H1 r Dn := by
  cases r with
  | nx e => exact fun Hs' σ' H' p' k q => h Hs' σ' H' (p.trans p') k (kp _ q)
  | ct e => exact fun Hs' σ' H' p' k q => h Hs' σ' H' (p.trans p') k (kp _ q)
  | bk e => exact fun Hs' σ' H' p' k q => h Hs' σ' H' (p.trans p') k (kp _ q)
  | rt s e => exact fun v Hs' σ' H' p' k q => h v Hs' σ' H' (p.trans p') k q
  | er x e => exact fun Hs' σ' H' c od p' k q => h Hs' σ' H' c od (p.trans p') k q
  | ud => exact h
theorem we_go {α β : Type} {C : Cc} {Z : Hp} {A : List Nat} {σ : L2.St} {Hs H : Hp} {rel : α → Loc → β → Hp → Hp → Prop} {r : Rs α} {f : α → Loc → Sr} {Dn : Ends} {P : β → Hp → Prop}
    (k : ∀ a e1 b Hs1 H1, Post Hs H Hs1 H1 → StOk C Z Hs1 e1 σ H1 → rel a e1 b Hs1 H1 → WS C Z A σ Hs1 H1 (f a e1) Dn → P b H1) (h : WS C Z A σ Hs H (r.go f) Dn) : WE C Z σ Hs H rel r P := by
  cases r with
  | ok a e' => exact fun b Hs' H' p' s q => k a e' b Hs' H' p' s q (ws_step p' (fun _ z => z) h)
  | er x e' => exact fun Hs' H' c od p' s q => h Hs' σ H' c od p' s q
  | ud => exact h

section
variable {C : Cc} {A B : List Nat} {t u : TS} {m n : MS} {te ti : TE} {me mi : ME Dv}
theorem ss_mono (h : SS C A t m) (s : ∀ j, j ∈ A → j ∈ B) : SS C B t m := fun Z Hs e σ H k Dn w => h Z Hs e σ H k Dn (ws_step Post.refl (fun _ z => z.sub s) w)
theorem ss_nil : SS C [] tNext sNil := fun Z Hs e σ H k Dn w => w Hs σ H Post.refl k Kp.refl
theorem ss_brk : SS C [] tBreak sBrk := fun Z Hs e σ H k Dn w => w Hs σ H Post.refl k Kp.refl
theorem ss_cnt : SS C [] tCont sCnt := fun Z Hs e σ H k Dn w => w Hs σ H Post.refl k Kp.refl
theorem ss_seq (h : SS C A t m) (h' : SS C B u n) : SS C (A ++ B) (tSeq t u) (sSeq m n) := fun Z Hs e σ H k Dn w => by
  refine h Z Hs e σ H k { Dn with nx := u Dn } ?_
  have w : WS C Z (A ++ B) σ Hs H ((m e).then n) Dn := w
  cases q : m e with
  | nx e1 =>
    rw [q] at w
    exact fun Hs' σ' H' p' k' kp => h' Z Hs' e1 σ' H' k' Dn (ws_step p' (fun _ z => kp.trans z) w)
  | ct e1 => rw [q] at w; exact ws_step Post.refl (fun _ z => z.sub fun j => List.mem_append_left _) w
  | bk e1 => rw [q] at w; exact ws_step Post.refl (fun _ z => z.sub fun j => List.mem_append_left _) w
  | rt s e1 => rw [q] at w; exact w
  | er x e1 => rw [q] at w; exact w
  | ud => rw [q] at w; exact w
theorem ss_if {tt : TT} {mt : ME Bool} (hc : ST C tt mt) (h : SS C A t m) (h' : SS C B u n) : SS C (A ++ B) (tIfS tt t u) (sIf mt m n) := fun Z Hs e σ H k Dn w =>
  hc Z Hs e σ H k _ (we_go (fun a e1 x Hs1 H1 p1 k1 r1 w1 => by
    have r1 : a = x := r1
    subst r1
    cases a with
    | true => exact h Z Hs1 e1 σ H1 k1 Dn (ws_step Post.refl (fun _ z => z.sub fun j => List.mem_append_left _) w1)
    | false => exact h' Z Hs1 e1 σ H1 k1 Dn (ws_step Post.refl (fun _ z => z.sub fun j => List.mem_append_right _) w1)) w)

/-! ### targets -/
def SG (C : Cc) (A : List Nat) (g : TG) (mg : MG) : Prop := ∀ Z Hs e σ H, StOk C Z Hs e σ H → ∀ d v e', Rep C.K C.sc Hs d v → mg d e = some e' → ∀ Q, (∀ σ', StOk C Z Hs e' σ' H → Kp A σ σ' → Q σ' H) → g v σ H Q
def SGs (C : Cc) (A : List Nat) (g : TGs) (mg : List MG) : Prop := ∀ Z Hs e σ H, StOk C Z Hs e σ H → ∀ ds vs e', Reps C.K C.sc Hs ds vs → gTs mg ds e = some e' → ∀ Q, (∀ σ', StOk C Z Hs e' σ' H → Kp A σ σ' → Q σ' H) → g vs σ H Q
theorem kp_set {σ : L2.St} {i : Nat} {x : Option V} : Kp [i] σ (σ.set i x) := ⟨List.length_set .., fun j h => by
  rw [List.getElem?_set_ne (fun z => h (by rw [z]; exact List.mem_singleton.mpr rfl))]⟩
theorem sg_name {i : Nat} : SG C [i] (gName i) (gN i) := fun Z Hs e σ H k d v e' r h Q q => by
  unfold gN at h
  split at h
  · cases h
    exact q _ (k.setF r) kp_set
  · cases h
theorem sgs_nil : SGs C [] gNil [] := fun Z Hs e σ H k ds vs e' r h Q q => by
  cases ds with
  | nil => simp only [Reps] at r; subst r; cases h; exact ⟨rfl, q σ k Kp.refl⟩
  | cons d ds => cases h
theorem sgs_cons {g : TG} {mg : MG} {gs : TGs} {mgs : List MG} (h : SG C A g mg) (hs : SGs C B gs mgs) : SGs C (A ++ B) (gCons g gs) (mg :: mgs) := fun Z Hs e σ H k ds vs e' r hm Q q => by
  cases ds with
  | nil => cases hm
  | cons d ds =>
    simp only [Reps] at r
    obtain ⟨v, vr, rfl, r1, r2⟩ := r
    obtain ⟨e1, h1, h2⟩ := Option.bind_eq_some_iff.mp hm
    exact ⟨v, vr, rfl, h Z Hs e σ H k d v e1 r1 h1 _ fun σ1 k1 kp1 => hs Z Hs e1 σ1 H k1 ds vr e' r2 h2 Q fun σ2 k2 kp2 => q σ2 k2 (kp1.trans kp2)⟩
theorem gts_len : ∀ {mgs : List MG} {ds : List Dv} {e e' : Loc}, gTs mgs ds e = some e' → ds.length = mgs.length
  | [], [], _, _, _ => rfl
  | [], _ :: _, _, _, h => by cases h
  | _ :: _, [], _, _, h => by cases h
  | g :: gs, d :: ds, e, e', h => by
    obtain ⟨e1, h1, h2⟩ := Option.bind_eq_some_iff.mp h
    simp [gts_len h2]
theorem sg_tup {gs : TGs} {mgs : List MG} {N : Nat} (h : SGs C A gs mgs) (hn : N = mgs.length := by rfl) : SG C A (gTup C.K N gs) (gT mgs) := fun Z Hs e σ H k d v e' r hm Q q => by
  cases d with
  | tup ds =>
    simp only [Rep] at r
    obtain ⟨a, xs, rfl, hq, rs⟩ := r
    exact ⟨a, xs, rfl, sqt_le k.le hq, by rw [reps_len rs, gts_len hm, hn], h Z Hs e σ H k ds xs e' rs hm Q q⟩
  | _ => cases hm
theorem ss_set {g : TG} {mg : MG} (h : SE C te me) (hg : SG C A g mg) : SS C A (tAsg te g) (sSet me mg) := fun Z Hs e σ H k Dn w =>
  h Z Hs e σ H k _ (we_go (fun d e1 v Hs1 H1 p1 k1 r1 w1 => by
    cases q : mg d e1 with
    | none => rw [q] at w1; exact w1.elim
    | some e2 => rw [q] at w1; exact hg Z Hs1 e1 σ H1 k1 d v e2 r1 q _ fun σ' k' kp => w1 Hs1 σ' H1 Post.refl k' kp) w)
theorem ss_setO {i : Nat} {mo : ME Ob} (h : SEO C te mo) : SS C [i] (tAsg te (gName i)) (sSetO i mo) := fun Z Hs e σ H k Dn w =>
  h Z Hs e σ H k _ (we_go (fun o e1 v Hs1 H1 p1 k1 r1 w1 => by
    obtain ⟨p, rfl, h1, ⟨h2, hz⟩, ho, hf⟩ := r1
    split at w1
    · exact w1 Hs1 _ H1 Post.refl (k1.setO h2 hz h1 ho hf) kp_set
    · exact w1.elim) w)
theorem ss_aug {i : Nat} {ip : TIp} {f : Dv → Dv → Option Dv} (hr : RV C ip f) (h : SE C te me) : SS C [i] (tAug i te ip) (sAug i f me) := fun Z Hs e σ H k Dn w => by
  unfold sAug at w
  split at w
  · rename_i d hd
    obtain ⟨x, e1, r⟩ := k.fz hd
    refine ⟨x, e1, h Z Hs e σ H k _ (we_go (fun b e1 y Hs1 H1 p1 k1 r1 w1 => ?_) w)⟩
    split at w1
    · rename_i c hc
      exact hr Z Hs1 e1 σ H1 k1 x y d b c _ (rep_le p1.le r) r1 hc fun z Hs' H' p' k' r' => w1 Hs' _ H' p' (k'.setF r') kp_set
    · exact w1.elim
  · exact w.elim
theorem ss_drop (h : SE C te me) : SS C [] (tDrop te) (sDrop me) := fun Z Hs e σ H k Dn w =>
  h Z Hs e σ H k _ (we_go (A := []) (f := fun _ e => .nx e) (Dn := Dn) (fun d e1 v Hs1 H1 p1 k1 r1 w1 => w1 Hs1 σ H1 Post.refl k1 Kp.refl) w)
theorem ow_of {x : Option Slt} (h : isOw x = true) : ∃ j o, x = some (.ow j o) := by
  cases x with
  | none => cases h
  | some s => cases s with
    | ow j o => exact ⟨j, o, rfl⟩
    | un => cases h
    | fz d => cases h
theorem ss_app {i : Nat} {K : PySem.W.Frag} (h : SE C te me) : SS C [] (tDrop (tBM K "list" rAppend (tVar i) (tCons te tNil))) (sApp i me) := fun Z Hs e σ H k Dn w => by
  unfold sApp at w
  split at w
  · rename_i ho
    obtain ⟨j, o, he⟩ := ow_of ho
    obtain ⟨p, e1, hn, own, _⟩ := k.own he
    cases o with
    | lst ds0 =>
    obtain ⟨xs0, hx0, _⟩ := own
    refine ⟨_, e1, .inl ⟨rfl, xs0, SqL.of hx0⟩, h Z Hs e σ H k _ (we_go (fun d e2 v Hs2 H2 p2 k2 r2 w2 => ?_) w)⟩
    split at w2
    · rename_i j2 ds he2
      obtain ⟨p', e1', _, ⟨xs, hx, rx⟩, _⟩ := k2.own he2
      rw [e1] at e1'; cases e1'
      split at w2
      · rename_i hl
        refine ⟨p, xs, v, rfl, rfl, hx, by rw [reps_len rx]; exact lim_lt hl, w2 Hs2 σ _ Post.newO (k2.mut he2 e1 ⟨_, upd_same, reps_app rx (reps_cons r2 reps_nil)⟩) Kp.refl⟩
      · exact w2.elim
    · exact w2.elim
  · exact w.elim
theorem ixn_eq (n : Nat) (i : Int) : ixn n i = ixN n i := rfl
theorem ss_put {i : Nat} (h : SE C te me) (hi : SE C ti mi) : SS C [] (tAsg te (gSub (tVar i) ti rSetL)) (sPut i mi me) := fun Z Hs e σ H k Dn w =>
  h Z Hs e σ H k _ (we_go (fun d e1 v Hs1 H1 p1 k1 r1 w1 => by
    split at w1
    · rename_i ho
      obtain ⟨j, o, he⟩ := ow_of ho
      obtain ⟨p, s1, hn, own, _⟩ := k1.own he
      refine ⟨_, s1, hi Z Hs1 e1 σ H1 k1 _ (we_go (fun b e2 y Hs2 H2 p2 k2 r2 w2 => ?_) w1)⟩
      split at w2
      · rename_i j2 ds kk he2
        obtain ⟨p', s1', _, ⟨xs, hx, rx⟩, _⟩ := k2.own he2
        rw [s1] at s1'; cases s1'
        have r2 : y = .int kk := by simpa only [rD, Rep] using r2
        subst r2
        split at w2
        · rename_i n hn2
          refine ⟨p, xs, kk, n, rfl, rfl, hx, by rw [reps_len rx]; exact hn2, ?_⟩
          exact w2 Hs2 σ _ Post.newO (k2.mut he2 s1 ⟨_, upd_same, reps_set rx (rep_le p2.le r1)⟩) Kp.refl
        · exact w2.elim
      · exact w2.elim
    · exact w1.elim) w)
theorem getI_at {ds : List Dv} {k : Int} {a : Dv} {Hs : Hp} {xs : List V} (h : getI ds k = some a) (r : Reps C.K C.sc Hs ds xs) : ∃ v, atI xs k = some v ∧ Rep C.K C.sc Hs a v := by
  unfold getI at h
  obtain ⟨n, h1, h2⟩ := Option.bind_eq_some_iff.mp h
  obtain ⟨v, e1, e2⟩ := reps_get r h2
  refine ⟨v, ?_, e2⟩
  unfold atI
  rw [reps_len r, ← ixn_eq, h1]
  exact e1
theorem ss_putAug {i : Nat} {ip : TIp} {f : Dv → Dv → Option Dv} {K : PySem.W.Frag} (hi : SE C ti mi) (hr : RV C ip f) (h : SE C te me) : SS C [] (tAugS (tVar i) ti te (rIxL K) ip rSetL) (sPutAug i mi f me) := fun Z Hs e σ H k Dn w => by
  unfold sPutAug at w
  split at w
  · rename_i ho
    obtain ⟨j, o, he⟩ := ow_of ho
    obtain ⟨p, s1, hn, own, _⟩ := k.own he
    refine ⟨_, s1, hi Z Hs e σ H k _ (we_go (fun b e2 y Hs2 H2 p2 k2 r2 w2 => ?_) w)⟩
    split at w2
    · rename_i j2 ds kk he2
      obtain ⟨p', s1', _, ⟨xs, hx, rx⟩, _⟩ := k2.own he2
      rw [s1] at s1'; cases s1'
      have r2 : y = .int kk := by simpa only [rD, Rep] using r2
      subst r2
      split at w2
      · rename_i a ha
        obtain ⟨va, ha1, ha2⟩ := getI_at ha rx
        refine ⟨p, xs, kk, va, rfl, rfl, SqL.of hx, ha1, h Z Hs2 e2 σ H2 k2 _ (we_go (fun b e3 z Hs3 H3 p3 k3 r3 w3 => ?_) w2)⟩
        split at w3
        · rename_i c j3 ds3 hc he3
          split at w3
          · rename_i n hn3
            refine hr Z Hs3 e3 σ H3 k3 va z a b c _ (rep_le p3.le ha2) r3 hc fun x5 Hs5 H5 p5 k5 r5 => ?_
            obtain ⟨p5', s5, _, ⟨xs5, hx5, rx5⟩, _⟩ := k5.own he3
            rw [s1] at s5; cases s5
            refine ⟨p, xs5, kk, n, rfl, rfl, hx5, by rw [reps_len rx5]; exact hn3, ?_⟩
            exact w3 Hs5 σ _ (p5.trans Post.newO) (k5.mut he3 s1 ⟨_, upd_same, reps_set rx5 r5⟩) Kp.refl
          · exact w3.elim
        · exact w3.elim
      · exact w2.elim
    · exact w2.elim
  · exact w.elim
theorem ss_ret (h : SE C te me) : SS C [] (tRet te) (sRet me) := fun Z Hs e σ H k Dn w =>
  h Z Hs e σ H k _ (we_go (A := []) (f := fun d e => .rt (.fz d) e) (Dn := Dn) (fun d e1 v Hs1 H1 p1 k1 r1 w1 => w1 v Hs1 σ H1 Post.refl k1 r1) w)
theorem ss_retO {mo : ME Ob} (h : SEO C te mo) : SS C [] (tRet te) (sRetO mo) := fun Z Hs e σ H k Dn w =>
  h Z Hs e σ H k _ (we_go (fun o e1 v Hs1 H1 p1 k1 r1 w1 => by
    obtain ⟨p, rfl, h1, ⟨h2, hz⟩, ho, hf⟩ := r1
    exact w1 _ Hs1 σ H1 Post.refl k1 ⟨p, rfl, h1, h2, ho⟩) w)
theorem ss_retN : SS C [] tRetN (sRet (mC .non)) := fun Z Hs e σ H k Dn w => w _ Hs σ H Post.refl k (by show Rep C.K C.sc Hs .non _; simp only [Rep])
theorem ss_retV {i : Nat} : SS C [] (tRet (tVar i)) (sRetV i) := fun Z Hs e σ H k Dn w => by
  unfold sRetV at w
  split at w
  · rename_i o he
    obtain ⟨p, s1, hn, own, h0⟩ := k.own he
    exact ⟨_, s1, w _ Hs σ H Post.refl k ⟨p, rfl, hn, h0, own⟩⟩
  · exact w.elim

/-! ### for -/
def IterOk (C : Cc) (J : It) (Hs0 : Hp) (ds : List Dv) : Prop := ∀ (k : Nat) Z Hs1 e1 σ1 H1, StOk C Z Hs1 e1 σ1 H1 → Le Hs0 Hs1 →
  (∀ d, ds[k]? = some d → J.go k H1 ∧ ∀ x H2, J.yld k H1 x H2 → ∃ Hs2, Post Hs1 H1 Hs2 H2 ∧ StOk C Z Hs2 e1 σ1 H2 ∧ Rep C.K C.sc Hs2 d x) ∧ (ds.length ≤ k → J.stop k H1)
def rI (C : Cc) : List Dv → Loc → It → Hp → Hp → Prop := fun ds _ J Hs' _ => IterOk C J Hs' ds
def SI (C : Cc) (wi : TI) (mi : ME (List Dv)) : Prop := ∀ Z Hs e σ H, StOk C Z Hs e σ H → ∀ R, WE C Z σ Hs H (rI C) (mi e) R → wi σ H R
theorem drop_cons {α : Type} {ds : List α} {i : Nat} (h : i < ds.length) : ∃ d, ds[i]? = some d ∧ ds.drop i = d :: ds.drop (i + 1) :=
  ⟨ds[i], List.getElem?_eq_getElem h, List.drop_eq_getElem_cons h⟩
theorem ss_for {wi : TI} {mi : ME (List Dv)} {g : TG} {mg : MG} (hi : SI C wi mi) (hg : SG C A g mg) (hb : SS C B t m) : SS C (A ++ B) (tFor wi g t) (sFor mi mg m) := fun Z Hs e σ H k Dn w =>
  hi Z Hs e σ H k _ (we_go (fun ds e1 J Hs1 H1 p1 k1 it w1 => by
    refine ⟨fun i mm σ' H' => mm = ds.length - i ∧ i ≤ ds.length ∧ ∃ Hs' e', Post Hs1 H1 Hs' H' ∧ StOk C Z Hs' e' σ' H' ∧ WS C Z (A ++ B) σ' Hs' H' (loop mg m (ds.drop i) e') Dn,
      ⟨ds.length, rfl, Nat.zero_le _, Hs1, e1, Post.refl, k1, w1⟩, ?_⟩
    rintro i mm σ' H' ⟨rfl, hle, Hs', e', p', k', w'⟩
    obtain ⟨itg, its⟩ := it i Z Hs' e' σ' H' k' p'.le
    by_cases hlt : i < ds.length
    · obtain ⟨d, hd, hdr⟩ := drop_cons hlt
      obtain ⟨go, yl⟩ := itg d hd
      rw [hdr] at w'
      refine .inr ⟨go, fun σ3 H3 => ∃ Hs3 e3, Post Hs1 H1 Hs3 H3 ∧ StOk C Z Hs3 e3 σ3 H3 ∧ WS C Z (A ++ B) σ3 Hs3 H3 (loop mg m (ds.drop (i + 1)) e3) Dn, fun σ3 H3 h3 => ⟨ds.length - (i + 1), by omega, rfl, hlt, h3⟩, fun x H2 hy => ?_⟩
      obtain ⟨Hs2, p2, k2, r2⟩ := yl x H2 hy
      have w2 : WS C Z (A ++ B) σ' Hs' H' (match mg d e' with
        | none => .ud
        | some e => match m e with
          | .nx e => loop mg m (ds.drop (i + 1)) e
          | .ct e => loop mg m (ds.drop (i + 1)) e
          | .bk e => .nx e
          | r => r) Dn := w'
      cases q : mg d e' with
      | none => rw [q] at w2; exact w2.elim
      | some e2 =>
        rw [q] at w2
        refine hg Z Hs2 e' σ' H2 k2 d x e2 r2 q _ fun σ2 k3 kp3 => ?_
        refine hb Z Hs2 e2 σ2 H2 k3 _ ?_
        have cvt : ∀ {σ4 : L2.St} {r : Sr} {Hs4 H4 : Hp} {D2 : Ends}, Post Hs2 H2 Hs4 H4 → Kp B σ2 σ4 → WS C Z (A ++ B) σ' Hs' H' r D2 → WS C Z (A ++ B) σ4 Hs4 H4 r D2 := fun {σ4 r Hs4 H4 D2} p4 kp4 h4 =>
          ws_step (p2.trans p4) (fun _ z => ⟨z.1.trans (kp4.1.trans kp3.1), fun j hj => ((z.2 j hj).trans (kp4.2 j fun q => hj (List.mem_append_right _ q))).trans (kp3.2 j fun q => hj (List.mem_append_left _ q))⟩) h4
        cases q2 : m e2 with
        | nx e3 => simp only [q2] at w2; exact fun Hs4 σ4 H4 p4 k4 kp4 => ⟨Hs4, e3, (p'.trans p2).trans p4, k4, cvt p4 kp4 w2⟩
        | ct e3 => simp only [q2] at w2; exact fun Hs4 σ4 H4 p4 k4 kp4 => ⟨Hs4, e3, (p'.trans p2).trans p4, k4, cvt p4 kp4 w2⟩
        | bk e3 => simp only [q2] at w2; exact fun Hs4 σ4 H4 p4 k4 kp4 => w2 Hs4 σ4 H4 (p2.trans p4) k4 (kp3.trans kp4)
        | rt s e3 => simp only [q2] at w2; exact fun v Hs4 σ4 H4 p4 k4 r4 => w2 v Hs4 σ4 H4 (p2.trans p4) k4 r4
        | er x e3 => simp only [q2] at w2; exact fun Hs4 σ4 H4 c od p4 k4 r4 => w2 Hs4 σ4 H4 c od (p2.trans p4) k4 r4
        | ud => simp only [q2] at w2; exact w2.elim
    · have e0 : ds.drop i = [] := List.drop_eq_nil_of_le (by omega)
      rw [e0] at w'
      exact .inl ⟨its (by omega), w' Hs' σ' H' Post.refl k' Kp.refl⟩) w)
end
end Ml

set_option linter.all false
set_option maxRecDepth 100000
set_option maxHeartbeats 1000000
namespace Ml
open L2
open PySem (Addr Str sizeLine)
section
variable {C : Cc} {te ta tb : TE} {me ma mb : ME Dv}

/-! ### what is walked -/
theorem iter_same {J : It} {Hs0 : Hp} {ds : List Dv} (h : ∀ (k : Nat) Z Hs1 e1 σ1 H1, StOk C Z Hs1 e1 σ1 H1 → Le Hs0 Hs1 → (∀ d, ds[k]? = some d → J.go k H1 ∧ ∀ x H2, J.yld k H1 x H2 → H2 = H1 ∧ Rep C.K C.sc Hs1 d x) ∧ (ds.length ≤ k → J.stop k H1)) : IterOk C J Hs0 ds := fun k Z Hs1 e1 σ1 H1 k1 l =>
  ⟨fun d hd => ⟨((h k Z Hs1 e1 σ1 H1 k1 l).1 d hd).1, fun x H2 hy => by
    obtain ⟨rfl, r⟩ := ((h k Z Hs1 e1 σ1 H1 k1 l).1 d hd).2 x H2 hy
    exact ⟨Hs1, Post.refl, k1, r⟩⟩, (h k Z Hs1 e1 σ1 H1 k1 l).2⟩
theorem iter_list {Hs0 : Hp} {a : Addr} {xs : List V} {ds : List Dv} (h : Hs0 a = some (.lst xs)) (r : Reps C.K C.sc Hs0 ds xs) : IterOk C (Itl C.K a) Hs0 ds := iter_same fun k Z Hs1 e1 σ1 H1 k1 l => by
  have h1 : SqL C.K H1 a xs := SqL.of (k1.le _ _ (l _ _ h))
  refine ⟨fun d hd => ?_, fun hk => ⟨xs, h1, by rw [reps_len r]; exact hk⟩⟩
  obtain ⟨v, e1, e2⟩ := reps_get r hd
  refine ⟨⟨xs, v, h1, e1⟩, fun x H2 hy => ⟨hy.1, ?_⟩⟩
  have := hy.2 xs h1
  rw [e1] at this; cases this
  exact rep_le l e2
theorem iter_tup {Hs0 : Hp} {a : Addr} {xs : List V} {ds : List Dv} (h : SqT C.K Hs0 a xs) (r : Reps C.K C.sc Hs0 ds xs) : IterOk C (Itt C.K a) Hs0 ds := iter_same fun k Z Hs1 e1 σ1 H1 k1 l => by
  have h1 : SqT C.K H1 a xs := sqt_le k1.le (sqt_le l h)
  refine ⟨fun d hd => ?_, fun hk => ⟨xs, h1, by rw [reps_len r]; exact hk⟩⟩
  obtain ⟨v, e1, e2⟩ := reps_get r hd
  refine ⟨⟨xs, v, h1, e1⟩, fun x H2 hy => ⟨hy.1, ?_⟩⟩
  have := hy.2 xs h1
  rw [e1] at this; cases this
  exact rep_le l e2
theorem si_list {K : PySem.W.Frag} (hK : C.K = K) (h : SE C te me) : SI C (iList K te) (mIt itL me) := fun Z Hs e σ H k R w =>
  h Z Hs e σ H k _ (we_bind (fun a e1 x Hs1 H1 _ k1 r1 w1 => by
    subst hK
    obtain ⟨ds, hd, w2⟩ := we_of w1
    cases a with
    | lst ds' =>
      cases hd
      simp only [rD, Rep] at r1
      obtain ⟨p, xs, rfl, hx, rx⟩ := r1
      exact ⟨p, rfl, ⟨xs, SqL.of (k1.le _ _ hx)⟩, we_ok w2 k1 (iter_list hx rx)⟩
    | _ => cases hd) w)
theorem si_tup {K : PySem.W.Frag} (hK : C.K = K) (h : SE C te me) : SI C (iTup K te) (mIt itT me) := fun Z Hs e σ H k R w =>
  h Z Hs e σ H k _ (we_bind (fun a e1 x Hs1 H1 _ k1 r1 w1 => by
    subst hK
    obtain ⟨ds, hd, w2⟩ := we_of w1
    cases a with
    | tup ds' =>
      cases hd
      simp only [rD, Rep] at r1
      obtain ⟨p, xs, rfl, hx, rx⟩ := r1
      exact ⟨p, rfl, ⟨xs, sqt_le k1.le hx⟩, we_ok w2 k1 (iter_tup hx rx)⟩
    | _ => cases hd) w)
theorem si_str (h : SE C te me) : SI C (iStr te) (mIt itS me) := fun Z Hs e σ H k R w =>
  h Z Hs e σ H k _ (we_bind (fun a e1 x Hs1 H1 _ k1 r1 w1 => by
    obtain ⟨ds, hd, w2⟩ := we_of w1
    cases a with
    | str s =>
      cases hd
      have r1 : x = .str (sOf s) := by simpa only [rD, Rep] using r1
      subst r1
      refine ⟨sOf s, rfl, we_ok w2 k1 (iter_same fun k Z Hs1 e1 σ1 H1 k1 l => ?_)⟩
      have es : (sOf s).cps.size = s.length := by simp
      refine ⟨fun d hd => ?_, fun hk => ?_⟩
      · rw [List.getElem?_map] at hd
        obtain ⟨c, hc, rfl⟩ := Option.map_eq_some_iff.mp hd
        refine ⟨by show k < (sOf s).cps.size; rw [es]; exact (List.getElem?_eq_some_iff.mp hc).1, fun x H2 hy => ⟨hy.1, ?_⟩⟩
        obtain ⟨c', h1, h2⟩ := hy.2
        have : (sOf s).cps[k]? = s[k]? := by simp
        rw [this, hc] at h1; cases h1
        simp only [Rep]; exact h2
      · show (sOf s).cps.size ≤ k
        rw [es]; simpa using hk
    | _ => cases hd) w)
theorem iter_rng {Hs0 : Hp} {lo : Int} {n : Nat} : IterOk C (Itr lo n) Hs0 ((List.range n).map fun (k : Nat) => Dv.int (lo + (k : Int))) := iter_same fun k Z Hs1 e1 σ1 H1 k1 l => by
  refine ⟨fun d hd => ?_, fun hk => by show n ≤ k; simpa using hk⟩
  rw [List.getElem?_map] at hd
  obtain ⟨c, hc, rfl⟩ := Option.map_eq_some_iff.mp hd
  have hlt : k < n := by simpa using (List.getElem?_eq_some_iff.mp hc).1
  rw [List.getElem?_range hlt] at hc; cases hc
  exact ⟨hlt, fun x H2 hy => ⟨hy.1, by simp only [Rep]; exact hy.2⟩⟩
theorem itR_some {lo hi : Int} {ds : List Dv} (h : itR lo hi = some ds) : (-big ≤ lo ∧ lo ≤ big ∧ -big ≤ hi ∧ hi ≤ big) ∧ ds = (List.range (hi - lo).toNat).map fun (k : Nat) => Dv.int (lo + (k : Int)) := by
  unfold itR at h
  split at h
  · rename_i hc; cases h; exact ⟨hc, rfl⟩
  · cases h
theorem si_rng1 (h : SE C te me) : SI C (iRng1 (tCons te tNil)) (mRg1 me) := fun Z Hs e σ H k R w =>
  h Z Hs e σ H k _ (we_bind (fun a e1 x Hs1 H1 _ k1 r1 w1 => by
    cases a with
    | int n =>
      have r1 : x = .int n := by simpa only [rD, Rep] using r1
      subst r1
      obtain ⟨ds, hd, w2⟩ := we_of w1
      obtain ⟨⟨b1, b2, b3, b4⟩, rfl⟩ := itR_some hd
      unfold big at b3 b4
      refine ⟨n, rfl, by omega, by omega, we_ok w2 k1 ?_⟩
      have := iter_rng (C := C) (Hs0 := Hs1) (lo := 0) (n := n.toNat)
      rwa [Int.sub_zero]
    | _ => exact w1.elim) w)
theorem si_rng2 (h : SE C ta ma) (h' : SE C tb mb) : SI C (iRng2 (tCons ta (tCons tb tNil))) (mRg2 ma mb) := fun Z Hs e σ H k R w =>
  h Z Hs e σ H k _ (we_bind (fun a e1 x Hs1 H1 _ k1 r1 w1 => h' Z Hs1 e1 σ H1 k1 _ (we_bind (fun b e2 y Hs2 H2 p2 k2 r2 w2 => by
    cases a with
    | int n =>
      cases b with
      | int m =>
        have r1 : x = .int n := by simpa only [rD, Rep] using r1
        have r2 : y = .int m := by simpa only [rD, Rep] using r2
        subst r1; subst r2
        obtain ⟨ds, hd, w3⟩ := we_of w2
        obtain ⟨⟨b1, b2, b3, b4⟩, rfl⟩ := itR_some hd
        unfold big at b1 b2 b3 b4
        exact ⟨n, m, rfl, ⟨by omega, by omega, by omega, by omega⟩, we_ok w3 k2 iter_rng⟩
      | _ => exact w2.elim
    | _ => exact w2.elim) w1)) w)
theorem si_own {K : PySem.W.Frag} (hK : C.K = K) {i : Nat} : SI C (iList K (tVar i)) (mItF i) := fun Z Hs e σ H k R w => by
  subst hK
  unfold mItF at w
  split at w
  · rename_i ds he
    obtain ⟨p, e1, hn, ⟨xs, hx, rx⟩, h0⟩ := k.own he
    refine ⟨_, e1, p, rfl, ⟨xs, SqL.of hx⟩, ?_⟩
    have hi : i < e.length := (List.getElem?_eq_some_iff.mp he).1
    have hn' : ∀ (i' : Nat) j u, (e.set i .un)[i']? = some (.ow j u) → (σ.set i (some (V.ref p)))[i']? ≠ some (some (.ref p)) := fun i' j u h1 h2 => by
      have z : i ≠ i' := fun z => by subst z; rw [List.getElem?_set_self hi] at h1; cases h1
      rw [List.getElem?_set_ne z] at h1 h2
      exact z (k.sep i i' none j _ u p he h1 e1 h2)
    have k1 := (k.setU (i := i) (x := some (V.ref p))).freeze hx h0 hn (k.hids i none (.lst ds) p he e1) hn'
    have es : σ.set i (some (V.ref p)) = σ := by
      apply List.ext_getElem?
      intro j
      by_cases z : i = j
      · subst z; rw [List.getElem?_set_self (by rw [k.len]; exact hi)]; exact e1.symm
      · rw [List.getElem?_set_ne z]
    have r : Rep C.K C.sc (upd Hs p (.lst xs)) (.lst ds) (.ref p) := by
      simp only [Rep]
      exact ⟨p, xs, rfl, upd_same, reps_le (Le.new hn) rx⟩
    have k2 := k1.setF (i := i) r
    rw [List.set_set, List.set_set, es] at k2
    exact w _ _ H ⟨Le.new hn, fun _ z => z⟩ k2 (iter_list upd_same (reps_le (Le.new hn) rx))
  · exact w.elim

/-! ### comprehensions -/
theorem stok_wipe {Z Hs : Hp} {e : Loc} {σ : L2.St} {H : Hp} (k : StOk C Z Hs e σ H) : ∀ vs : List Nat, StOk C Z Hs (wipeE e vs) (wipe σ vs) H
  | [] => k
  | v :: vs => (stok_wipe k vs).setU
theorem wipe_get {σ : L2.St} : ∀ {vs : List Nat} {j : Nat}, j ∉ vs → (wipe σ vs)[j]? = σ[j]?
  | [], _, _ => rfl
  | v :: vs, j, h => by
    unfold wipe
    rw [List.getElem?_set_ne (fun z => h (by rw [z]; exact List.mem_cons_self)), wipe_get fun z => h (List.mem_cons_of_mem _ z)]
theorem backE_len (e0 e : Loc) : ∀ vs : List Nat, (backE e0 e vs).length = e.length
  | [] => rfl
  | v :: vs => by unfold backE; rw [List.length_set, backE_len e0 e vs]
theorem backE_out {e0 e : Loc} : ∀ {vs : List Nat} {j : Nat}, j ∉ vs → (backE e0 e vs)[j]? = e[j]?
  | [], _, _ => rfl
  | v :: vs, j, h => by
    unfold backE
    rw [List.getElem?_set_ne (fun z => h (by rw [z]; exact List.mem_cons_self)), backE_out fun z => h (List.mem_cons_of_mem _ z)]
theorem backE_in {e0 e : Loc} : ∀ {vs : List Nat} {j : Nat} {s : Slt}, j ∈ vs → (backE e0 e vs)[j]? = some s → s = e0[j]?.getD .un
  | [], _, _, h, _ => absurd h List.not_mem_nil
  | v :: vs, j, s, h, q => by
    unfold backE at q
    by_cases z : v = j
    · subst z
      have hl : v < (backE e0 e vs).length := by
        have := (List.getElem?_eq_some_iff.mp q).1; rw [List.length_set] at this; exact this
      rw [List.getElem?_set_self hl] at q
      exact (Option.some.inj q).symm
    · rw [List.getElem?_set_ne z] at q
      exact backE_in ((List.mem_cons.mp h).resolve_left (Ne.symm z)) q
theorem noOw_at {e : Loc} {vs : List Nat} (h : noOw e vs = true) {j : Nat} (hj : j ∈ vs) : e[j]? = some .un ∨ ∃ d, e[j]? = some (.fz d) := by
  have q := List.all_eq_true.mp h j hj
  split at q
  · exact .inl (by assumption)
  · exact .inr ⟨_, by assumption⟩
  · cases q
theorem stok_back {Z Hs1 Hs2 : Hp} {e1 e2 : Loc} {σ : L2.St} {H1 H2 : Hp} {vs : List Nat} (k1 : StOk C Z Hs1 e1 σ H1) (l : Le Hs1 Hs2) (k2 : StOk C Z Hs2 e2 (wipe σ vs) H2) (hn : noOw e1 vs = true) : StOk C Z Hs2 (backE e1 e2 vs) σ H2 := by
  have notow : ∀ {j j' o}, (backE e1 e2 vs)[j]? = some (Slt.ow j' o) → j ∉ vs := fun {j j' o} h hj => by
    have q := backE_in hj h
    rcases noOw_at hn hj with z | ⟨d, z⟩ <;> (rw [z] at q; cases q)
  refine ⟨?_, k2.le, fun i s hs => ?_, fun a b j j' o o' p h1 h2 h3 h4 => ?_, k2.frame, k2.dom, k2.news, k2.par, k2.hid, fun i j o p h1 h2 => ?_⟩
  · have := k2.len
    rw [wipe_length] at this
    rw [backE_len]; exact this
  · by_cases hi : i ∈ vs
    · have q := backE_in hi hs
      rcases noOw_at hn hi with z | ⟨d, z⟩
      · rw [z] at q; subst q; trivial
      · rw [z] at q
        have q : s = .fz d := q
        subst q
        obtain ⟨v, a1, a2⟩ := k1.fz z
        exact ⟨v, a1, rep_le l a2⟩
    · rw [backE_out hi] at hs
      have q := k2.slot i s hs
      rw [wipe_get hi] at q
      exact q
  · have n1 := notow h1
    have n2 := notow h2
    rw [backE_out n1] at h1
    rw [backE_out n2] at h2
    exact k2.sep a b j j' o o' p h1 h2 (by rw [wipe_get n1]; exact h3) (by rw [wipe_get n2]; exact h4)
  · have n1 := notow h1
    rw [backE_out n1] at h1
    exact k2.hids i j o p h1 (by rw [wipe_get n1]; exact h2)
theorem wipe_idem {σ σ2 : L2.St} {vs : List Nat} (h : Kp vs (wipe σ vs) σ2) (hl : σ2.length = σ.length) : wipe σ2 vs = wipe σ vs := by
  apply List.ext_getElem?
  intro j
  by_cases hj : j ∈ vs
  · have aux : ∀ {τ : L2.St} {vs : List Nat} {j : Nat}, j ∈ vs → (wipe τ vs)[j]? = if j < τ.length then some none else none := by
      intro τ vs
      induction vs with
      | nil => intro j h; cases h
      | cons v vs ih =>
        intro j h
        unfold wipe
        by_cases z : v = j
        · subst z
          by_cases hl : v < τ.length
          · rw [List.getElem?_set_self (by rw [wipe_length]; exact hl), if_pos hl]
          · rw [if_neg hl]
            apply List.getElem?_eq_none
            rw [List.length_set, wipe_length]; omega
        · rw [List.getElem?_set_ne z]
          exact ih ((List.mem_cons.mp h).resolve_left (Ne.symm z))
    rw [aux hj, aux hj, hl]
  · rw [wipe_get hj, wipe_get hj]
    have := h.2 j hj
    rw [wipe_get hj] at this
    exact this
theorem stok_zr {Z Hs H : Hp} {e : Loc} {σ σ' : L2.St} (k : StOk C Z Hs e σ H) (h : σ = σ') : StOk C Z Hs e σ' H := h ▸ k
theorem seo_lc {wi : TI} {mi : ME (List Dv)} {g : TG} {mg : MG} {tt : TT} {mt : ME Bool} {A : List Nat} {vs : List Nat} (hi : SI C wi mi) (hg : SG C A g mg) (ht : ST C tt mt) (h : SE C te me) (hA : ∀ j, j ∈ A → j ∈ vs := by decide) :
    SEO C (tLc wi g tt te vs) (mLc mi mg mt me vs) := fun Z Hs e σ H k Q w =>
  hi Z Hs e σ H k _ (we_bind (fun ds e1 J Hs1 H1 p1 k1 it w1 => by
    split at w1
    · rename_i hno
      split at w1
      · rename_i accF eF hF
        intro D hD
        have h0 : C.H0 D = none := k1.h0_none hD
        have hzD : Z D = none := k1.z_none hD
        have kD : StOk C (upd Z D (.lst [])) Hs1 (wipeE e1 vs) (wipe σ vs) (upd H1 D (.lst [])) := ((stok_wipe k1 vs).newO hD).hide upd_same (k1.hs_none hD) ((stok_wipe k1 vs).fresh hD)
        refine ⟨fun i mm H' => mm = ds.length - i ∧ i ≤ ds.length ∧ ∃ Hs' e' acc xs, Post Hs1 H1 Hs' H' ∧ StOk C (upd Z D (.lst xs)) Hs' e' (wipe σ vs) H' ∧ Reps C.K C.sc Hs' acc xs ∧ lcGo mg mt me vs (ds.drop i) acc e' = some (accF, eF),
          ⟨ds.length, rfl, Nat.zero_le _, Hs1, wipeE e1 vs, [], [], Post.newO, kD, reps_nil, hF⟩, ?_⟩
        rintro i mm H' ⟨rfl, hle, Hs', e', acc, xs, p', k', rx, hgo⟩
        obtain ⟨itg, its⟩ := it i _ Hs' e' _ H' k' p'.le
        by_cases hlt : i < ds.length
        · obtain ⟨d, hd, hdr⟩ := drop_cons hlt
          obtain ⟨go, yl⟩ := itg d hd
          rw [hdr] at hgo
          refine .inr ⟨go, fun H3 => ∃ Hs' e' acc xs, Post Hs1 H1 Hs' H3 ∧ StOk C (upd Z D (.lst xs)) Hs' e' (wipe σ vs) H3 ∧ Reps C.K C.sc Hs' acc xs ∧ lcGo mg mt me vs (ds.drop (i + 1)) acc e' = some (accF, eF), fun H3 h3 => ⟨ds.length - (i + 1), by omega, rfl, hlt, h3⟩, fun x H2 hy => ?_⟩
          obtain ⟨Hs2, p2, k2, r2⟩ := yl x H2 hy
          unfold lcGo at hgo
          cases qg : mg d e' with
          | none => simp only [qg] at hgo; cases hgo
          | some e2 =>
            simp only [qg] at hgo
            refine hg _ Hs2 e' _ H2 k2 d x e2 r2 qg _ fun σ2 k3 kp3 => ?_
            have hw : wipe σ2 vs = wipe σ vs := wipe_idem (kp3.sub hA) (by rw [kp3.1, wipe_length])
            refine ⟨hw, ht _ Hs2 e2 σ2 H2 k3 _ ?_⟩
            cases qt : mt e2 with
            | ud => simp only [qt] at hgo; cases hgo
            | er x e => simp only [qt] at hgo; cases hgo
            | ok b e3 =>
              intro b' Hs3 H3 p3 k3' rb
              have rb : b = b' := rb
              subst rb
              cases b with
              | false =>
                simp only [qt] at hgo
                exact ⟨Hs3, wipeE e3 vs, acc, xs, (p'.trans p2).trans p3, stok_zr (stok_wipe k3' vs) hw, reps_le (p2.trans p3).le rx, hgo⟩
              | true =>
                simp only [qt] at hgo
                refine h _ Hs3 e3 σ2 H3 k3' _ ?_
                cases qm : me e3 with
                | ud => simp only [qm] at hgo; cases hgo
                | er x e => simp only [qm] at hgo; cases hgo
                | ok y e4 =>
                  simp only [qm] at hgo
                  intro v Hs4 H4 p4 k4 r4
                  split at hgo
                  · rename_i hlen
                    have rx4 := reps_le ((p2.trans p3).trans p4).le rx
                    refine ⟨xs, (k4.hid D _ upd_same).1, by rw [reps_len rx]; exact lim_lt hlen, Hs4, wipeE e4 vs, acc ++ [y], xs ++ [v], ((p'.trans p2).trans (p3.trans p4)).trans Post.newO, stok_zr ((stok_wipe k4 vs).hmut h0) hw, reps_app rx4 (reps_cons r4 reps_nil), hgo⟩
                  · cases hgo
        · have e0 : ds.drop i = [] := List.drop_eq_nil_of_le (by omega)
          rw [e0] at hgo
          cases hgo
          obtain ⟨hx, hn⟩ := k'.hid D _ upd_same
          refine .inl ⟨its (by omega), w1 _ Hs' H' p' (stok_back k1 p'.le (k'.zle (Le.new hzD)) hno) ⟨D, rfl, hn, ⟨h0, hzD⟩, ⟨xs, hx, rx⟩, fun i j u h1 h2 => ?_⟩⟩
          have hi' : i ∉ vs := fun hi => by
            have q := backE_in hi h1
            rcases noOw_at hno hi with z | ⟨d, z⟩ <;> (rw [z] at q; cases q)
          rw [backE_out hi'] at h1
          have q := k'.hids i j u D h1 (by rw [wipe_get hi']; exact h2)
          rw [upd_same] at q; cases q
      · exact w1.elim
    · exact w1.elim) w)
end
end Ml

set_option linter.all false
set_option maxRecDepth 100000
set_option maxHeartbeats 1000000
namespace Ml
open L2
open PySem (Addr Str sizeLine)

/-! ### what a def promises: its mirror -/
def AOk (K : PySem.W.Frag) (sc : Addr) (Hs H : Hp) : List Slt → List V → List Addr → Prop
  | [], [], [] => True
  | .fz d :: as, v :: vs, ps => Rep K sc Hs d v ∧ AOk K sc Hs H as vs ps
  | .ow none o :: as, v :: vs, p :: ps => v = .ref p ∧ Hs p = none ∧ OwnAt K sc Hs H p o ∧ AOk K sc Hs H as vs ps
  | _, _, _ => False
def OOk (K : PySem.W.Frag) (sc : Addr) (Hs H : Hp) : List Addr → List Ob → Prop
  | [], [] => True
  | p :: ps, o :: os => OwnAt K sc Hs H p o ∧ OOk K sc Hs H ps os
  | _, _ => False
def RetC (K : PySem.W.Frag) (sc : Addr) (Hs H H' : Hp) : Slt → V → Prop
  | .fz d, v => Rep K sc Hs d v
  | .ow none o, v => ∃ p, v = .ref p ∧ Hs p = none ∧ H p = none ∧ OwnAt K sc Hs H' p o
  | _, _ => False
structure FPost (Hs H : Hp) (ps : List Addr) (Hs' H' : Hp) : Prop where
  ext : Le Hs Hs'
  le : Le Hs' H'
  frame : ∀ a o, H a = some o → a ∉ ps → H' a = some o
  dom : ∀ a, H a ≠ none → H' a ≠ none
  news : ∀ a, Hs' a ≠ none → Hs a ≠ none ∨ H a = none
def FW (K : PySem.W.Frag) (sc : Addr) (RE : Err → PySem.Value → Option Addr → Hp → Hp → Prop) (Hs H : Hp) (ps : List Addr) (Q : VK) (E : XK) : Fres → Prop
  | .ok s outs => ∀ v Hs' H', FPost Hs H ps Hs' H' → OOk K sc Hs' H' ps outs → RetC K sc Hs' H H' s v → Q v H'
  | .er x outs => ∀ Hs' H' c od, FPost Hs H ps Hs' H' → OOk K sc Hs' H' ps outs → RE x c od Hs' H' → E c od H'
  | .ud => False
def spM (K : PySem.W.Frag) (RE : Err → PySem.Value → Option Addr → Hp → Hp → Prop) (F : Fn) : Sp := fun vs H Q E => ∃ sc Hs as ps, Le Hs H ∧ AOk K sc Hs H as vs ps ∧ ps.Nodup ∧ FW K sc RE Hs H ps Q E (F as)

section
variable {C : Cc} {Z : Hp}
def rAV (C : Cc) (σ : L2.St) (Hs : Hp) : List AV → List V → Prop
  | [], [] => True
  | .val d :: as, v :: vs => Rep C.K C.sc Hs d v ∧ rAV C σ Hs as vs
  | .own i :: as, v :: vs => σ[i]? = some (some v) ∧ rAV C σ Hs as vs
  | _, _ => False
theorem rAV_le {σ : L2.St} {Hs Hs' : Hp} (l : Le Hs Hs') : ∀ {as : List AV} {vs : List V}, rAV C σ Hs as vs → rAV C σ Hs' as vs
  | [], [], _ => trivial
  | .val d :: as, v :: vs, h => ⟨rep_le l h.1, rAV_le l h.2⟩
  | .own i :: as, v :: vs, h => ⟨h.1, rAV_le l h.2⟩
  | [], _ :: _, h => h.elim
  | .val _ :: _, [], h => h.elim
  | .own _ :: _, [], h => h.elim
def rA (C : Cc) (σ : L2.St) : List AV → Loc → List V → Hp → Hp → Prop := fun as _ vs Hs' _ => rAV C σ Hs' as vs
def SM (C : Cc) (t : TA) (ms : List MA) : Prop := ∀ Z Hs e σ H, StOk C Z Hs e σ H → ∀ Q, WE C Z σ Hs H (rA C σ) (mAs ms e) Q → t σ H Q
theorem sm_nil : SM C tNil [] := fun Z Hs e σ H k Q w => we_ok w k trivial
theorem sm_val {te : TE} {me : ME Dv} {t : TA} {ms : List MA} (h : SE C te me) (hr : SM C t ms) : SM C (tCons te t) (.val me :: ms) := fun Z Hs e σ H k Q w =>
  h Z Hs e σ H k _ (we_bind (fun a e1 x Hs1 H1 _ k1 r1 w1 => hr Z Hs1 e1 σ H1 k1 _ (we_bind (fun b e2 y Hs2 H2 p2 k2 r2 w2 => we_ok w2 k2 ⟨rep_le p2.le r1, r2⟩) w1)) w)
theorem sm_own {i : Nat} {t : TA} {ms : List MA} (hr : SM C t ms) : SM C (tCons (tVar i) t) (.own i :: ms) := fun Z Hs e σ H k Q w => by
  unfold mAs at w
  split at w
  · rename_i ho
    obtain ⟨j, o, he⟩ := ow_of ho
    obtain ⟨p, e1, _⟩ := k.own he
    exact ⟨_, e1, hr Z Hs e σ H k _ (we_bind (fun b e2 y Hs2 H2 p2 k2 r2 w2 => we_ok w2 k2 ⟨e1, r2⟩) w)⟩
  · exact w.elim

def OA (σ : L2.St) (e : Loc) : List Nat → List Addr → Prop
  | [], [] => True
  | i :: is, p :: ps => σ[i]? = some (some (.ref p)) ∧ (∃ j o, e[i]? = some (.ow j o)) ∧ OA σ e is ps
  | _, _ => False
theorem oa_mem {σ : L2.St} {e : Loc} : ∀ {is : List Nat} {ps : List Addr} {p : Addr}, OA σ e is ps → p ∈ ps → ∃ i, i ∈ is ∧ σ[i]? = some (some (.ref p)) ∧ ∃ j o, e[i]? = some (.ow j o)
  | [], [], _, _, h => by cases h
  | i :: is, q :: ps, p, h, hp => by
    rcases List.mem_cons.mp hp with rfl | hp
    · exact ⟨i, List.mem_cons_self, h.1, h.2.1⟩
    · obtain ⟨i', a, b⟩ := oa_mem h.2.2 hp
      exact ⟨i', List.mem_cons_of_mem _ a, b⟩
  | [], _ :: _, _, h, _ => h.elim
  | _ :: _, [], _, h, _ => h.elim
theorem oa_nodup {σ : L2.St} {e : Loc} {Hs H : Hp} (k : StOk C Z Hs e σ H) : ∀ {is : List Nat} {ps : List Addr}, OA σ e is ps → is.Nodup → ps.Nodup
  | [], [], _, _ => List.nodup_nil
  | i :: is, p :: ps, h, hn => by
    obtain ⟨h1, h2⟩ := List.nodup_cons.mp hn
    refine List.nodup_cons.mpr ⟨fun hp => ?_, oa_nodup k h.2.2 h2⟩
    obtain ⟨i', a, b, j', o', c⟩ := oa_mem h.2.2 hp
    obtain ⟨j, o, d⟩ := h.2.1
    have := k.sep i i' j j' o o' p d c h.1 b
    exact h1 (this ▸ a)
  | [], _ :: _, h, _ => h.elim
  | _ :: _, [], h, _ => h.elim
theorem resolve_ok {σ : L2.St} {e : Loc} {Hs H : Hp} (k : StOk C Z Hs e σ H) : ∀ {as : List AV} {vs : List V} {ss : List Slt}, rAV C σ Hs as vs → resolve as e = some ss → ∃ ps, AOk C.K C.sc Hs H ss vs ps ∧ OA σ e (owns as) ps
  | [], [], ss, _, h => by cases h; exact ⟨[], trivial, trivial⟩
  | .val d :: as, v :: vs, ss, r, h => by
    obtain ⟨r', h', rfl⟩ := Option.map_eq_some_iff.mp h
    obtain ⟨ps, a, b⟩ := resolve_ok k r.2 h'
    exact ⟨ps, ⟨r.1, a⟩, b⟩
  | .own i :: as, v :: vs, ss, r, h => by
    unfold resolve at h
    split at h
    · rename_i j o he
      obtain ⟨r', h', rfl⟩ := Option.map_eq_some_iff.mp h
      obtain ⟨ps, a, b⟩ := resolve_ok k r.2 h'
      obtain ⟨p, e1, e2, e3, _⟩ := k.own he
      have ev : V.ref p = v := Option.some.inj (Option.some.inj (e1.symm.trans r.1))
      exact ⟨p :: ps, ⟨ev.symm, e2, e3, a⟩, e1, ⟨j, o, he⟩, b⟩
    · cases h
  | [], _ :: _, _, r, _ => r.elim
  | .val _ :: _, [], _, r, _ => r.elim
  | .own _ :: _, [], _, r, _ => r.elim
theorem oa_set {σ : L2.St} {e : Loc} {i : Nat} {s : Slt} : ∀ {is : List Nat} {ps : List Addr}, i ∉ is → OA σ e is ps → OA σ (e.set i s) is ps
  | [], [], _, _ => trivial
  | a :: is, p :: ps, hi, h => by
    refine ⟨h.1, ?_, oa_set (fun z => hi (List.mem_cons_of_mem _ z)) h.2.2⟩
    rw [List.getElem?_set_ne (fun z => hi (by rw [z]; exact List.mem_cons_self))]
    exact h.2.1
  | [], _ :: _, _, h => h.elim
  | _ :: _, [], _, h => h.elim
theorem wback_at {K : PySem.W.Frag} {sc : Addr} {Hs H : Hp} {σ : L2.St} : ∀ {is : List Nat} {ps : List Addr} {os : List Ob} {e e' : Loc}, OA σ e is ps → OOk K sc Hs H ps os → is.Nodup → wback is os e = some e' →
    e'.length = e.length ∧ ∀ i', (i' ∉ is → e'[i']? = e[i']?) ∧ (i' ∈ is → ∃ j o o' p, e[i']? = some (.ow j o) ∧ e'[i']? = some (.ow j o') ∧ σ[i']? = some (some (.ref p)) ∧ p ∈ ps ∧ OwnAt K sc Hs H p o')
  | [], [], [], e, e', _, _, _, h => by
    cases h
    exact ⟨rfl, fun i' => ⟨fun _ => rfl, fun z => by cases z⟩⟩
  | i :: is, p :: ps, o :: os, e, e', ha, ho, hn, h => by
    obtain ⟨n1, n2⟩ := List.nodup_cons.mp hn
    obtain ⟨j, u, hu⟩ := ha.2.1
    have hl : i < e.length := (List.getElem?_eq_some_iff.mp hu).1
    have h : wback is os (e.set i (putO e[i]? o)) = some e' := h
    obtain ⟨l, w⟩ := wback_at (oa_set (s := putO e[i]? o) n1 ha.2.2) ho.2 n2 h
    refine ⟨by rw [l, List.length_set], fun i' => ⟨fun hi => ?_, fun hi => ?_⟩⟩
    · rw [(w i').1 fun z => hi (List.mem_cons_of_mem _ z), List.getElem?_set_ne (fun z => hi (by rw [z]; exact List.mem_cons_self))]
    · by_cases z : i = i'
      · subst z
        refine ⟨j, u, o, p, hu, ?_, ha.1, List.mem_cons_self, ho.1⟩
        rw [(w i).1 n1, List.getElem?_set_self hl, hu]
        rfl
      · have hi2 : i' ∈ is := (List.mem_cons.mp hi).resolve_left (Ne.symm z)
        obtain ⟨j2, o2, o3, p2, a, b, c, d, f⟩ := (w i').2 hi2
        rw [List.getElem?_set_ne z] at a
        exact ⟨j2, o2, o3, p2, a, b, c, List.mem_cons_of_mem _ d, f⟩
  | [], [], _ :: _, _, _, _, ho, _, _ => ho.elim
  | [], _ :: _, _, _, _, ha, _, _, _ => ha.elim
  | _ :: _, [], _, _, _, ha, _, _, _ => ha.elim
  | _ :: _, _ :: _, [], _, _, _, ho, _, _ => ho.elim
theorem stok_call {σ : L2.St} {e e' : Loc} {Hs H Hs' H' : Hp} {is : List Nat} {ps : List Addr} {os : List Ob} (k : StOk C Z Hs e σ H) (f : FPost Hs H ps Hs' H') (ha : OA σ e is ps) (ho : OOk C.K C.sc Hs' H' ps os) (hn : is.Nodup) (hw : wback is os e = some e') :
    StOk C Z Hs' e' σ H' ∧ ∀ (i : Nat) j u, e'[i]? = some (.ow j u) → ∃ u', e[i]? = some (.ow j u') := by
  obtain ⟨hl, w⟩ := wback_at ha ho hn hw
  have back : ∀ (i : Nat) j u, e'[i]? = some (.ow j u) → ∃ u', e[i]? = some (.ow j u') := fun i j u h => by
    by_cases hi : i ∈ is
    · obtain ⟨j2, o2, o3, p2, a, b, _⟩ := (w i).2 hi
      rw [b] at h; cases h
      exact ⟨_, a⟩
    · rw [(w i).1 hi] at h; exact ⟨u, h⟩
  have hsn : ∀ p, Hs p = none → H p ≠ none → Hs' p = none := fun p h1 h2 => by
    cases z : Hs' p with
    | none => rfl
    | some u =>
      rcases f.news p (by rw [z]; exact fun q => nomatch q) with h | h
      · exact absurd h1 h
      · exact absurd h h2
  refine ⟨⟨by rw [hl]; exact k.len, f.le, fun i s hs => ?_, fun a b j j' o o' p h1 h2 h3 h4 => ?_, fun a o h h' => ?_, fun a h => f.dom a (k.dom a h), fun a h => ?_, k.par, fun a o h => ?_, fun i j o p h1 h2 => ?_⟩, back⟩
  · by_cases hi : i ∈ is
    · obtain ⟨j2, o2, o3, p2, a, b, c, d, g⟩ := (w i).2 hi
      rw [b] at hs; cases hs
      obtain ⟨p3, e1, e2, e3, e4⟩ := k.own a
      rw [c] at e1; cases e1
      exact ⟨p2, c, hsn p2 e2 e3.some, g, e4⟩
    · rw [(w i).1 hi] at hs
      have q := k.slot i s hs
      cases s with
      | un => trivial
      | fz d => obtain ⟨v, e1, r⟩ := q; exact ⟨v, e1, rep_le f.ext r⟩
      | ow j o =>
        obtain ⟨p, e1, e2, e3, e4⟩ := q
        have np : p ∉ ps := fun hp => by
          obtain ⟨i2, a, b, j2, o2, c⟩ := oa_mem ha hp
          have := k.sep i i2 j j2 o o2 p hs c e1 b
          exact hi (this ▸ a)
        refine ⟨p, e1, hsn p e2 e3.some, e3.mono f.ext ?_, e4⟩
        cases z : H p with
        | none => exact absurd z e3.some
        | some u => exact f.frame p u z np
  · obtain ⟨u1, g1⟩ := back a j o h1
    obtain ⟨u2, g2⟩ := back b j' o' h2
    exact k.sep a b j j' u1 u2 p g1 g2 h3 h4
  · refine f.frame a o (k.frame a o h h') fun hp => h' ?_
    obtain ⟨i, _, b, j, o2, c⟩ := oa_mem ha hp
    exact k.unframed c b o h
  · rcases f.news a h with h | h
    · exact k.news a h
    · exact .inr (k.h0_none h)
  · obtain ⟨h1, h2⟩ := k.hid a o h
    refine ⟨f.frame a o h1 fun hp => ?_, hsn a h2 (by rw [h1]; exact fun q => nomatch q)⟩
    obtain ⟨i, _, b, j, o2, c⟩ := oa_mem ha hp
    rw [k.hids i j o2 a c b] at h; cases h
  · obtain ⟨u, g⟩ := back i j o h1
    exact k.hids i j u p g h2
/-- a result: data, or a new object of one's own -/
def rS (C : Cc) (Z : Hp) (σ : L2.St) : Slt → Loc → V → Hp → Hp → Prop
  | .fz d, _, v, Hs', _ => Rep C.K C.sc Hs' d v
  | .ow none o, e, v, Hs', H' => rO C Z σ o e v Hs' H'
  | _, _, _, _, _ => False
theorem se_callS {F : Fn} {t : TA} {ms : List MA} (h : SM C t ms) : ∀ Z Hs e σ H, StOk C Z Hs e σ H → ∀ Q, WE C Z σ Hs H (rS C Z σ) (mCall F ms e) Q → tCall (spM C.K C.RE F) [] C.E t σ H Q := fun Z Hs e σ H k Q w =>
  h Z Hs e σ H k _ (we_bind (fun as e1 vs Hs1 H1 p1 k1 r1 w1 => by
    split at w1
    · rename_i hnd
      split at w1
      · exact w1.elim
      · rename_i ss hss
        obtain ⟨ps, a1, a2⟩ := resolve_ok k1 r1 hss
        have pn := oa_nodup k1 a2 hnd
        show spM C.K C.RE F (vs ++ []) H1 Q C.E
        rw [List.append_nil]
        refine ⟨C.sc, Hs1, ss, ps, k1.le, a1, pn, ?_⟩
        split at w1
        · rename_i s outs hF
          rw [hF]
          intro v Hs' H' fp oo rc
          cases hw : wback (owns as) outs e1 with
          | none => rw [hw] at w1; exact w1.elim
          | some e2 =>
            rw [hw] at w1
            obtain ⟨k2, back⟩ := stok_call k1 fp a2 oo hnd hw
            refine w1 v Hs' H' ⟨fp.ext, fp.dom⟩ k2 ?_
            cases s with
            | un => exact rc.elim
            | fz d => exact rc
            | ow j o =>
              cases j with
              | some n => exact rc.elim
              | none =>
                obtain ⟨p, rfl, c1, c2, c3⟩ := rc
                refine ⟨p, rfl, c1, ⟨k1.h0_none c2, k1.z_none c2⟩, c3, fun i j u h1 => ?_⟩
                obtain ⟨u', g⟩ := back i j u h1
                exact k1.fresh c2 i j u' g
        · rename_i x outs hF
          rw [hF]
          intro Hs' H' c od fp oo re
          cases hw : wback (owns as) outs e1 with
          | none => rw [hw] at w1; exact w1.elim
          | some e2 =>
            rw [hw] at w1
            obtain ⟨k2, back⟩ := stok_call k1 fp a2 oo hnd hw
            exact w1 Hs' H' c od ⟨fp.ext, fp.dom⟩ k2 re
        · exact w1.elim
    · exact w1.elim) w)
theorem se_call {F : Fn} {t : TA} {ms : List MA} (h : SM C t ms) : SE C (tCall (spM C.K C.RE F) [] C.E t) (mCallD F ms) := fun Z Hs e σ H k Q w =>
  se_callS h Z Hs e σ H k Q (by
    have w' : WE C Z σ Hs H (rD C) ((mCall F ms e).bind fun s e => match s with
      | .fz d => .ok d e
      | _ => .ud) Q := w
    refine we_bind (r2 := rD C) (fun s e1 v Hs1 H1 p1 k1 r1 w1 => ?_) w'
    cases s with
    | fz d => exact we_ok w1 k1 r1
    | un => exact w1.elim
    | ow j o => exact w1.elim)
theorem seo_call {F : Fn} {t : TA} {ms : List MA} (h : SM C t ms) : SEO C (tCall (spM C.K C.RE F) [] C.E t) (mCallO F ms) := fun Z Hs e σ H k Q w =>
  se_callS h Z Hs e σ H k Q (by
    have w' : WE C Z σ Hs H (rO C Z σ) ((mCall F ms e).bind fun s e => match s with
      | .ow none o => .ok o e
      | _ => .ud) Q := w
    refine we_bind (r2 := rO C Z σ) (fun s e1 v Hs1 H1 p1 k1 r1 w1 => ?_) w'
    cases s with
    | fz d => exact w1.elim
    | un => exact w1.elim
    | ow j o =>
      cases j with
      | none => exact we_ok w1 k1 r1
      | some n => exact w1.elim)
end

/-! ### a def keeps its promise -/
section
variable {K : PySem.W.Frag} {sc : Addr} {RE : Err → PySem.Value → Option Addr → Hp → Hp → Prop}
theorem aok_len : ∀ {as : List Slt} {vs : List V} {ps : List Addr} {Hs H : Hp}, AOk K sc Hs H as vs ps → vs.length = as.length
  | [], [], [], _, _, _ => rfl
  | .fz _ :: _, _ :: _, _, _, _, h => by simp [aok_len h.2]
  | .ow none _ :: _, _ :: _, _ :: _, _, _, h => by simp [aok_len h.2.2.2]
  | [], [], _ :: _, _, _, h => h.elim
  | [], _ :: _, _, _, _, h => h.elim
  | .fz _ :: _, [], _, _, _, h => h.elim
  | .un :: _, _, _, _, _, h => h.elim
  | .ow none _ :: _, [], _, _, _, h => h.elim
  | .ow none _ :: _, _ :: _, [], _, _, h => h.elim
  | .ow (some _) _ :: _, _, _, _, _, h => h.elim
theorem spM_len {F : Fn} {np nl : Nat} {m : MS} (hF : F = mkFn np nl m) {vs : List V} {H : Hp} {Q : VK} {E : XK} (h : spM K RE F vs H Q E) : vs.length = np := by
  obtain ⟨sc, Hs, as, ps, _, a, _, fw⟩ := h
  rw [hF] at fw
  unfold mkFn at fw
  split at fw
  · rename_i hc
    rw [aok_len a, hc.1]
  · exact fw.elim
theorem initE_len : ∀ {as : List Slt} {k : Nat}, (initE k as).length = as.length
  | [], _ => rfl
  | .ow _ _ :: r, k => by simp [initE, initE_len]
  | .un :: r, k => by simp [initE, initE_len]
  | .fz _ :: r, k => by simp [initE, initE_len]
/-- the slots at a def's entry -/
theorem init_slot {Hs H : Hp} {P : List Addr} : ∀ {as : List Slt} {vs : List V} {ps : List Addr} {k : Nat}, AOk K sc Hs H as vs ps → (∀ n p, ps[n]? = some p → P[k + n]? = some p) →
    ∀ (i : Nat) s, (initE k as)[i]? = some s → (∃ d v, s = .fz d ∧ vs[i]? = some v ∧ Rep K sc Hs d v) ∨ (∃ n o p, s = .ow (some n) o ∧ vs[i]? = some (.ref p) ∧ Hs p = none ∧ OwnAt K sc Hs H p o ∧ P[n]? = some p ∧ k ≤ n ∧ n < k + ps.length)
  | [], [], [], _, _, _, i, s, h => by simp [initE] at h
  | .fz d :: as, v :: vs, ps, k, a, hP, i, s, h => by
    cases i with
    | zero => simp [initE] at h; exact .inl ⟨d, v, h.symm, rfl, a.1⟩
    | succ i =>
      have h : (initE k as)[i]? = some s := by simpa [initE] using h
      exact init_slot a.2 hP i s h
  | .ow none o :: as, v :: vs, p :: ps, k, a, hP, i, s, h => by
    cases i with
    | zero =>
      simp [initE] at h
      have e := hP 0 p rfl
      exact .inr ⟨k, o, p, h.symm, by rw [a.1]; rfl, a.2.1, a.2.2.1, by simpa using e, Nat.le_refl _, by simp⟩
    | succ i =>
      have h : (initE (k + 1) as)[i]? = some s := by simpa [initE] using h
      rcases init_slot (k := k + 1) a.2.2.2 (fun n q e => by have := hP (n + 1) q (by simpa using e); rw [show k + 1 + n = k + (n + 1) by omega]; exact this) i s h with z | ⟨n, o', p', a1, a2, a3, a4, a5, a6, a7⟩
      · exact .inl z
      · exact .inr ⟨n, o', p', a1, a2, a3, a4, a5, by omega, by simp; omega⟩
  | [], [], _ :: _, _, h, _, _, _, _ => h.elim
  | [], _ :: _, _, _, h, _, _, _, _ => h.elim
  | .fz _ :: _, [], _, _, h, _, _, _, _ => h.elim
  | .un :: _, _, _, _, h, _, _, _, _ => h.elim
  | .ow none _ :: _, [], _, _, h, _, _, _, _ => h.elim
  | .ow none _ :: _, _ :: _, [], _, h, _, _, _, _ => h.elim
  | .ow (some _) _ :: _, _, _, _, h, _, _, _, _ => h.elim
theorem init_low {Hs H : Hp} : ∀ {as : List Slt} {vs : List V} {ps : List Addr} {k : Nat}, AOk K sc Hs H as vs ps → ∀ (i n : Nat) (o : Ob), (initE k as)[i]? = some (.ow (some n) o) → k ≤ n
  | [], [], [], _, _, i, n, o, h => by simp [initE] at h
  | .fz d :: as, v :: vs, ps, k, a, i, n, o, h => by
    cases i with
    | zero => simp [initE] at h
    | succ i => exact init_low a.2 i n o (by simpa [initE] using h)
  | .ow none u :: as, v :: vs, p :: ps, k, a, i, n, o, h => by
    cases i with
    | zero => simp [initE] at h; omega
    | succ i => have := init_low (k := k + 1) a.2.2.2 i n o (by simpa [initE] using h); omega
  | [], [], _ :: _, _, h, _, _, _, _ => h.elim
  | [], _ :: _, _, _, h, _, _, _, _ => h.elim
  | .fz _ :: _, [], _, _, h, _, _, _, _ => h.elim
  | .un :: _, _, _, _, h, _, _, _, _ => h.elim
  | .ow none _ :: _, [], _, _, h, _, _, _, _ => h.elim
  | .ow none _ :: _, _ :: _, [], _, h, _, _, _, _ => h.elim
  | .ow (some _) _ :: _, _, _, _, h, _, _, _, _ => h.elim
theorem init_uniq {Hs H : Hp} : ∀ {as : List Slt} {vs : List V} {ps : List Addr} {k : Nat}, AOk K sc Hs H as vs ps → ∀ (i i' n : Nat) (o o' : Ob), (initE k as)[i]? = some (.ow (some n) o) → (initE k as)[i']? = some (.ow (some n) o') → i = i'
  | [], [], [], _, _, i, i', n, o, o', h, _ => by simp [initE] at h
  | .fz d :: as, v :: vs, ps, k, a, i, i', n, o, o', h, h' => by
    cases i with
    | zero => simp [initE] at h
    | succ i =>
      cases i' with
      | zero => simp [initE] at h'
      | succ i' => rw [init_uniq a.2 i i' n o o' (by simpa [initE] using h) (by simpa [initE] using h')]
  | .ow none u :: as, v :: vs, p :: ps, k, a, i, i', n, o, o', h, h' => by
    cases i with
    | zero =>
      cases i' with
      | zero => rfl
      | succ i' =>
        simp [initE] at h
        have := init_low (k := k + 1) a.2.2.2 i' n o' (by simpa [initE] using h')
        omega
    | succ i =>
      cases i' with
      | zero =>
        simp [initE] at h'
        have := init_low (k := k + 1) a.2.2.2 i n o (by simpa [initE] using h)
        omega
      | succ i' => rw [init_uniq (k := k + 1) a.2.2.2 i i' n o o' (by simpa [initE] using h) (by simpa [initE] using h')]
  | [], [], _ :: _, _, h, _, _, _, _, _, _, _ => h.elim
  | [], _ :: _, _, _, h, _, _, _, _, _, _, _ => h.elim
  | .fz _ :: _, [], _, _, h, _, _, _, _, _, _, _ => h.elim
  | .un :: _, _, _, _, h, _, _, _, _, _, _, _ => h.elim
  | .ow none _ :: _, [], _, _, h, _, _, _, _, _, _, _ => h.elim
  | .ow none _ :: _, _ :: _, [], _, h, _, _, _, _, _, _, _ => h.elim
  | .ow (some _) _ :: _, _, _, _, h, _, _, _, _, _, _, _ => h.elim
theorem aok_some : ∀ {as : List Slt} {vs : List V} {ps : List Addr} {Hs H : Hp}, AOk K sc Hs H as vs ps → ∀ p, p ∈ ps → H p ≠ none
  | [], [], [], _, _, _, _, h => by cases h
  | .fz _ :: _, _ :: _, _, _, _, h, p, hp => aok_some h.2 p hp
  | .ow none _ :: _, _ :: _, q :: _, _, _, h, p, hp => by
    rcases List.mem_cons.mp hp with rfl | hp
    · exact h.2.2.1.some
    · exact aok_some h.2.2.2 p hp
  | [], [], _ :: _, _, _, h, _, _ => h.elim
  | [], _ :: _, _, _, _, h, _, _ => h.elim
  | .fz _ :: _, [], _, _, _, h, _, _ => h.elim
  | .un :: _, _, _, _, _, h, _, _ => h.elim
  | .ow none _ :: _, [], _, _, _, h, _, _ => h.elim
  | .ow none _ :: _, _ :: _, [], _, _, h, _, _ => h.elim
  | .ow (some _) _ :: _, _, _, _, _, h, _, _ => h.elim
/-- the lists that were handed over, at the end -/
theorem outs_ok {C : Cc} {Z Hs H : Hp} {σ : L2.St} {e : Loc} (k : StOk C Z Hs e σ H) : ∀ {as : List Slt} {vs : List V} {ps : List Addr} {n : Nat} {e' : Loc} {os : List Ob} {Hs0 H0 : Hp}, AOk C.K C.sc Hs0 H0 as vs ps → (∀ m p, ps[m]? = some p → C.P[n + m]? = some p) →
    (∀ (i : Nat) (s : Slt), e'[i]? = some s → ∃ i' : Nat, e[i']? = some s) → outsE n as e' = some os → OOk C.K C.sc Hs H ps os
  | [], [], [], _, _, os, _, _, _, _, _, h => by cases h; trivial
  | .fz d :: as, v :: vs, ps, n, e', os, _, _, a, hP, he, h => by
    cases e' with
    | nil => cases h
    | cons s e' => exact outs_ok k a.2 hP (fun i s' hs => he (i + 1) s' (by simpa using hs)) h
  | .ow none o :: as, v :: vs, p :: ps, n, e', os, _, _, a, hP, he, h => by
    cases e' with
    | nil => cases h
    | cons s e' =>
      cases s with
      | un => cases h
      | fz d => cases h
      | ow j u =>
        cases j with
        | none => cases h
        | some n' =>
          unfold outsE at h
          split at h
          · rename_i hn
            subst hn
            obtain ⟨os', h', rfl⟩ := Option.map_eq_some_iff.mp h
            obtain ⟨i', hi'⟩ := he 0 _ rfl
            obtain ⟨q, e1, e2, e3, e4⟩ := k.own hi'
            have e4 : C.P[n]? = some q := e4
            have e5 := hP 0 p rfl
            rw [Nat.add_zero, e4] at e5
            cases e5
            exact ⟨e3, outs_ok k a.2.2.2 (fun m r hr => by have := hP (m + 1) r (by simpa using hr); rw [show n + 1 + m = n + (m + 1) by omega]; exact this) (fun i s' hs => he (i + 1) s' (by simpa using hs)) h'⟩
          · cases h
  | [], [], _ :: _, _, _, _, _, _, h, _, _, _ => h.elim
  | [], _ :: _, _, _, _, _, _, _, h, _, _, _ => h.elim
  | .fz _ :: _, [], _, _, _, _, _, _, h, _, _, _ => h.elim
  | .un :: _, _, _, _, _, _, _, _, h, _, _, _ => h.elim
  | .ow none _ :: _, [], _, _, _, _, _, _, h, _, _, _ => h.elim
  | .ow none _ :: _, _ :: _, [], _, _, _, _, _, h, _, _, _ => h.elim
  | .ow (some _) _ :: _, _, _, _, _, _, _, _, h, _, _, _ => h.elim
theorem fn_red {F : Fn} {np nl : Nat} {A : List Nat} {t : TS} {m : MS} {N : List Str} (hF : F = mkFn np nl m) (hN : N.length = np + nl) {vs : List V} {H : Hp} {Q : VK} {E : XK} (hsp : spM K RE F vs H Q E)
    (h : ∀ sc Hs ps, SS ⟨K, sc, H, ps, Hs, E, RE⟩ A t m) : t { nx := fun _ H' => Q .non H', rt := Q } (start N vs) H := by
  have hlen := spM_len hF hsp
  obtain ⟨sc, Hs, as, ps, hle, a, hnd, fw⟩ := hsp
  rw [hF] at fw
  unfold mkFn at fw
  split at fw
  · rename_i hc
    have hal : as.length = np := hc.1
    have e0 : ∀ m p, ps[m]? = some p → ps[0 + m]? = some p := fun m p q => by rw [Nat.zero_add]; exact q
    have sl : ∀ (i : Nat) s, (initE 0 as ++ List.replicate nl .un)[i]? = some s → s = .un ∨ (i < as.length ∧ (initE 0 as)[i]? = some s) := fun i s hs => by
      by_cases hi : i < (initE 0 as).length
      · rw [List.getElem?_append_left hi] at hs
        exact .inr ⟨by rw [initE_len] at hi; exact hi, hs⟩
      · rw [List.getElem?_append_right (by omega), List.getElem?_replicate] at hs
        split at hs
        · exact .inl (Option.some.inj hs).symm
        · cases hs
    have st : ∀ (i : Nat) v, vs[i]? = some v → (start N vs)[i]? = some (some v) := fun i v hv => by
      unfold start
      have hi : i < vs.length := (List.getElem?_eq_some_iff.mp hv).1
      rw [List.getElem?_append_left (by simpa using hi), List.getElem?_map, hv]
      rfl
    have k : StOk ⟨K, sc, H, ps, Hs, E, RE⟩ (fun _ => none) Hs (initE 0 as ++ List.replicate nl .un) (start N vs) H := by
      refine ⟨?_, hle, fun i s hs => ?_, fun i i' j j' o o' p h1 h2 h3 h4 => ?_, fun _ _ q _ => q, fun _ q => q, fun _ q => .inl q, aok_some a, fun _ _ q => ?_, fun _ _ _ _ _ _ => rfl⟩
      · unfold start
        rw [List.length_append, List.length_append, List.length_map, List.length_replicate, List.length_replicate, initE_len, hal, hlen, hN]
        omega
      · rcases sl i s hs with rfl | ⟨hi, hs⟩
        · trivial
        · rcases init_slot a e0 i s hs with ⟨d, v, rfl, hv, r⟩ | ⟨n, o, p, rfl, hv, c1, c2, c3, _⟩
          · exact ⟨v, st i v hv, r⟩
          · exact ⟨p, st i _ hv, c1, c2, c3⟩
      · have get : ∀ {i : Nat} {j o}, (initE 0 as ++ List.replicate nl .un)[i]? = some (Slt.ow j o) → (start N vs)[i]? = some (some (.ref p)) → ∃ n, (initE 0 as)[i]? = some (.ow (some n) o) ∧ ps[n]? = some p := fun {i j o} h h' => by
          rcases sl i _ h with z | ⟨hi, hs⟩
          · cases z
          · rcases init_slot a e0 i _ hs with ⟨d, v, z, _⟩ | ⟨n, o2, p2, z, hv, c1, c2, c3, _⟩
            · cases z
            · cases z
              have := st i _ hv
              rw [h'] at this
              cases this
              exact ⟨n, hs, c3⟩
        obtain ⟨n, g1, g2⟩ := get h1 h3
        obtain ⟨n', g3, g4⟩ := get h2 h4
        have en : n = n' := by
          have l1 := (List.getElem?_eq_some_iff.mp g2).1
          exact (List.getElem?_inj l1 hnd).mp (g2.trans g4.symm)
        subst en
        exact init_uniq a i i' n o o' g1 g3
      · exact absurd q (fun z => nomatch z)
    have fin : ∀ {Hs' : Hp} {σ' : L2.St} {H' : Hp} {e' : Loc} {os : List Ob}, StOk ⟨K, sc, H, ps, Hs, E, RE⟩ (fun _ => none) Hs' e' σ' H' → Post Hs H Hs' H' → outsE 0 as e' = some os → FPost Hs H ps Hs' H' ∧ OOk K sc Hs' H' ps os := fun {Hs' σ' H' e' os} k' p' ho =>
      ⟨⟨p'.le, k'.le, k'.frame, p'.dom, k'.news⟩, outs_ok (C := ⟨K, sc, H, ps, Hs, E, RE⟩) k' a e0 (fun i s hs => ⟨i, hs⟩) ho⟩
    refine h sc Hs ps _ Hs _ _ H k _ ?_
    cases q : m (initE 0 as ++ List.replicate nl .un) with
    | nx e' =>
      intro Hs' σ' H' p' k' _
      rw [q] at fw
      cases ho : outsE 0 as e' with
      | none => simp only [ho] at fw; exact fw.elim
      | some os =>
        simp only [ho] at fw
        obtain ⟨f1, f2⟩ := fin k' p' ho
        exact fw _ Hs' H' f1 f2 (by show Rep K sc Hs' .non _; simp only [Rep])
    | rt s e' =>
      intro v Hs' σ' H' p' k' ro
      rw [q] at fw
      cases ho : outsE 0 as e' with
      | none => simp only [ho] at fw; exact fw.elim
      | some os =>
        simp only [ho] at fw
        obtain ⟨f1, f2⟩ := fin k' p' ho
        refine fw v Hs' H' f1 f2 ?_
        cases s with
        | un => exact ro.elim
        | fz d => exact ro
        | ow j o =>
          cases j with
          | some n => exact ro.elim
          | none => exact ro
    | er x e' =>
      intro Hs' σ' H' c od p' k' re
      rw [q] at fw
      cases ho : outsE 0 as e' with
      | none => simp only [ho] at fw; exact fw.elim
      | some os =>
        simp only [ho] at fw
        obtain ⟨f1, f2⟩ := fin k' p' ho
        exact fw Hs' H' c od f1 f2 re
    | bk e' => rw [q] at fw; exact fw.elim
    | ct e' => rw [q] at fw; exact fw.elim
    | ud => rw [q] at fw; exact fw.elim
  · exact fw.elim
end
end Ml

set_option linter.all false
set_option maxRecDepth 100000
set_option maxHeartbeats 1000000
/-! The operations on data, each with its rule. -/
namespace L2
open PySem PySem.Spec PyProof.Rows
/-- xs[i] by values, for xs[i] op= e -/
theorem get_list {X : Cx} : PGet X (rIxL X.K) := by
  intro pins s σ H x y v u Q I rx ry h
  obtain ⟨p, xs, i, z, rfl, rfl, hq, he, q⟩ := h
  cases rx
  obtain ⟨t, rfl⟩ := ry
  obtain ⟨its, r, pl, hz⟩ := I.list hq
  obtain ⟨j, h1, h2, h3, h4, h5⟩ := atI_get he
  obtain ⟨w, ew, rw'⟩ := r.get h2
  have hl := r.length
  have hn := line63
  have fin : EP X pins σ Q w s := ⟨z, H, I, rw', q⟩
  by_cases h0 : 0 ≤ i
  · have hj : i.toNat = j := by
      rw [seqIndex_of h0 h5] at h1
      exact Option.some.inj h1
    exact wpAny_getItem_list pl.isList h0 (by omega) (by rw [hj]; simpa using ew) fin
  · have hj : (i + (its.toArray.size : Int)).toNat = j := by
      rw [seqIndex_neg (by omega) h4] at h1
      rw [List.size_toArray, ← hl]
      exact Option.some.inj h1
    exact wpAny_getItem_list_neg pl.isList (by omega) (by rw [List.size_toArray] <;> omega) (by omega) (by rw [hj]; simpa using ew) fin
/-- a text, some times -/
theorem op_mul_str {X : Cx} : OpR X (binaryOp .Mult) (fun x y H Q => ∃ a k, x = .str a ∧ y = .int k ∧ k.natAbs < 2 ^ 60 ∧ a.length * k.toNat ≤ 16000000 ∧ Q (.str ⟨(List.replicate k.toNat a.cps.toList).flatten.toArray⟩) H) := by
  intro pins s σ H x y v u Q I rx ry h
  obtain ⟨a, k, rfl, rfl, hk, hl, q⟩ := h
  obtain ⟨t, rfl⟩ := rx
  obtain ⟨t', rfl⟩ := ry
  have hk1 : ¬ k < -(2 ^ 63 : Int) := by omega
  have hk2 : ¬ k ≥ 2 ^ 63 := by omega
  have foldE : ∀ (n : Nat) (c : Array Nat) (acc : Array Nat), (List.replicate n c).foldl (· ++ ·) acc = acc ++ ((List.replicate n c.toList).flatten).toArray := by
    intro n
    induction n with
    | zero => intro c acc; simp
    | succ n ih => intro c acc; rw [List.replicate_succ, List.foldl_cons, ih, List.replicate_succ, List.flatten_cons]; apply Array.ext'; simp
  refine PySem.P.mul_str (by rw [decide_eq_false hk1, decide_eq_false hk2]; rfl) (fun h1 _ => ?_) (fun h1 h2 => ?_) ?_
  · have hk3 : 1 ≤ k := by omega
    obtain ⟨n, rfl⟩ := Int.eq_ofNat_of_zero_le (show 0 ≤ k by omega)
    have h5 : a.length * n ≤ 16000000 := hl
    intro hgt
    have h6 : ((2 ^ 63 - 1 : Int)) / (n : Int) ≥ (a.length : Int) := by
      apply (Int.le_ediv_iff_mul_le (by omega)).mpr
      rw [← Int.natCast_mul]
      generalize a.length * n = m at h5 ⊢
      omega
    omega
  · unfold Builtin.Str.tooLong
    rw [decide_eq_false_iff_not]
    have : sizeLine = 16777216 := rfl
    omega
  · by_cases h1 : k < 1
    · rw [if_pos h1]
      have e : k.toNat = 0 := by omega
      rw [e] at q
      exact ⟨by decide, ⟨.str Str.empty, H, I.tok _, ⟨_, rfl⟩, q⟩⟩
    · rw [if_neg h1]
      by_cases h2 : (k == 1 || a.length == 0) = true
      · rw [if_pos h2]
        have e : (⟨(List.replicate k.toNat a.cps.toList).flatten.toArray⟩ : Str) = a := by
          refine TL.ext_tl ?_
          show (List.replicate k.toNat a.cps.toList).flatten = a.cps.toList
          rcases (Bool.or_eq_true _ _).mp h2 with z | z
          · have z : k = 1 := by simpa using z
            subst z; simp
          · have z : a.cps.toList = [] := by
              have : a.cps.toList.length = 0 := by simpa [Str.length] using z
              exact List.eq_nil_of_length_eq_zero this
            rw [z]; simp
        rw [e] at q
        exact ⟨.str a, H, I, ⟨_, rfl⟩, q⟩
      · rw [if_neg h2]
        refine ⟨?_, ⟨.str _, H, I.tok _, ⟨_, rfl⟩, ?_⟩⟩
        · have e := foldE k.toNat a.cps #[]
          show ((⟨(List.replicate k.toNat a.cps).foldl (· ++ ·) #[]⟩ : Str)).length ≤ sizeLine
          rw [e]
          simp only [Str.length, Array.empty_append, List.size_toArray, List.length_flatten, List.map_replicate, List.sum_replicate_nat, Array.length_toList]
          have : a.length = a.cps.size := rfl
          rw [← this, Nat.mul_comm]
          exact Nat.le_trans hl (by decide)
        · rw [foldE k.toNat a.cps #[]]
          simpa using q
/-- list(a text) -/
theorem call_listS {X : Cx} (hc : X.calm = true) : CallR X (.type "list") (fun xs H Q => ∃ z : Str, xs = [.str z] ∧ z.length ≤ sizeLine ∧ ∀ l, H l = none → Q (.ref l) (upd H l (.lst (z.cps.toList.map fun c => V.str ⟨#[c]⟩)))) := by
  intro pins s σ H xs us Q I r h
  obtain ⟨z, rfl, hz, q⟩ := h
  obtain ⟨u, rfl, t, rfl⟩ := vals1 r
  refine call_list_str (I.ok.hd hc) z t (fun h' tk acc' c' kp e it => ?_) hz
  have hl : acc'.size = z.cps.size := it.1
  have vr : ∀ (l : List Nat) (m : List Value), l.length = m.length → (∀ (j : Nat) w, m[j]? = some w → ∃ c u, l[j]? = some c ∧ w = .str ⟨#[c]⟩ u) → Vals (l.map fun c => V.str ⟨#[c]⟩) m := by
    intro l
    induction l with
    | nil => intro m h _; cases m with
      | nil => exact .nil
      | cons _ _ => cases h
    | cons c l ih =>
      intro m h g
      cases m with
      | nil => cases h
      | cons w m =>
        obtain ⟨c', u, e1, e2⟩ := g 0 w rfl
        cases e1
        exact .cons ⟨u, e2⟩ (ih m (by simpa using h) fun j w' hw => g (j + 1) w' (by simpa using hw))
  have rv : Vals (z.cps.toList.map fun c => V.str ⟨#[c]⟩) acc'.toList := vr _ _ (by simp [hl]) fun j w hw => by
    obtain ⟨c, u, e1, e2⟩ := it.2 j w (by simpa using hw)
    exact ⟨c, u, by simpa using e1, e2⟩
  refine ⟨.ref s.heap.objs.size, _, I.laid (t' := tk) kp (Nat.le_refl _) (show ObjOk X.prog X.w _ h' _ (.lst _) from ⟨by simpa [Str.length] using hz, acc'.toList, c', rv, by simpa using e⟩), rfl, q _ (I.hok.fresh (Nat.le_refl _))⟩
end L2
namespace Ml
open L2
open PySem (Addr Str sizeLine)
section
variable {C : Cc} {K : PySem.W.Frag}

/-! ### ints -/
theorem rv_int {C1 : Int → Int → Prop} {g : Int → Int → V} {f : Dv → Dv → Option Dv} (h : ∀ a b c, f a b = some c → ∃ i j, a = .int i ∧ b = .int j ∧ C1 i j ∧ ∀ Hs, Rep C.K C.sc Hs c (g i j)) : RV C (L2.rI C1 g) f := fun Z Hs e σ H k x y a b c Q ra rb hf w => by
  obtain ⟨i, j, rfl, rfl, hc, hr⟩ := h a b c hf
  simp only [Rep] at ra rb
  subst ra; subst rb
  exact ⟨i, j, rfl, rfl, hc, we_ok w k (hr Hs)⟩
theorem rv_int0 {g : Int → Int → V} {f : Dv → Dv → Option Dv} (h : ∀ a b c, f a b = some c → ∃ i j, a = .int i ∧ b = .int j ∧ ∀ Hs, Rep C.K C.sc Hs c (g i j)) : RV C (rI0 g) f := fun Z Hs e σ H k x y a b c Q ra rb hf w => by
  obtain ⟨i, j, rfl, rfl, hr⟩ := h a b c hf
  simp only [Rep] at ra rb
  subst ra; subst rb
  exact ⟨i, j, rfl, rfl, we_ok w k (hr Hs)⟩
theorem rv_or {r r' : L2.R2} {f f' g : Dv → Dv → Option Dv} (h : RV C r f) (h' : RV C r' f') (hg : ∀ a b c, g a b = some c → f a b = some c ∨ f' a b = some c) : RV C (fun x y H Q => r x y H Q ∨ r' x y H Q) g := fun Z Hs e σ H k x y a b c Q ra rb hf w => by
  rcases hg a b c hf with z | z
  · exact .inl (h Z Hs e σ H k x y a b c Q ra rb z w)
  · exact .inr (h' Z Hs e σ H k x y a b c Q ra rb z w)
theorem rv_addI : RV C (rI0 fun i j => .int (i + j)) (fun a b => match a, b with | .int a, .int b => some (.int (a + b)) | _, _ => none) := rv_int0 fun a b c h => by
  split at h
  · cases h; exact ⟨_, _, rfl, rfl, fun _ => by simp only [Rep]⟩
  · cases h
theorem rv_addS : RV C (fun x y H Q => ∃ i j, x = .str i ∧ y = .str j ∧ i.length + j.length ≤ sizeLine ∧ Q (.str (i ++ j)) H) (fun a b => match a, b with | .str a, .str b => if a.length + b.length ≤ lim then some (.str (a ++ b)) else none | _, _ => none) := fun Z Hs e σ H k x y a b c Q ra rb hf w => by
  dsimp only at hf
  split at hf
  · split at hf
    · rename_i hl
      cases hf
      simp only [Rep] at ra rb
      subst ra; subst rb
      refine ⟨_, _, rfl, rfl, by rw [slen, slen]; exact lim_line hl, ?_⟩
      rw [sapp]
      exact we_ok w k (by simp only [rD, Rep])
    · cases hf
  · cases hf
theorem rv_add : RV C (fun x y H Q => (rI0 fun i j => .int (i + j)) x y H Q ∨ (fun x y H Q => ∃ i j, x = .str i ∧ y = .str j ∧ i.length + j.length ≤ sizeLine ∧ Q (.str (i ++ j)) H) x y H Q) oAdd := rv_or rv_addI rv_addS fun a b c h => by
  unfold oAdd at h
  split at h
  · exact .inl h
  · exact .inr h
  · cases h
theorem rv_sub : RV C (rI0 fun i j => .int (i - j)) oSub := rv_int0 fun a b c h => by
  unfold oSub at h; split at h
  · cases h; exact ⟨_, _, rfl, rfl, fun _ => by simp only [Rep]⟩
  · cases h
theorem rv_mul : RV C (L2.rI CMul fun i j => .int (i * j)) oMul := rv_int fun a b c h => by
  unfold oMul at h; split at h
  · split at h
    · rename_i i j hc
      cases h
      refine ⟨i, j, rfl, rfl, ?_, fun _ => by simp only [Rep]⟩
      unfold CMul
      rcases hc with hc | hc
      · left; omega
      · right; omega
    · cases h
  · cases h
theorem rv_mulS : RV C (fun x y H Q => ∃ a k, x = .str a ∧ y = .int k ∧ k.natAbs < 2 ^ 60 ∧ a.length * k.toNat ≤ 16000000 ∧ Q (.str ⟨(List.replicate k.toNat a.cps.toList).flatten.toArray⟩) H) oRepS := fun Z Hs e σ H k x y a b c Q ra rb hf w => by
  unfold oRepS at hf
  split at hf
  · split at hf
    · rename_i hl
      cases hf
      simp only [Rep] at ra rb
      subst ra; subst rb
      refine ⟨_, _, rfl, rfl, hl.2, by rw [slen]; exact hl.1, ?_⟩
      exact we_ok w k (by simp only [rD, Rep])
    · cases hf
  · cases hf
theorem rv_div : RV C (L2.rI CDivN fun i j => .int (i.fdiv j)) oDiv := rv_int fun a b c h => by
  unfold oDiv at h; split at h
  · split at h
    · rename_i i j hc
      cases h
      exact ⟨i, j, rfl, rfl, hc, fun _ => by simp only [Rep]⟩
    · cases h
  · cases h
theorem rv_mod : RV C (L2.rI (fun _ j => j ≠ 0) fun i j => .int (i.fmod j)) oMod := rv_int fun a b c h => by
  unfold oMod at h; split at h
  · split at h
    · rename_i i j hc
      cases h
      exact ⟨i, j, rfl, rfl, hc, fun _ => by simp only [Rep]⟩
    · cases h
  · cases h
theorem pw_ok {i j : Int} (h : 0 ≤ j ∧ j ≤ 1000000 ∧ i.natAbs < 2 ^ 62) : CPow i j := ⟨h.1, h.2.1, Nat.lt_of_lt_of_le h.2.2 (by decide)⟩
theorem rv_pow : RV C (L2.rI CPow fun i j => .int (i ^ j.toNat)) oPow := rv_int fun a b c h => by
  unfold oPow at h; split at h
  · split at h
    · rename_i i j hc
      cases h
      exact ⟨i, j, rfl, rfl, pw_ok hc, fun _ => by simp only [Rep]⟩
    · cases h
  · cases h
theorem rv_shl : RV C (L2.rI CPow fun i j => .int (i * 2 ^ j.toNat)) oShl := rv_int fun a b c h => by
  unfold oShl at h; split at h
  · split at h
    · rename_i i j hc
      cases h
      exact ⟨i, j, rfl, rfl, pw_ok hc, fun _ => by simp only [Rep]⟩
    · cases h
  · cases h
theorem rv_lt : RV C (rI0 fun i j => .bl (decide (i < j))) oLt := rv_int0 fun a b c h => by
  unfold oLt at h; split at h
  · cases h; exact ⟨_, _, rfl, rfl, fun _ => by simp only [Rep]⟩
  · cases h
theorem rv_le : RV C (rI0 fun i j => .bl (decide (i ≤ j))) oLe := rv_int0 fun a b c h => by
  unfold oLe at h; split at h
  · cases h; exact ⟨_, _, rfl, rfl, fun _ => by simp only [Rep]⟩
  · cases h
theorem rv_gt : RV C (rI0 fun i j => .bl (decide (j < i))) oGt := rv_int0 fun a b c h => by
  unfold oGt at h; split at h
  · cases h; exact ⟨_, _, rfl, rfl, fun _ => by simp only [Rep]⟩
  · cases h
theorem rv_ge : RV C (rI0 fun i j => .bl (decide (j ≤ i))) oGe := rv_int0 fun a b c h => by
  unfold oGe at h; split at h
  · cases h; exact ⟨_, _, rfl, rfl, fun _ => by simp only [Rep]⟩
  · cases h
theorem r1_neg : R1 C (rU fun i => .int (-i)) oNeg := fun Z Hs e σ H k x a c Q ra hf w => by
  unfold oNeg at hf; split at hf
  · cases hf
    simp only [Rep] at ra; subst ra
    exact ⟨_, rfl, we_ok w k (by simp only [rD, Rep])⟩
  · cases hf

/-! ### ==, in -/
theorem sOf_inj {a b : List Nat} : (sOf a = sOf b) = (a = b) := by
  apply propext
  constructor
  · intro h
    have := congrArg (fun z : Str => z.cps.toList) h
    simpa using this
  · rintro rfl; rfl
theorem eqS_ok {Hs : Hp} {a b : Dv} {x y : V} {r : Bool} (h : eqS a b = some r) (ra : Rep C.K C.sc Hs a x) (rb : Rep C.K C.sc Hs b y) : scal x y = true ∧ r = decide (x = y) := by
  unfold eqS at h
  split at h <;> (try cases h) <;> (simp only [Rep] at ra rb; subst ra; subst rb) <;> first
    | exact ⟨rfl, by simp⟩
    | (refine ⟨rfl, ?_⟩; simp only [V.str.injEq, sOf_inj])
theorem rv_eq : RV C rEq oEq := fun Z Hs e σ H k x y a b c Q ra rb hf w => by
  obtain ⟨r, hr, rfl⟩ := Option.map_eq_some_iff.mp hf
  obtain ⟨h1, rfl⟩ := eqS_ok hr ra rb
  exact ⟨h1, we_ok w k (by simp only [rD, Rep])⟩
theorem rv_ne : RV C rNe oNe := fun Z Hs e σ H k x y a b c Q ra rb hf w => by
  obtain ⟨r, hr, rfl⟩ := Option.map_eq_some_iff.mp hf
  obtain ⟨h1, rfl⟩ := eqS_ok hr ra rb
  exact ⟨h1, we_ok w k (by simp only [rD, Rep])⟩
theorem rv_inS : RV C (fun x y H Q => ∃ (c : Nat) (z : Str), x = .str ⟨#[c]⟩ ∧ y = .str z ∧ Q (.bl (decide (c ∈ z.cps.toList))) H) oInS := fun Z Hs e σ H k x y a b c Q ra rb hf w => by
  unfold oInS at hf; split at hf
  · cases hf
    simp only [Rep] at ra rb; subst ra; subst rb
    exact ⟨_, _, rfl, rfl, we_ok w k (by simp only [rD, Rep])⟩
  · cases hf
theorem rv_niS : RV C (fun x y H Q => ∃ (c : Nat) (z : Str), x = .str ⟨#[c]⟩ ∧ y = .str z ∧ Q (.bl (!decide (c ∈ z.cps.toList))) H) oNiS := fun Z Hs e σ H k x y a b c Q ra rb hf w => by
  unfold oNiS at hf; split at hf
  · cases hf
    simp only [Rep] at ra rb; subst ra; subst rb
    exact ⟨_, _, rfl, rfl, we_ok w k (by simp only [rD, Rep])⟩
  · cases hf

/-! ### places -/
theorem getI_eq {α : Type} (xs : List α) (k : Int) : getI xs k = atI xs k := rfl
theorem getI_map {α β : Type} (f : α → β) (xs : List α) (k : Int) : getI (xs.map f) k = (getI xs k).map f := by
  unfold getI
  rw [List.length_map]
  cases ixn xs.length k with
  | none => rfl
  | some n => simp
theorem rv_ixL (hK : C.K = K) : RV C (rIxL K) oIxL := fun Z Hs e σ H k x y a b c Q ra rb hf w => by
  subst hK
  unfold oIxL at hf; split at hf
  · simp only [Rep] at ra rb; subst rb
    obtain ⟨p, xs, rfl, hx, rx⟩ := ra
    obtain ⟨v, e1, e2⟩ := getI_at hf rx
    exact ⟨p, xs, _, v, rfl, rfl, SqL.of (k.le _ _ hx), e1, we_ok w k e2⟩
  · simp only [Rep] at ra rb; subst rb
    obtain ⟨rfl, hx⟩ := ra
    obtain ⟨n, hn, rfl⟩ := Option.map_eq_some_iff.mp hf
    refine ⟨_, _, _, .int n, rfl, rfl, SqL.of (k.le _ _ hx), ?_, we_ok w k (by simp only [rD, Rep])⟩
    rw [← getI_eq, getI_map, hn]; rfl
  · cases hf
theorem rw_ix (hK : C.K = K) : RW C (rIxL K) wIx := fun Z Hs e σ H k p xs ds y b c Q hx rx rb hf w => by
  subst hK
  unfold wIx at hf; split at hf
  · simp only [Rep] at rb; subst rb
    obtain ⟨v, e1, e2⟩ := getI_at hf rx
    exact ⟨p, xs, _, v, rfl, rfl, SqL.of hx, e1, we_ok w k e2⟩
  · cases hf
theorem rv_ixT (hK : C.K = K) : RV C (rIxT K) oIxT := fun Z Hs e σ H k x y a b c Q ra rb hf w => by
  subst hK
  unfold oIxT at hf; split at hf
  · simp only [Rep] at ra rb; subst rb
    obtain ⟨p, xs, rfl, hx, rx⟩ := ra
    obtain ⟨v, e1, e2⟩ := getI_at hf rx
    exact ⟨p, xs, _, v, rfl, rfl, sqt_le k.le hx, e1, we_ok w k e2⟩
  · cases hf
theorem rv_ixS : RV C rIxS oIxS := fun Z Hs e σ H k x y a b c Q ra rb hf w => by
  unfold oIxS at hf; split at hf
  · split at hf
    · rename_i s n hl
      obtain ⟨c', hc, rfl⟩ := Option.map_eq_some_iff.mp hf
      simp only [Rep] at ra rb; subst ra; subst rb
      exact ⟨_, n, c', rfl, rfl, by rw [slen]; exact lim_line hl, by rw [← getI_eq]; simpa using hc, we_ok w k (by simp only [rD, Rep])⟩
    · cases hf
  · cases hf
theorem rv_ix (hK : C.K = K) : RV C (rIx K) oIx := rv_or (rv_ixL hK) (rv_or (g := fun a b => match oIxT a b with | some c => some c | none => oIxS a b) (rv_ixT hK) rv_ixS fun a b c h => by
    cases q : oIxT a b with
    | some d => simp only [q] at h; exact .inl h
    | none => simp only [q] at h; exact .inr h) fun a b c h => by
  unfold oIx at h
  split at h
  · exact .inl h
  · refine .inr ?_
    show (match getI _ _ with | some c => some c | none => none) = some c
    rw [h]
  · exact .inl h
  · exact .inr h
  · cases h
theorem r1_len (hK : C.K = K) : RC1 C (fun xs H Q => ∃ x' n, xs = [x'] ∧ LenV K x' H n ∧ Q (.int n) H) oLen := fun Z Hs e σ H k x a c Q ra hf w => by
  subst hK
  refine ⟨x, ?_⟩
  unfold oLen at hf; split at hf
  · split at hf
    · rename_i s hl
      cases hf
      simp only [Rep] at ra; subst ra
      exact ⟨s.length, rfl, ⟨by rw [slen]; exact lim_line hl, by rw [slen]⟩, we_ok w k (by simp only [rD, Rep])⟩
    · cases hf
  · cases hf
    simp only [Rep] at ra
    obtain ⟨p, xs, rfl, hx, rx⟩ := ra
    exact ⟨_, rfl, .inl ⟨xs, SqL.of (k.le _ _ hx), (reps_len rx).symm⟩, we_ok w k (by simp only [rD, Rep])⟩
  · cases hf
    simp only [Rep] at ra
    obtain ⟨p, xs, rfl, hx, rx⟩ := ra
    exact ⟨_, rfl, .inr ⟨xs, sqt_le k.le hx, (reps_len rx).symm⟩, we_ok w k (by simp only [rD, Rep])⟩
  · rename_i ns'
    cases hf
    simp only [Rep] at ra
    obtain ⟨rfl, hx⟩ := ra
    exact ⟨ns'.length, rfl, .inl ⟨_, SqL.of (k.le _ _ hx), by simp⟩, we_ok w k (by simp only [rD, Rep])⟩
  · cases hf
theorem rw_len (hK : C.K = K) : RCW C (fun xs H Q => ∃ x' n, xs = [x'] ∧ LenV K x' H n ∧ Q (.int n) H) wLen := fun Z Hs e σ H k p xs ds c Q hx rx hf w => by
  subst hK
  cases hf
  exact ⟨_, _, rfl, .inl ⟨xs, SqL.of hx, (reps_len rx).symm⟩, we_ok w k (by simp only [rD, Rep])⟩

/-! ### calls of what is built in -/
theorem r1_abs : RC1 C (fun xs H Q => ∃ i, xs = [V.int i] ∧ Q (.int (if i < 0 then -i else i)) H) oAbs := fun Z Hs e σ H k x a c Q ra hf w => by
  unfold oAbs at hf; split at hf
  · cases hf
    simp only [Rep] at ra; subst ra
    exact ⟨_, rfl, we_ok w k (by simp only [rD, Rep])⟩
  · cases hf
theorem r1_int : RC1 C (fun xs H Q => (∃ i, xs = [V.int i] ∧ Q (.int i) H) ∨ ∃ k, xs = [V.bl k] ∧ Q (.int (if k then 1 else 0)) H) oInt := fun Z Hs e σ H k x a c Q ra hf w => by
  unfold oInt at hf; split at hf
  · cases hf
    simp only [Rep] at ra; subst ra
    exact .inl ⟨_, rfl, we_ok w k (by simp only [rD, Rep])⟩
  · cases hf
    simp only [Rep] at ra; subst ra
    exact .inr ⟨_, rfl, we_ok w k (by simp only [rD, Rep])⟩
  · cases hf
theorem r1_str : RC1 C (fun xs H Q => ∃ i, xs = [V.int i] ∧ i.natAbs.log2 < 1920 ∧ Q (.str (toString i)) H) oStr := fun Z Hs e σ H k x a c Q ra hf w => by
  unfold oStr at hf; split at hf
  · split at hf
    · rename_i i hl
      cases hf
      simp only [Rep] at ra; subst ra
      refine ⟨i, rfl, ?_, we_ok w k ?_⟩
      · by_cases h0 : i.natAbs = 0
        · rw [h0]; decide
        · have := (Nat.log2_lt h0).mpr (Nat.lt_of_lt_of_le hl (Nat.pow_le_pow_right (by decide) (show 900 ≤ 1920 by decide)))
          exact this
      · simp only [rD, Rep]
        congr 1
        exact TL.ext_tl (TL.tl_ofString _)
    · cases hf
  · cases hf
theorem r1_tup (hK : C.K = K) : RC1 C (fun xs H Q => ∃ p ys, xs = [V.ref p] ∧ ((SqL K H p ys ∧ ∀ l, H l = none → Q (.ref l) (upd H l (.tup ys))) ∨ (SqT K H p ys ∧ Q (.ref p) H))) oTup := fun Z Hs e σ H k x a c Q ra hf w => by
  subst hK
  unfold oTup at hf; split at hf
  · cases hf
    simp only [Rep] at ra
    obtain ⟨p, xs, rfl, hx, rx⟩ := ra
    refine ⟨p, xs, rfl, .inl ⟨SqL.of (k.le _ _ hx), fun l hl => we_new w k hl ?_⟩⟩
    simp only [rD, Rep]
    exact ⟨l, xs, rfl, SqT.of upd_same, reps_le (Le.new (k.hs_none hl)) rx⟩
  · cases hf
    simp only [Rep] at ra
    obtain ⟨p, xs, rfl, hx, rx⟩ := ra
    refine ⟨p, xs, rfl, .inr ⟨sqt_le k.le hx, we_ok w k ?_⟩⟩
    simp only [rD, Rep]
    exact ⟨p, xs, rfl, hx, rx⟩
  · cases hf
theorem rw_tup (hK : C.K = K) : RCW C (fun xs H Q => ∃ p ys, xs = [V.ref p] ∧ ((SqL K H p ys ∧ ∀ l, H l = none → Q (.ref l) (upd H l (.tup ys))) ∨ (SqT K H p ys ∧ Q (.ref p) H))) wTup := fun Z Hs e σ H k p xs ds c Q hx rx hf w => by
  subst hK
  cases hf
  refine ⟨p, xs, rfl, .inl ⟨SqL.of hx, fun l hl => we_new w k hl ?_⟩⟩
  simp only [rD, Rep]
  exact ⟨l, xs, rfl, SqT.of upd_same, reps_le (Le.new (k.hs_none hl)) rx⟩
theorem bools_of {Hs : Hp} : ∀ {ds : List Dv} {bs : List Bool} {xs : List V}, boolsOf ds = some bs → Reps C.K C.sc Hs ds xs → xs = bs.map V.bl
  | [], bs, xs, h, r => by cases h; simp only [Reps] at r; rw [r]; rfl
  | .bl b :: ds, bs, xs, h, r => by
    obtain ⟨b', h', rfl⟩ := Option.map_eq_some_iff.mp h
    simp only [Reps] at r
    obtain ⟨v, q, rfl, r1, r2⟩ := r
    simp only [Rep] at r1
    rw [bools_of h' r2, r1]; rfl
  | .non :: _, _, _, h, _ => by cases h
  | .int _ :: _, _, _, h, _ => by cases h
  | .str _ :: _, _, _, h, _ => by cases h
  | .tup _ :: _, _, _, h, _ => by cases h
  | .lst _ :: _, _, _, h, _ => by cases h
  | .scr _ :: _, _, _, h, _ => by cases h
theorem r1_all (hK : C.K = K) : RC1 C (rAll K) oAll := fun Z Hs e σ H k x a c Q ra hf w => by
  subst hK
  unfold oAll at hf; split at hf
  · obtain ⟨bs, hb, rfl⟩ := Option.map_eq_some_iff.mp hf
    simp only [Rep] at ra
    obtain ⟨p, xs, rfl, hx, rx⟩ := ra
    have ex := bools_of hb rx
    subst ex
    exact ⟨p, bs, rfl, SqL.of (k.le _ _ hx), we_ok w k (by simp only [rD, Rep])⟩
  · cases hf
theorem strs_of {Hs : Hp} : ∀ {ds : List Dv} {bs : List (List Nat)} {xs : List V}, strsOf ds = some bs → Reps C.K C.sc Hs ds xs → xs = (bs.map sOf).map V.str
  | [], bs, xs, h, r => by cases h; simp only [Reps] at r; rw [r]; rfl
  | .str b :: ds, bs, xs, h, r => by
    obtain ⟨b', h', rfl⟩ := Option.map_eq_some_iff.mp h
    simp only [Reps] at r
    obtain ⟨v, q, rfl, r1, r2⟩ := r
    simp only [Rep] at r1
    rw [strs_of h' r2, r1]; rfl
  | .non :: _, _, _, h, _ => by cases h
  | .int _ :: _, _, _, h, _ => by cases h
  | .bl _ :: _, _, _, h, _ => by cases h
  | .tup _ :: _, _, _, h, _ => by cases h
  | .lst _ :: _, _, _, h, _ => by cases h
  | .scr _ :: _, _, _, h, _ => by cases h
theorem join_tl (s : List Nat) : ∀ l : List (List Nat), TL.joinL s l = joinN s l
  | [] => rfl
  | [_] => rfl
  | a :: b :: r => by
    show a ++ (s ++ TL.joinL s (b :: r)) = a ++ (s ++ joinN s (b :: r))
    rw [join_tl s (b :: r)]
/-- a text's method -/
theorem se_m1 {r : V → List V → Hp → VK → Prop} {f : List Nat → Dv → Option Dv} {ta tb : TE} {ma mb : ME Dv} (hr : ∀ Z Hs e σ H, StOk C Z Hs e σ H → ∀ s y b c Q, Rep C.K C.sc Hs b y → f s b = some c → WE C Z σ Hs H (rD C) (.ok c e) Q → r (.str (sOf s)) [y] H Q)
    (ha : SE C ta ma) (hb : SE C tb mb) : SE C (tM1 r ta tb) (mM1 f ma mb) := fun Z Hs e σ H k Q w =>
  ha Z Hs e σ H k _ (we_bind (fun a e1 x Hs1 H1 _ k1 r1 w1 => by
    cases a with
    | str s =>
      have rx : x = .str (sOf s) := by simpa only [rD, Rep] using r1
      subst rx
      refine ⟨⟨_, rfl⟩, hb Z Hs1 e1 σ H1 k1 _ (we_bind (fun b e2 y Hs2 H2 p2 k2 r2 w2 => ?_) w1)⟩
      obtain ⟨c, hc, w3⟩ := we_of w2
      exact hr Z Hs2 e2 σ H2 k2 s y b c Q r2 hc w3
    | _ => exact w1.elim) w)
theorem seo_m1 {r : V → List V → Hp → VK → Prop} {f : List Nat → Dv → Option (List Dv)} {ta tb : TE} {ma mb : ME Dv} (hr : ∀ Z Hs e σ H, StOk C Z Hs e σ H → ∀ s y b c Q, Rep C.K C.sc Hs b y → f s b = some c → WE C Z σ Hs H (rO C Z σ) (.ok (.lst c) e) Q → r (.str (sOf s)) [y] H Q)
    (ha : SE C ta ma) (hb : SE C tb mb) : SEO C (tM1 r ta tb) (mM1N f ma mb) := fun Z Hs e σ H k Q w =>
  ha Z Hs e σ H k _ (we_bind (fun a e1 x Hs1 H1 _ k1 r1 w1 => by
    cases a with
    | str s =>
      have rx : x = .str (sOf s) := by simpa only [rD, Rep] using r1
      subst rx
      refine ⟨⟨_, rfl⟩, hb Z Hs1 e1 σ H1 k1 _ (we_bind (fun b e2 y Hs2 H2 p2 k2 r2 w2 => ?_) w1)⟩
      obtain ⟨o, ho, w3⟩ := we_of w2
      obtain ⟨c, hc, rfl⟩ := Option.map_eq_some_iff.mp ho
      exact hr Z Hs2 e2 σ H2 k2 s y b c Q r2 hc w3
    | _ => exact w1.elim) w)
/-- s.join(list) -/
theorem se_join {ta tb : TE} {ma mb : ME Dv} (hK : C.K = K) (ha : SE C ta ma) (hb : SE C tb mb) : SE C (tM1 (fun x xs H Q => ∃ a p, ∃ ys : List Str, x = .str a ∧ xs = [.ref p] ∧ (SqL K H p (ys.map V.str) ∨ SqT K H p (ys.map V.str)) ∧
      (ys.map (·.length)).sum + ys.length * a.length ≤ 16777216 ∧ Q (.str (PySem.Txt.join a ys)) H) ta tb) (mM1 oJoin ma mb) := se_m1 (fun Z Hs2 e2 σ H2 k2 s y b c Q r2 hc w3 => by
  unfold oJoin at hc
  split at hc
  · rename_i ds
    obtain ⟨xs, hx, hc⟩ := Option.bind_eq_some_iff.mp hc
    split at hc
    · rename_i hl
      cases hc
      simp only [Rep] at r2
      obtain ⟨p, zs, rfl, hz, rz⟩ := r2
      have ez := strs_of hx rz
      subst ez
      refine ⟨sOf s, p, xs.map sOf, rfl, rfl, .inl (SqL.of (k2.le _ _ hz)), ?_, we_ok w3 k2 ?_⟩
      · have e1 : (xs.map sOf).map (·.length) = xs.map List.length := by
          rw [List.map_map]; exact List.map_congr_left fun a _ => slen a
        rw [e1, List.length_map, slen]
        exact Nat.le_trans hl (by decide)
      · simp only [rD, Rep]
        congr 1
        rw [TL.join_eq]
        refine TL.ext_tl ?_
        rw [TL.tl_join]
        have e2 : (xs.map sOf).map TL.tl = xs := by
          rw [List.map_map]
          conv => rhs; rw [← List.map_id xs]
          exact List.map_congr_left fun a _ => rfl
        rw [e2]
        exact join_tl s xs
    · cases hc
  · cases hc) ha hb
theorem spl_one (c : Nat) : ∀ (l acc : List Nat), TL.spl [c] 0 acc l = splitN c acc l
  | [], acc => by rw [TL.spl_nil]; rfl
  | x :: r, acc => by
    unfold splitN
    by_cases h : x = c
    · rw [if_pos h, TL.spl_hit (by subst h; simp [TL.pre])]
      show acc :: TL.spl [c] 0 [] r = _
      rw [spl_one c r []]
    · rw [if_neg h, TL.spl_miss (by simpa [TL.pre] using h), spl_one c r (acc ++ [x])]
/-- s.split(sign) -/
theorem seo_split {ta tb : TE} {ma mb : ME Dv} (ha : SE C ta ma) (hb : SE C tb mb) : SEO C (tM1 (fun x xs H Q => ∃ a b, x = .str a ∧ xs = [.str b] ∧ (b.length == 0) = false ∧ a.length + 2 ≤ sizeLine ∧ rNewStrs (PySem.Txt.split a b) H Q) ta tb) (mM1N oSplit ma mb) := seo_m1 (fun Z Hs2 e2 σ H2 k2 s y b c Q r2 hc w3 => by
  unfold oSplit at hc
  split at hc
  · rename_i ch
    split at hc
    · rename_i hl
      cases hc
      simp only [Rep] at r2
      subst r2
      refine ⟨sOf s, sOf [ch], rfl, rfl, rfl, by rw [slen]; exact lim_line hl.2, fun p hp => ?_⟩
      have es : (PySem.Txt.split (sOf s) (sOf [ch])).map TL.tl = splitN ch [] s := by
        rw [TL.split_spl _ _ (by simp [TL.tl]) (TL.kind_ok (by simp; omega))]
        exact spl_one ch s []
      refine we_newO w3 k2 hp ?_
      rw [← es, List.map_map]
      have : ∀ l : List Str, Reps C.K C.sc Hs2 (l.map (Dv.str ∘ TL.tl)) (l.map V.str) := by
        intro l
        induction l with
        | nil => exact reps_nil
        | cons z l ih => exact reps_cons (by simp only [Function.comp, Rep]) ih
      exact this _
    · cases hc
  · cases hc) ha hb
/-- list(a text) -/
theorem rn_listS : RCN C (fun xs H Q => ∃ z : Str, xs = [V.str z] ∧ z.length ≤ sizeLine ∧ ∀ l, H l = none → Q (.ref l) (upd H l (.lst (z.cps.toList.map fun c => V.str ⟨#[c]⟩)))) listS := fun Z Hs e σ H k x a c Q ra hf w => by
  unfold listS at hf
  split at hf
  · split at hf
    · rename_i s hl
      cases hf
      simp only [Rep] at ra; subst ra
      refine ⟨_, rfl, by rw [slen]; exact lim_line hl, fun l hp => we_newO w k hp ?_⟩
      have : ∀ l : List Nat, Reps C.K C.sc Hs (l.map fun c => Dv.str [c]) (l.map fun c => V.str ⟨#[c]⟩) := by
        intro l
        induction l with
        | nil => exact reps_nil
        | cons z l ih => exact reps_cons (by simp only [Rep]) ih
      exact this s
    · cases hf
  · cases hf
/-! ### slices -/
def SO (C : Cc) (t : TO) (m : ME (Option Int)) : Prop := ∀ Z Hs e σ H, StOk C Z Hs e σ H → ∀ Q, WE C Z σ Hs H (fun o _ o' _ _ => o = o') (m e) Q → t σ H Q
theorem so_none : SO C tNoPart (mPart none) := fun Z Hs e σ H k Q w => we_ok w k rfl
theorem so_some {te : TE} {me : ME Dv} (h : SE C te me) : SO C (tPart te) (mPart (some me)) := fun Z Hs e σ H k Q w =>
  h Z Hs e σ H k _ (we_bind (fun a e1 x Hs1 H1 _ k1 r1 w1 => by
    cases a with
    | int n =>
      have rx : x = .int n := by simpa only [rD, Rep] using r1
      subst rx
      exact ⟨n, rfl, we_ok w1 k1 rfl⟩
    | _ => exact w1.elim) w)
theorem sIx_eq (n d : Nat) (o : Option Int) : sIx n d o = HT.sIx n d o := by
  cases o <;> rfl
theorem se_slS {te : TE} {me : ME Dv} {tl th : TO} {ml mh : Option (ME Dv)} (h : SE C te me) (hl : SO C tl (mPart ml)) (hh : SO C th (mPart mh)) : SE C (tSl rSlS te tl th) (mSl slS me ml mh) := fun Z Hs e σ H k Q w =>
  h Z Hs e σ H k _ (we_bind (fun a e1 x Hs1 H1 p1 k1 r1 w1 => hl Z Hs1 e1 σ H1 k1 _ (we_bind (fun lo e2 lo' Hs2 H2 p2 k2 r2 w2 => hh Z Hs2 e2 σ H2 k2 _ (we_bind (fun hi e3 hi' Hs3 H3 p3 k3 r3 w3 => by
    have r2 : lo = lo' := r2
    have r3 : hi = hi' := r3
    subst r2; subst r3
    obtain ⟨c, hc, w4⟩ := we_of w3
    unfold slS at hc
    split at hc
    · split at hc
      · rename_i hlen
        cases hc
        simp only [rD, Rep] at r1
        subst r1
        refine ⟨_, rfl, by rw [slen]; exact lim_line hlen, we_ok w4 k3 ?_⟩
        simp only [rD, Rep]
        rfl
      · cases hc
    · cases hc) w2)) w1)) w)
/-! ### isinstance -/
theorem r2_isT (hK : C.K = K) {f : Dv → Option Dv} {T : String} (h : ∀ d c, f d = some c → ∃ b, c = .bl b ∧ match d with
    | .tup _ => kitB "tuple" T = some b
    | .lst _ => kitB "list" T = some b
    | .int _ => kitB "int" T = some b
    | .str _ => kitB "str" T = some b
    | .bl _ => kitB "bool" T = some b
    | .non => kitB "NoneType" T = some b
    | .scr _ => False) {ta : TE} {ma : ME Dv} (ha : SE C ta ma) : SE C (tCB (rIsi K) (tCons ta (tCons (tC (.ty T)) tNil))) (mO1 f ma) := fun Z Hs e σ H k Q w =>
  ha Z Hs e σ H k _ (we_bind (fun a e1 x Hs1 H1 _ k1 r1 w1 => by
    subst hK
    obtain ⟨c, hc, w2⟩ := we_of w1
    obtain ⟨b, rfl, hb⟩ := h a c hc
    have fin : ∀ (t : PySem.Value), TyX C.K H1 x t → PySem.W.kitOne C.K t (.type T) = some b → (rIsi C.K) [x, .ty T] H1 Q := fun t h1 h2 => ⟨x, .ty T, t, .type T, b, rfl, .ty T, h1, h2, we_ok w2 k1 (by simp only [rD, Rep])⟩
    cases a with
    | tup ds =>
      simp only [rD, Rep] at r1
      obtain ⟨p, xs, rfl, hx, rx⟩ := r1
      have hx := sqt_le k1.le hx
      rcases hx with (hx | ⟨o, hx⟩) | ⟨o, its, n, hk, hcl, _⟩
      · exact fin _ (.base (.tup hx)) (kit_ty hb)
      · exact fin _ (.fTuple hx) (kit_ty hb)
      · exact fin _ (.kTuple hk hcl) (kit_ty hb)
    | lst ds =>
      simp only [rD, Rep] at r1
      obtain ⟨p, xs, rfl, hx, rx⟩ := r1
      exact fin _ (.base (.lst (k1.le _ _ hx))) (kit_ty hb)
    | int i => simp only [rD, Rep] at r1; subst r1; exact fin _ (.base (.int i)) (kit_ty hb)
    | str s => simp only [rD, Rep] at r1; subst r1; exact fin _ (.base (.str _)) (kit_ty hb)
    | bl b' => simp only [rD, Rep] at r1; subst r1; exact fin _ (.base (.bl b')) (kit_ty hb)
    | non => simp only [rD, Rep] at r1; subst r1; exact fin _ (.base .non) (kit_ty hb)
    | scr ns => exact hb.elim) w)
theorem se_isT (hK : C.K = K) {ta : TE} {ma : ME Dv} (ha : SE C ta ma) : SE C (tCB (rIsi K) (tCons ta (tCons (tC (.ty "tuple")) tNil))) (mO1 oIsT ma) := r2_isT hK (fun d c h => match d, h with
  | .tup ds, h => by cases h; exact ⟨_, rfl, (by decide +kernel : kitB "tuple" "tuple" = some true)⟩
  | .lst ds, h => by cases h; exact ⟨_, rfl, (by decide +kernel : kitB "list" "tuple" = some false)⟩
  | .int i, h => by cases h; exact ⟨_, rfl, (by decide +kernel : kitB "int" "tuple" = some false)⟩
  | .str x, h => by cases h; exact ⟨_, rfl, (by decide +kernel : kitB "str" "tuple" = some false)⟩
  | .bl x, h => by cases h; exact ⟨_, rfl, (by decide +kernel : kitB "bool" "tuple" = some false)⟩
  | .non, h => by cases h; exact ⟨_, rfl, (by decide +kernel : kitB "NoneType" "tuple" = some false)⟩
  | .scr ns, h => by cases h) ha
theorem se_isS (hK : C.K = K) {ta : TE} {ma : ME Dv} (ha : SE C ta ma) : SE C (tCB (rIsi K) (tCons ta (tCons (tC (.ty "str")) tNil))) (mO1 oIsS ma) := r2_isT hK (fun d c h => match d, h with
  | .tup ds, h => by cases h; exact ⟨_, rfl, (by decide +kernel : kitB "tuple" "str" = some false)⟩
  | .lst ds, h => by cases h; exact ⟨_, rfl, (by decide +kernel : kitB "list" "str" = some false)⟩
  | .int i, h => by cases h; exact ⟨_, rfl, (by decide +kernel : kitB "int" "str" = some false)⟩
  | .str x, h => by cases h; exact ⟨_, rfl, (by decide +kernel : kitB "str" "str" = some true)⟩
  | .bl x, h => by cases h; exact ⟨_, rfl, (by decide +kernel : kitB "bool" "str" = some false)⟩
  | .non, h => by cases h; exact ⟨_, rfl, (by decide +kernel : kitB "NoneType" "str" = some false)⟩
  | .scr ns, h => by cases h) ha
end
end Ml

set_option linter.all false
set_option autoImplicit false
set_option maxRecDepth 100000
set_option maxHeartbeats 1000000
/-! Defs by their names, and the law's own end. -/
namespace Ml
open PySem PySem.Spec PyProof.Rows L2

section
variable {P : Program} {w : World} {K : PySem.W.Frag} {mg : Str → Option Value} {base : Heap}
/-- a def of the text, under its name -/
def DefK (K : PySem.W.Frag) (x : Str) (st : Stmt) : Prop := ∃ f fd, PySem.W.nsIn K mainGlobals x = some (some (.ref f)) ∧ Fun K x x st f fd
theorem defK_mk {x : Str} {st : Stmt} {f : Addr} {oc : Value} {od an : Option Addr} {osl : Array (Option Value)} {kV doc pm cdv ct : Value} (a : PySem.W.nsIn K mainGlobals x = some (some (.ref f)))
    (l : K.lookup f = some ⟨oc, od, .func (PySem.W.fnOf x x (defArgs st) (defBody st) (defScope st) .none kV doc pm an cdv ct), osl⟩) (c : PySem.W.codeIn K cdv x = true) (k : PySem.W.keepIn K (.ref f) = true) : DefK K x st :=
  ⟨f, _, a, fun_mk l c k⟩
abbrev FreeK (K : PySem.W.Frag) (x : Str) : Prop := PySem.W.nsIn K mainGlobals x = some none
def ConK (K : PySem.W.Frag) (x : Str) (v : V) : Prop := ∃ u, PySem.W.nsIn K mainGlobals x = some (some u) ∧ RelV v u
theorem conK_s {x s : Str} {t : Tok} (a : PySem.W.nsIn K mainGlobals x = some (some (.str s t))) : ConK K x (.str s) := ⟨_, a, t, rfl⟩
theorem conK_i {x : Str} {s : Int} {t : Tok} (a : PySem.W.nsIn K mainGlobals x = some (some (.int s t))) : ConK K x (.int s) := ⟨_, a, t, rfl⟩
/-- what the module's names hold -/
structure Mg (K : PySem.W.Frag) (mg : Str → Option Value) : Prop where
  get : ∀ {y u}, PySem.W.nsIn K mainGlobals y = some (some u) → mg y = some u
  none : ∀ {y}, PySem.W.nsIn K mainGlobals y = some none → mg y = none
theorem mg_mk {h : Heap} (X : K.In h) (G : h.Ns mainGlobals mg) : Mg K mg := ⟨fun a => PySem.W.mg_of X G a, fun a => PySem.W.mg_none_of X G a⟩
theorem Mg.con {x : Str} {v : V} (M : Mg K mg) (c : ConK K x v) : ∃ u, mg x = some u ∧ RelV v u := let ⟨u, a, r⟩ := c; ⟨u, M.get a, r⟩
theorem Mg.free {x : Str} (M : Mg K mg) (c : FreeK K x) : mg x = Option.none := M.none c

/-- a def that may be called by its name -/
structure Kept (P : Program) (w : World) (K : PySem.W.Frag) (mg : Str → Option Value) (base : Heap) (CX : CXT) (k : Nat) (x : Str) (sp : Sp) : Prop where
  ex : ∃ (f : Addr) (fd : FuncData) (ps : List Str), FnOk P w K mg base CX k f fd ps sp ∧ mg x = some (.ref f) ∧ PySem.W.keepIn K (.ref f) = true ∧ Binds K fd ps []
theorem pass00 {X : Cx} {E : XK} : Passes CX0 X E := fun _ _ _ _ _ _ _ h => h.elim
/-- a def keeps its mirror -/
theorem cl_of {x : Str} {st : Stmt} {N ps : List Str} {k : Nat} {RE : Err → Value → Option Addr → Hp → Hp → Prop} {F : Fn} {np nl : Nat} {m : MS} (D : DefK K x st) (M : Mg K mg)
    (hb : ∀ (kV doc pm : Value) (an : Option Addr) (cdv ct : Value) (us : List Value), us.length = ps.length → bindArgs (PySem.W.fnOf x x (defArgs st) (defBody st) (defScope st) .none kV doc pm an cdv ct) ⟨us, []⟩ = pure (ps.zip us))
    (S : FnScope N ps (defScope st)) (hF : F = mkFn np nl m) (hN : N.length = np + nl) (hp : ps.length = np)
    (hbody : ∀ (f : Addr) (cdv : Value) (A' : Around) (outer : List Env) (s : Shared) (H : Hp) (E : XK), Room k (A'.deeper (envOfC x (defScope st) s.heap.objs.size f cdv)) →
      ∃ A t, PSs (cxOf CX0 P w K mg base N x (defScope st) f cdv A' outer s H E).nox (defBody st) t ∧ ∀ sc Hs Ps, SS ⟨K, sc, H, Ps, Hs, E, RE⟩ A t m) : Kept P w K mg base CX0 (k + 1) x (spM K RE F) := by
  obtain ⟨f, fd, hn, Fd⟩ := D
  refine ⟨f, fd, ps, ?_, M.get hn, Fd.kp, Fd.binds hb⟩
  refine Fd.ok S (fun vs H Q E h => by rw [spM_len hF h, hp]) fun cdv A' outer s H vs Q E hr h => ?_
  obtain ⟨A, t, h1, h2⟩ := hbody f cdv A' outer s H E hr
  exact ⟨t, h1, fn_red hF hN h fun sc Hs Ps => h2 sc Hs Ps⟩
end
section
variable {X : Cx} {CX : CXT} {k j : Nat} {x : Str} {sp : Sp} {E : XK} {p pos : Pos} {e : Expr} {es : List Expr} {t : TA}
theorem pe_cl (c : Kept X.prog X.w X.K X.mg X.base CX k x sp) (hr : Room j X.A) (hk : k ≤ j) (hg : Gl X x) (hx : Passes CX X E) (ha : PA X (e :: es) t)
    (hdb : (x == ("__debug__" : Str)) = false := by decide) (he : starEach (e :: es) X.env = (false, eval e X.env) :: starEach es X.env := by rfl) (hpl : (backTo pos (starEach es X.env)).any (·.1) = false := by rfl) :
    PE X (.Call (.Name x p) (e :: es) [] pos) (tCall sp [] E t) := by
  obtain ⟨f, fd, ps, F, hm, kp, b⟩ := c.ex
  exact pe_call F (hr.mono hk) hg hm kp b .nil hx ha hdb he hpl
theorem pe_cl0 (c : Kept X.prog X.w X.K X.mg X.base CX k x sp) (hr : Room j X.A) (hk : k ≤ j) (hg : Gl X x) (hx : Passes CX X E)
    (hdb : (x == ("__debug__" : Str)) = false := by decide) : PE X (.Call (.Name x p) [] [] pos) (tCall sp [] E tNil) := by
  obtain ⟨f, fd, ps, F, hm, kp, b⟩ := c.ex
  exact pe_call0 F (hr.mono hk) hg hm kp b .nil hx hdb
end
/-! ### the readings with the written part by its name -/
abbrev rLenK (K : PySem.W.Frag) : List V → Hp → VK → Prop := fun xs H Q => ∃ x n, xs = [x] ∧ LenV K x H n ∧ Q (.int n) H
abbrev rTupK (K : PySem.W.Frag) : List V → Hp → VK → Prop := fun xs H Q => ∃ p ys, xs = [.ref p] ∧ ((SqL K H p ys ∧ ∀ l, H l = none → Q (.ref l) (upd H l (.tup ys))) ∨ (SqT K H p ys ∧ Q (.ref p) H))
abbrev tTr (K : PySem.W.Frag) (ta : TE) : TT := fun σ H Q => ta σ H fun x H' => ∃ k, TruV K x H' k ∧ Q k H'
section
variable {X : Cx} {K : PySem.W.Frag} {a : Expr} {ta : TE} {pos : Pos}
theorem pt_tr (hK : X.K = K) (ha : PE X a ta) (he : ∀ whole, isTrue a X.env whole = (do let v ← whole; standAt a.pos; holding [v] (truthy v))) : PT X a (tTr K ta) := by
  subst hK; exact pt_truth ha he
theorem pg_tupK (hK : X.K = K) {es : List Expr} {k : Nat} {t : TGs} {n : Nat} (hc : X.calm = true) (h : PGs X es t)
    (hn : (assignEach es X.env).length = n := by rfl) (hst : (assignEach es X.env).findIdx? (·.1) = none := by rfl) : PG X (.Tuple es k pos) (gTup K n t) := by
  subst hK; exact pg_tup hc h hn hst
theorem ixK (hK : X.K = K) : IxR X (rIx K) := by subst hK; exact ix_seq
theorem ixL (hK : X.K = K) : IxR X (rIxL K) := by subst hK; exact ix_list
theorem lenK (hK : X.K = K) : CallR X (.builtin "len") (rLenK K) := by subst hK; exact call_len
theorem tupK (hK : X.K = K) : CallR X (.type "tuple") (rTupK K) := by subst hK; exact call_tuple_of
theorem isiK (hK : X.K = K) : CallR X (.builtin "isinstance") (rIsi K) := by subst hK; exact call_isi
theorem allK (hK : X.K = K) (hc : X.calm = true) : CallR X (.builtin "all") (rAll K) := by subst hK; exact cr_all hc
theorem getK (hK : X.K = K) : PGet X (rIxL K) := by subst hK; exact get_list
end
/-! ### lists put together -/
section
variable {C : Cc}
theorem rv_ipadd : RV C (ipI fun i j => i + j) oAddI := fun Z Hs e σ H k x y a b c Q ra rb hf w => by
  unfold oAddI at hf
  split at hf
  · cases hf
    simp only [Rep] at ra rb; subst ra; subst rb
    exact ⟨_, _, rfl, rfl, we_ok w k (by simp only [rD, Rep])⟩
  · cases hf
theorem rv_ipsub : RV C (ipI fun i j => i - j) oSub := fun Z Hs e σ H k x y a b c Q ra rb hf w => by
  unfold oSub at hf
  split at hf
  · cases hf
    simp only [Rep] at ra rb; subst ra; subst rb
    exact ⟨_, _, rfl, rfl, we_ok w k (by simp only [rD, Rep])⟩
  · cases hf
theorem rv_addS0 : RV C (fun x y H Q => ∃ i j, x = .str i ∧ y = .str j ∧ i.length + j.length ≤ sizeLine ∧ Q (.str (i ++ j)) H) oAddS := rv_addS
theorem rn_cat : RN2 C rCat oCat := fun Z Hs e σ H k x y a b c Q ra rb hf w => by
  unfold oCat at hf
  split at hf
  · split at hf
    · rename_i hl
      cases hf
      simp only [Rep] at ra rb
      obtain ⟨p, xs, rfl, hx, rx⟩ := ra
      obtain ⟨q, ys, rfl, hy, ry⟩ := rb
      exact ⟨p, q, xs, ys, rfl, rfl, k.le _ _ hx, k.le _ _ hy, by rw [reps_len rx, reps_len ry]; exact lim_line hl, fun l hl => we_newO w k hl (reps_app rx ry)⟩
    · cases hf
  · cases hf
end

/-! ### the law: what it begins with, and its end -/
def spBegin (K : PySem.W.Frag) : Sp := fun vs H Q _ => ∃ (a : Addr) (ns : List Int), vs = [.ref a] ∧ SqL K H a (ns.map V.int) ∧ ns.length ≤ 63 ∧
  ∀ p sc H', Le H H' → H sc = none → H p = none → p ≠ sc → H' sc = some (.lst (ns.map V.int)) → H' p = some (.lst [.ref sc, .int 0, .int 0, .int 7]) → Q (.ref p) H'
theorem begin_red {K : PySem.W.Frag} {vs : List V} {H : Hp} {Q : VK} {E : XK} (h : spBegin K vs H Q E) :
    (tRet (tLst (tCons (tLc (iList K (tVar 0)) (gName 1) tYes (tCB (fun xs H Q => (∃ i, xs = [.int i] ∧ Q (.int i) H) ∨ ∃ k, xs = [.bl k] ∧ Q (.int (if k then 1 else 0)) H) (tCons (tVar 1) tNil)) [1]) (tCons (tC (.int 0)) (tCons (tC (.int 0)) (tCons (tC (.int 7)) tNil)))))
      { nx := fun _ H' => Q .non H', rt := Q } (L2.start ["_law_script", "_law_cell"] vs) H) := by
  obtain ⟨a, ns, rfl, hS, hl, q⟩ := h
  refine ⟨.ref a, rfl, a, rfl, ⟨_, hS⟩, fun D hD => lc_list (K := K) (a := a) (xs := ns.map V.int) (fun i H' => Le H H' ∧ H' D = some (.lst ((ns.take i).map V.int))) ⟨Le.new hD, by rw [upd_same]; rfl⟩ (fun i H' _ p => Same.seq p.1 hS) (fun i x H' hx p => ?_) fun H' p => ?_⟩
  · rw [List.getElem?_map] at hx
    obtain ⟨n, hn, rfl⟩ := Option.map_eq_some_iff.mp hx
    refine ⟨rfl, .int n, rfl, .inl ⟨n, rfl, _, p.2, ?_, ?_, ?_⟩⟩
    · rw [List.length_map, List.length_take]
      exact Nat.lt_of_le_of_lt (Nat.min_le_right _ _) (small1000 (by omega))
    · exact fun b o e => by rw [upd_ne (ne_of_none e hD)]; exact p.1 b o e
    · rw [upd_same, List.take_add_one, hn, List.map_append]; rfl
  · have e : ns.take (ns.map V.int).length = ns := List.take_of_length_le (by rw [List.length_map]; exact Nat.le_refl _)
    rw [e] at p
    refine ⟨by show 4 ≤ sizeLine; decide, fun l hl' => ?_⟩
    have nd : l ≠ D := fun z => by rw [z, p.2] at hl'; cases hl'
    exact q l D _ (Le.trans p.1 (Le.new hl')) hD (le_none p.1 hl') nd (by rw [upd_ne (Ne.symm nd)]; exact p.2) upd_same
def spLaw (K : PySem.W.Frag) : Sp := fun vs H Q _ => ∃ (a : Addr) (ns : List Int), vs = [.ref a] ∧ SqL K H a (ns.map V.int) ∧ ns.length ≤ 63 ∧ ∀ H', Q (.bl true) H'
theorem law_red {K : PySem.W.Frag} {RE : Err → Value → Option Addr → Hp → Hp → Prop} {N : List Str} {nl : Nat} {A : List Nat} {t : TS} {m : MS} {E' : XK} {vs : List V} {H : Hp} {Q : VK} {E : XK} (hN : N.length = 2 + nl)
    (hm : ∀ ns : List Int, ns.length ≤ 63 → ∃ e, m (lawE ns nl) = .rt (.fz (.bl true)) e) (h : ∀ sc Hs Ps H, SS ⟨K, sc, H, Ps, Hs, E, RE⟩ A t m) (hs : spLaw K vs H Q E) :
    tSeq (tAsg (tCall (spBegin K) [] E' (tCons (tVar 0) tNil)) (gName 1)) t { nx := fun _ H' => Q .non H', rt := Q } (L2.start N vs) H := by
  obtain ⟨a, ns, rfl, hS, hl, q⟩ := hs
  have est : L2.start N [V.ref a] = some (V.ref a) :: none :: List.replicate nl none := by
    unfold L2.start
    rw [hN]
    have : 2 + nl - [V.ref a].length = nl + 1 := by simp; omega
    rw [this]
    rfl
  rw [est]
  refine ⟨.ref a, rfl, a, ns, rfl, hS, hl, fun p sc H' hle h1 h2 hne h3 h4 => ?_⟩
  obtain ⟨e, he⟩ := hm ns hl
  have hsc : ∀ b, (if b = sc then some (HO.lst (ns.map V.int)) else none) ≠ none → b = sc := fun b hb => by
    by_cases z : b = sc
    · exact z
    · rw [if_neg z] at hb; exact absurd rfl hb
  have k : StOk ⟨K, sc, H, [], fun _ => none, E, RE⟩ (fun _ => none) (fun b => if b = sc then some (HO.lst (ns.map V.int)) else none) (lawE ns nl) (some (V.ref a) :: some (V.ref p) :: List.replicate nl none) H' := by
    refine ⟨by simp [lawE], fun b o hb => ?_, fun i s hs => ?_, fun i i' j j' o o' q' g1 g2 g3 g4 => ?_, fun b o hb _ => hle b o hb, fun b hb => ?_, fun b hb => ?_, fun b hb => absurd hb List.not_mem_nil, (fun b o hb => nomatch hb), fun _ _ _ _ _ _ => rfl⟩
    · have := hsc b (by rw [hb]; exact fun z => nomatch z)
      subst this
      rw [if_pos rfl] at hb
      rw [h3]; exact hb
    · match i, hs with
      | 0, hs => cases hs; trivial
      | 1, hs =>
        cases hs
        refine ⟨p, rfl, by show (if p = sc then _ else none) = none; rw [if_neg hne], ⟨_, h4, ?_⟩, h2⟩
        refine reps_cons ?_ (reps_cons (by simp only [Rep]) (reps_cons (by simp only [Rep]) (reps_cons (by simp only [Rep]) reps_nil)))
        simp only [Rep]
        exact ⟨trivial, if_pos trivial⟩
      | i + 2, hs =>
        have hs : (List.replicate nl Slt.un)[i]? = some s := hs
        rw [List.getElem?_replicate] at hs
        split at hs
        · cases hs; trivial
        · cases hs
    · have one : ∀ {i : Nat} {j o}, (lawE ns nl)[i]? = some (Slt.ow j o) → i = 1 := fun {i j o} g => by
        match i, g with
        | 0, g => cases g
        | 1, _ => rfl
        | i + 2, g =>
          have g : (List.replicate nl Slt.un)[i]? = some (Slt.ow j o) := g
          rw [List.getElem?_replicate] at g
          split at g <;> cases g
      rw [one g1, one g2]
    · cases z : H b with
      | none => exact absurd z hb
      | some u => rw [hle b u z]; exact fun z => nomatch z
    · have := hsc b hb
      subst this
      exact .inr h1
  show t _ (some (V.ref a) :: some (V.ref p) :: List.replicate nl none) H'
  refine h sc _ [] H _ _ _ _ H' k _ ?_
  rw [he]
  intro v Hs' σ' H2 _ _ r
  have r : Rep K sc Hs' (.bl true) v := r
  simp only [Rep] at r
  subst r
  exact q H2
end Ml

set_option linter.all false
set_option maxRecDepth 10000
/-! The draws, as every law makes them. -/
namespace Ml
def drawM : MS :=
  (sSeq (sIf (mTest (mO2 oGt (mOwn2 0 wIx (mC (.int 2))) (mC (.int 0))))
  (sSeq (sSet (mOwn2 0 wIx (mC (.int 2))) (gN 2))
  (sSeq (sPut 0 (mC (.int 2)) (mO2 oDiv (mVar 2) (mVar 1)))
  (sRet (mO2 oMod (mO1 oInt (mVar 2)) (mVar 1)))))
  sNil)
  (sSeq (sSet (mC (.int 0)) (gN 3))
  (sSeq (sIf (mTest (mO2 oLt (mOwn2 0 wIx (mC (.int 1))) (mO1 oLen (mOwn2 0 wIx (mC (.int 0))))))
  (sSeq (sSet (mO2 oIx (mOwn2 0 wIx (mC (.int 0))) (mOwn2 0 wIx (mC (.int 1)))) (gN 4))
  (sSet (mO2 oAdd (mO2 oMul (mC (.int 2)) (mO1 oAbs (mVar 4))) (mO1 oInt (mO2 oLt (mVar 4) (mC (.int 0))))) (gN 3)))
  sNil)
  (sSeq (sPutAug 0 (mC (.int 1)) oAddI (mC (.int 1)))
  (sSeq (sIf (mTest (mO2 oGe (mVar 3) (mO2 oMul (mC (.int 2)) (mO2 oPow (mC (.int 10)) (mC (.int 18))))))
  (sSeq (sSet (mO2 oMod (mO1 oInt (mO2 oDiv (mVar 3) (mC (.int 2)))) (mO2 oShl (mC (.int 1)) (mC (.int 6000)))) (gN 2))
  (sSeq (sPut 0 (mC (.int 2)) (mO2 oDiv (mVar 2) (mVar 1)))
  (sRet (mO2 oMod (mO1 oInt (mVar 2)) (mVar 1)))))
  sNil)
  (sSeq (sPut 0 (mC (.int 3)) (mO2 oMod (mO1 oInt (mO2 oAdd (mO2 oAdd (mO2 oAdd (mO2 oMul (mOwn2 0 wIx (mC (.int 3))) (mC (.int 48271))) (mO2 oMul (mO2 oMod (mO1 oInt (mVar 3)) (mC (.int 2147483629))) (mC (.int 16807)))) (mO2 oMul (mOwn2 0 wIx (mC (.int 1))) (mC (.int 69621)))) (mC (.int 11)))) (mC (.int 2147483647))))
  (sRet (mO2 oMod (mO1 oInt (mO2 oDiv (mOwn2 0 wIx (mC (.int 3))) (mC (.int 16)))) (mVar 1)))))))))
def drawF : Fn := mkFn 2 3 drawM
/-- the state of the draws -/
def Dr (ns : List Int) (ds : List Dv) : Prop := ∃ i l s : Int, ds = [.scr ns, .int i, .int l, .int s] ∧ 0 ≤ i ∧ 0 ≤ l ∧ 0 ≤ s
theorem fmod_b (a : Int) {m : Int} (h : 1 ≤ m) : 0 ≤ a.fmod m ∧ a.fmod m < m := ⟨Int.fmod_nonneg_of_pos a (by omega), Int.fmod_lt_of_pos a (by omega)⟩
theorem fdiv_n {a m : Int} (ha : 0 ≤ a) (h : 1 ≤ m) : 0 ≤ a.fdiv m := Int.fdiv_nonneg ha (by omega)
def drawR : MS :=
  (sSeq (sPutAug 0 (mC (.int 1)) oAddI (mC (.int 1)))
  (sSeq (sIf (mTest (mO2 oGe (mVar 3) (mO2 oMul (mC (.int 2)) (mO2 oPow (mC (.int 10)) (mC (.int 18))))))
  (sSeq (sSet (mO2 oMod (mO1 oInt (mO2 oDiv (mVar 3) (mC (.int 2)))) (mO2 oShl (mC (.int 1)) (mC (.int 6000)))) (gN 2))
  (sSeq (sPut 0 (mC (.int 2)) (mO2 oDiv (mVar 2) (mVar 1)))
  (sRet (mO2 oMod (mO1 oInt (mVar 2)) (mVar 1)))))
  sNil)
  (sSeq (sPut 0 (mC (.int 3)) (mO2 oMod (mO1 oInt (mO2 oAdd (mO2 oAdd (mO2 oAdd (mO2 oMul (mOwn2 0 wIx (mC (.int 3))) (mC (.int 48271))) (mO2 oMul (mO2 oMod (mO1 oInt (mVar 3)) (mC (.int 2147483629))) (mC (.int 16807)))) (mO2 oMul (mOwn2 0 wIx (mC (.int 1))) (mC (.int 69621)))) (mC (.int 11)))) (mC (.int 2147483647))))
  (sRet (mO2 oMod (mO1 oInt (mO2 oDiv (mOwn2 0 wIx (mC (.int 3))) (mC (.int 16)))) (mVar 1))))))
theorem drawR_ok {ns : List Int} {i l s z m : Int} {x : Slt} (h1 : 1 ≤ m) (h2 : m < 1073741824) (hi : 0 ≤ i) (hl : 0 ≤ l) (hs : 0 ≤ s) (hz : 0 ≤ z) :
    ∃ k ds' y w, drawR [.ow (some 0) (.lst [.scr ns, .int i, .int l, .int s]), .fz (.int m), .un, .fz (.int z), x] = .rt (.fz (.int k)) [.ow (some 0) (.lst ds'), .fz (.int m), y, w, x] ∧ 0 ≤ k ∧ k < m ∧ Dr ns ds' := by
  have hm0 : m ≠ 0 := by omega
  have hmb : m.natAbs < 1073741824 := by omega
  generalize hB : (2 : Int) ^ 6000 = B
  have hB1 : 1 ≤ B := by
    rw [← hB]
    have : (0 : Int) < 2 ^ 6000 := Int.pow_pos (by decide)
    omega
  have hB0 : B ≠ 0 := by omega
  by_cases c : (2000000000000000000 : Int) ≤ z
  · refine ⟨((z.fdiv 2).fmod B).fmod m, [.scr ns, .int (i + 1), .int (((z.fdiv 2).fmod B).fdiv m), .int s], .fz (.int ((z.fdiv 2).fmod B)), .fz (.int z), ?_, (fmod_b _ h1).1, (fmod_b _ h1).2, i + 1, _, s, rfl, by omega, fdiv_n (fmod_b _ hB1).1 h1, hs⟩
    simp [drawR, sSeq, sPutAug, isOw, mC, getI, ixn, oAddI, sIf, mTest, mO2, oGe, mVar, oMul, oPow, c, sSet, oMod, oDiv, mO1, oInt, oShl, hB, hB0, nxO, gN, free, sPut, sRet, hm0, hmb, sNil]
  · refine ⟨((((s * 48271 + z.fmod 2147483629 * 16807 + (i + 1) * 69621 + 11).fmod 2147483647).fdiv 16)).fmod m, [.scr ns, .int (i + 1), .int l, .int ((s * 48271 + z.fmod 2147483629 * 16807 + (i + 1) * 69621 + 11).fmod 2147483647)], .un, .fz (.int z), ?_, (fmod_b _ h1).1, (fmod_b _ h1).2, i + 1, l, _, rfl, by omega, hl, (fmod_b _ (by decide)).1⟩
    simp [drawR, sSeq, sPutAug, isOw, mC, getI, ixn, oAddI, sIf, mTest, mO2, oGe, mVar, oMul, oPow, c, sSet, oMod, oDiv, mO1, oInt, oShl, oAdd, mOwn2, mOwn, wIx, nxO, gN, free, sPut, sRet, hm0, hmb, sNil]
theorem draw_ok {ns : List Int} {ds : List Dv} {m : Int} (hd : Dr ns ds) (h1 : 1 ≤ m) (h2 : m < 1073741824) :
    ∃ k ds', drawF [.ow none (.lst ds), .fz (.int m)] = .ok (.fz (.int k)) [.lst ds'] ∧ 0 ≤ k ∧ k < m ∧ Dr ns ds' := by
  obtain ⟨i, l, s, rfl, hi, hl, hs⟩ := hd
  have hm0 : m ≠ 0 := by omega
  have hmb : m.natAbs < 1073741824 := by omega
  by_cases c1 : 0 < l
  · refine ⟨l.fmod m, [.scr ns, .int i, .int (l.fdiv m), .int s], ?_, (fmod_b l h1).1, (fmod_b l h1).2, i, l.fdiv m, s, rfl, hi, fdiv_n hl h1, hs⟩
    simp [drawF, drawM, mkFn, initE, outsE, isArg, sSeq, sIf, mTest, mO2, mOwn2, mOwn, wIx, getI, ixn, mC, oGt, c1, sSet, nxO, gN, free, sPut, isOw, oDiv, oMod, oInt, mO1, mVar, sRet, hm0, hmb]
  · have key : ∃ z x, 0 ≤ z ∧ drawM (initE 0 [.ow none (.lst [.scr ns, .int i, .int l, .int s]), .fz (.int m)] ++ List.replicate 3 .un) = drawR [.ow (some 0) (.lst [.scr ns, .int i, .int l, .int s]), .fz (.int m), .un, .fz (.int z), x] := by
      by_cases c2 : i < ns.length
      · obtain ⟨j, rfl⟩ := Int.eq_ofNat_of_zero_le hi
        have hj : j < ns.length := by omega
        refine ⟨2 * (if ns[j] < 0 then -ns[j] else ns[j]) + (if ns[j] < 0 then 1 else 0), .fz (.int ns[j]), by split <;> omega, ?_⟩
        have hg : getI ns (j : Int) = some ns[j] := by simp [getI, ixn, hj]
        by_cases c3 : ns[j] < 0
        · simp [drawM, initE, sSeq, sIf, mTest, mO2, mOwn2, mOwn, wIx, mC, oGt, c1, sSet, nxO, gN, free, oLt, mO1, oLen, hj, oIx, hg, oAdd, oMul, oAbs, mVar, oInt, c3, sNil, show getI [Dv.scr ns, .int (j : Int), .int l, .int s] 0 = some (.scr ns) from rfl, show getI [Dv.scr ns, .int (j : Int), .int l, .int s] 1 = some (.int j) from rfl, show getI [Dv.scr ns, .int (j : Int), .int l, .int s] 2 = some (.int l) from rfl]
          rfl
        · simp [drawM, initE, sSeq, sIf, mTest, mO2, mOwn2, mOwn, wIx, mC, oGt, c1, sSet, nxO, gN, free, oLt, mO1, oLen, hj, oIx, hg, oAdd, oMul, oAbs, mVar, oInt, c3, sNil, show getI [Dv.scr ns, .int (j : Int), .int l, .int s] 0 = some (.scr ns) from rfl, show getI [Dv.scr ns, .int (j : Int), .int l, .int s] 1 = some (.int j) from rfl, show getI [Dv.scr ns, .int (j : Int), .int l, .int s] 2 = some (.int l) from rfl]
          rfl
      · refine ⟨0, .un, by omega, ?_⟩
        simp [drawM, initE, sSeq, sIf, mTest, mO2, mOwn2, mOwn, wIx, mC, oGt, c1, sSet, nxO, gN, free, oLt, mO1, oLen, c2, sNil, show getI [Dv.scr ns, .int i, .int l, .int s] 0 = some (.scr ns) from rfl, show getI [Dv.scr ns, .int i, .int l, .int s] 1 = some (.int i) from rfl, show getI [Dv.scr ns, .int i, .int l, .int s] 2 = some (.int l) from rfl]
        rfl
    obtain ⟨z, x, hz, e⟩ := key
    obtain ⟨k, ds', y, w, hr, b1, b2, b3⟩ := drawR_ok (ns := ns) (x := x) h1 h2 hi hl hs hz
    refine ⟨k, ds', ?_, b1, b2, b3⟩
    have e2 : drawM (initE 0 [.ow none (.lst [.scr ns, .int i, .int l, .int s]), .fz (.int m)] ++ List.replicate 3 .un) = _ := e.trans hr
    unfold drawF mkFn
    simp only [e2]
    simp [isArg, outsE]
/-- a draw, as it is written in a law: d in slot i -/
theorem call_draw {e e1 : Loc} {i : Nat} {j : Option Nat} {ns : List Int} {ds0 ds : List Dv} {ma : ME Dv} {m : Int} (he : e[i]? = some (.ow j (.lst ds0))) (hd : Dr ns ds) (hm : ma e = .ok (.int m) e1) (he1 : e1[i]? = some (.ow j (.lst ds))) (h1 : 1 ≤ m) (h2 : m < 1073741824) :
    ∃ k ds', mCallD drawF [.own i, .val ma] e = .ok (.int k) (e1.set i (.ow j (.lst ds'))) ∧ 0 ≤ k ∧ k < m ∧ Dr ns ds' := by
  obtain ⟨k, ds', h, b1, b2, b3⟩ := draw_ok hd h1 h2
  refine ⟨k, ds', ?_, b1, b2, b3⟩
  simp [mCallD, mCall, mAs, he, isOw, hm, owns, resolve, he1, h, wback, putO]
end Ml

set_option linter.all false
set_option maxRecDepth 10000
/-! More of what every law draws; loops by what stays true. -/
namespace Ml
def pickM : MS :=
  (sRet (mO2 oIx (mVar 1) (mCallD drawF [.own 0, .val (mO1 oLen (mVar 1))])))
def pickF : Fn := mkFn 2 0 pickM
def rareM : MS :=
  (sRet (mO2 oEq (mCallD drawF [.own 0, .val (mVar 1)]) (mO2 oDiv (mVar 1) (mC (.int 2)))))
def rareF : Fn := mkFn 2 0 rareM
theorem getI_nat {α : Type} {ds : List α} {k : Int} (h : 0 ≤ k) (h2 : k < ds.length) : ∃ x, getI ds k = some x ∧ x ∈ ds := by
  obtain ⟨j, rfl⟩ := Int.eq_ofNat_of_zero_le h
  have hj : j < ds.length := by omega
  exact ⟨ds[j], by simp [getI, ixn, hj], List.getElem_mem hj⟩
theorem getI_of {α : Type} {ds : List α} {j : Nat} (hj : j < ds.length) : getI ds (j : Int) = some ds[j] := by simp [getI, ixn, hj]
theorem pick_ok {ns : List Int} {ds xs : List Dv} (hd : Dr ns ds) (h1 : xs ≠ []) (h2 : xs.length < 1073741824) :
    ∃ x ds', pickF [.ow none (.lst ds), .fz (.lst xs)] = .ok (.fz x) [.lst ds'] ∧ x ∈ xs ∧ Dr ns ds' := by
  have h1 : 1 ≤ (xs.length : Int) := by
    cases xs with
    | nil => exact absurd rfl h1
    | cons => simp; omega
  obtain ⟨k, ds', h, b1, b2, b3⟩ := call_draw (e := [.ow (some 0) (.lst ds), .fz (.lst xs)]) (e1 := [.ow (some 0) (.lst ds), .fz (.lst xs)]) (i := 0) (j := some 0) (ma := mO1 oLen (mVar 1)) (m := xs.length) (by rfl) hd (by rfl) (by rfl) h1 (by omega)
  obtain ⟨x, hx, hm⟩ := getI_nat b1 b2
  refine ⟨x, ds', ?_, hm, b3⟩
  simp [pickF, mkFn, initE, isArg, pickM, sRet, mO2, mVar, h, oIx, hx, outsE]
theorem rare_ok {ns : List Int} {ds : List Dv} {m : Int} (hd : Dr ns ds) (h1 : 1 ≤ m) (h2 : m < 1073741824) :
    ∃ b ds', rareF [.ow none (.lst ds), .fz (.int m)] = .ok (.fz (.bl b)) [.lst ds'] ∧ Dr ns ds' := by
  obtain ⟨k, ds', h, b1, b2, b3⟩ := call_draw (e := [.ow (some 0) (.lst ds), .fz (.int m)]) (e1 := [.ow (some 0) (.lst ds), .fz (.int m)]) (i := 0) (j := some 0) (ma := mVar 1) (m := m) (by rfl) hd (by rfl) (by rfl) h1 h2
  refine ⟨decide (k = m.fdiv 2), ds', ?_, b3⟩
  simp [rareF, mkFn, initE, isArg, rareM, sRet, mO2, mVar, h, oDiv, mC, oEq, eqS, outsE]
/-! calls, once the def's answer is known -/
section
variable {e e1 : Loc} {i : Nat} {j : Option Nat} {ds ds' : List Dv} {ma mb : ME Dv} {F : Fn} {a b v : Dv} {o : Ob}
theorem call_1 (he : e[i]? = some (.ow j (.lst ds))) (h : F [.ow none (.lst ds)] = .ok (.fz v) [.lst ds']) : mCallD F [.own i] e = .ok v (e.set i (.ow j (.lst ds'))) := by
  simp [mCallD, mCall, mAs, he, isOw, owns, resolve, h, wback, putO]
theorem call_2 (he : e[i]? = some (.ow j (.lst ds))) (hm : ma e = .ok a e1) (he1 : e1[i]? = some (.ow j (.lst ds'))) {ds2 : List Dv} (h : F [.ow none (.lst ds'), .fz a] = .ok (.fz v) [.lst ds2]) : mCallD F [.own i, .val ma] e = .ok v (e1.set i (.ow j (.lst ds2))) := by
  simp [mCallD, mCall, mAs, he, isOw, hm, owns, resolve, he1, h, wback, putO]
theorem call_v0 (h : F [] = .ok (.fz v) []) : mCallD F [] e = .ok v e := by
  simp [mCallD, mCall, mAs, owns, resolve, h, wback]
theorem call_v1 (hm : ma e = .ok a e1) (h : F [.fz a] = .ok (.fz v) []) : mCallD F [.val ma] e = .ok v e1 := by
  simp [mCallD, mCall, mAs, hm, owns, resolve, h, wback]
theorem call_v2 {e2 : Loc} (hm : ma e = .ok a e1) (hb : mb e1 = .ok b e2) (h : F [.fz a, .fz b] = .ok (.fz v) []) : mCallD F [.val ma, .val mb] e = .ok v e2 := by
  simp [mCallD, mCall, mAs, hm, hb, owns, resolve, h, wback]
theorem call_o0 (h : F [] = .ok (.ow none o) []) : mCallO F [] e = .ok o e := by
  simp [mCallO, mCall, mAs, owns, resolve, h, wback]
theorem call_o1 (hm : ma e = .ok a e1) (h : F [.fz a] = .ok (.ow none o) []) : mCallO F [.val ma] e = .ok o e1 := by
  simp [mCallO, mCall, mAs, hm, owns, resolve, h, wback]
end
theorem fn_ok {np nl : Nat} {b : MS} {as : List Slt} {s : Slt} {e : Loc} {os : List Ob} (h1 : as.length = np) (h2 : as.all isArg = true) (h : b (initE 0 as ++ List.replicate nl .un) = .rt s e) (h3 : outsE 0 as e = some os) : mkFn np nl b as = .ok s os := by
  unfold mkFn
  rw [if_pos ⟨h1, h2⟩, h]
  simp only [h3]
/-! statement by statement -/
section
variable {a b : MS} {e e1 e2 : Loc} {v : Slt} {m : ME Dv} {mo : ME Ob} {d : Dv} {o : Ob} {g : MG} {t : ME Bool} {ds : List Dv} {mi : ME (List Dv)} {i : Nat}
theorem seq_nx (h : a e = .nx e1) : sSeq a b e = b e1 := by unfold sSeq; rw [h]; rfl
theorem seq_rt (h : a e = .rt v e1) : sSeq a b e = .rt v e1 := by unfold sSeq; rw [h]; rfl
theorem set_ok (h : m e = .ok d e1) (hg : g d e1 = some e2) : sSet m g e = .nx e2 := by unfold sSet; rw [h]; simp [hg, nxO]
theorem setO_ok (h : mo e = .ok o e1) (hg : free e1[i]? = true) : sSetO i mo e = .nx (e1.set i (.ow none o)) := by unfold sSetO; rw [h]; simp [hg]
theorem if_t (h : t e = .ok true e1) : sIf t a b e = a e1 := by unfold sIf; rw [h]; rfl
theorem if_f (h : t e = .ok false e1) : sIf t a b e = b e1 := by unfold sIf; rw [h]; rfl
theorem for_ok (h : mi e = .ok ds e1) : sFor mi g b e = loop g b ds e1 := by unfold sFor; rw [h]; rfl
theorem ret_ok (h : m e = .ok d e1) : sRet m e = .rt (.fz d) e1 := by unfold sRet; rw [h]; rfl
theorem rg1_ok {n : Int} {L : List Dv} (h : m e = .ok (.int n) e1) (hL : itR 0 n = some L) : mRg1 m e = .ok L e1 := by unfold mRg1; rw [h]; simp [hL]
theorem not_ok {x : Bool} (h : t e = .ok x e1) : mNot t e = .ok (!x) e1 := by unfold mNot; rw [h]; rfl
theorem and_t {s : ME Bool} (h : t e = .ok true e1) : mAnd t s e = s e1 := by unfold mAnd; rw [h]; rfl
theorem and_f {s : ME Bool} (h : t e = .ok false e1) : mAnd t s e = .ok false e1 := by unfold mAnd; rw [h]; rfl
theorem truth_b {x : Bool} (h : m e = .ok (.bl x) e1) : mTruth m e = .ok x e1 := by unfold mTruth; rw [h]; rfl
theorem test_b {x : Bool} (h : m e = .ok (.bl x) e1) : mTest m e = .ok x e1 := by unfold mTest; rw [h]; rfl
theorem fz_ok (h : mo e = .ok o e1) : mFz mo e = .ok o.toD e1 := by unfold mFz; rw [h]; rfl
end
/-! loops -/
theorem loop_inv {g : MG} {b : MS} {ds : List Dv} {e : Loc} (I : Nat → Loc → Prop) (h0 : I 0 e)
    (step : ∀ k d e, ds[k]? = some d → I k e → ∃ e1 e2, g d e = some e1 ∧ (b e1 = .nx e2 ∨ b e1 = .ct e2) ∧ I (k + 1) e2) : ∃ e', loop g b ds e = .nx e' ∧ I ds.length e' := by
  induction ds generalizing e I with
  | nil => exact ⟨e, rfl, h0⟩
  | cons d ds ih =>
    obtain ⟨e1, e2, hg, hb, hi⟩ := step 0 d e rfl h0
    obtain ⟨e', h, hI⟩ := ih (e := e2) (fun k => I (k + 1)) hi fun k d e hd hI => step (k + 1) d e hd hI
    refine ⟨e', ?_, hI⟩
    rcases hb with hb | hb <;> simp [loop, hg, hb, h]
theorem lc_inv {g : MG} {t : ME Bool} {m : ME Dv} {vs : List Nat} {ds acc : List Dv} {e : Loc} (I : Nat → List Dv → Loc → Prop) (h0 : I 0 acc e)
    (step : ∀ k d acc e, ds[k]? = some d → I k acc e → ∃ e1 e2, g d e = some e1 ∧ ((∃ y e3, t e1 = .ok true e2 ∧ m e2 = .ok y e3 ∧ acc.length < lim ∧ I (k + 1) (acc ++ [y]) (wipeE e3 vs)) ∨ (t e1 = .ok false e2 ∧ I (k + 1) acc (wipeE e2 vs)))) :
    ∃ acc' e', lcGo g t m vs ds acc e = some (acc', e') ∧ I ds.length acc' e' := by
  induction ds generalizing e acc I with
  | nil => exact ⟨acc, e, rfl, h0⟩
  | cons d ds ih =>
    obtain ⟨e1, e2, hg, h⟩ := step 0 d acc e rfl h0
    rcases h with ⟨y, e3, ht, hm, hl, hi⟩ | ⟨ht, hi⟩
    · obtain ⟨acc', e', h, hI⟩ := ih (e := wipeE e3 vs) (acc := acc ++ [y]) (fun k => I (k + 1)) hi fun k d acc e hd hI => step (k + 1) d acc e hd hI
      exact ⟨acc', e', by simp [lcGo, hg, ht, hm, hl, h], hI⟩
    · obtain ⟨acc', e', h, hI⟩ := ih (e := wipeE e2 vs) (acc := acc) (fun k => I (k + 1)) hi fun k d acc e hd hI => step (k + 1) d acc e hd hI
      exact ⟨acc', e', by simp [lcGo, hg, ht, h], hI⟩
end Ml

/-! The mirror of edgesaway_k05_tokens, printed from the text. -/
namespace K05
open Ml
def t0 : List Nat := []
def t1 : List Nat := [97, 98, 99, 100, 101, 102, 103, 104, 105, 106, 107, 108, 109, 110, 111, 112, 113, 114, 115, 116, 117, 118, 119, 120, 121, 122, 65, 66, 67, 68, 69, 70, 71, 72, 73, 74, 75, 76, 77, 78, 79, 80, 81, 82, 83, 84, 85, 86, 87, 88, 89, 90, 48, 49, 50, 51, 52, 53, 54, 55, 56, 57]
def t2 : List Nat := [32, 10]
def t3 : List Nat := [97, 32, 98, 50, 32, 116, 111, 119, 110, 32, 114, 111, 97, 100, 32, 114, 32, 107, 48, 32, 115, 101, 97, 116, 32, 122, 57, 122, 32, 102, 117, 108, 108, 32, 116, 97, 105, 108, 32, 110, 32, 109, 56, 32, 97, 97, 32, 98, 117, 115, 121, 32, 115, 104, 111, 112, 32, 112, 32, 116, 52, 32, 101, 118, 101, 110, 50, 32, 97, 98, 49, 32, 115, 104, 105, 112, 32, 117, 32, 118, 50, 32, 119, 32, 108, 97, 110, 101, 32, 104, 105, 103, 104, 32, 109, 105, 100, 32]
def t4 : List Nat := [115, 32, 116, 32, 101, 32, 102, 32, 103, 32, 104, 32, 106, 32, 120, 32, 121, 32, 113, 55, 32, 100, 101, 101, 112, 32, 116, 117, 114, 110, 32, 103, 97, 116, 101, 32, 108, 53, 32, 104, 111, 108, 100, 32, 110, 101, 120, 116, 49, 32, 99, 48, 32, 100, 50, 32, 116, 119, 111, 32, 122, 122, 49, 32, 110, 101, 97, 114, 32, 102, 97, 114, 57, 32, 108, 97, 115, 116, 32, 114, 105, 110, 103, 50, 32, 97, 97, 97, 97, 97, 97, 97, 56]
def t5 : List Nat := [32]
def t6 : List Nat := [32, 10, 59, 35, 36, 60, 47, 124, 42, 43, 63, 40, 41, 91, 93, 44, 58, 33, 34, 38, 39, 45, 46, 61, 62, 64, 92, 94, 95, 96, 123, 125, 126]
def t7 : List Nat := [10]
def t8 : List Nat := [107, 105, 110, 100, 32, 108, 97, 98, 101, 108, 32, 109, 97, 110, 121, 32, 115, 105, 110, 103, 108, 101, 32, 109, 97, 114, 107, 32, 102, 105, 114, 109, 32, 101, 100, 103, 101, 32, 102, 105, 110, 100, 32, 119, 97, 121, 32, 97, 110, 100, 32, 111, 114, 32, 110, 111, 116, 32, 115, 116, 97, 121, 32, 97, 116]
def t9 : List Nat := [75, 73, 78, 68]
def t10 : List Nat := [120, 49, 121, 50, 122, 51]
def t11 : List Nat := [108, 111, 110, 103, 101, 114, 116, 104, 97, 110, 101, 105, 103, 104, 116]
def t12 : List Nat := [57, 90]
def t13 : List Nat := [97, 66]
def t14 : List Nat := [90, 122, 57]
def t15 : List Nat := [65]
def t16 : List Nat := [49, 97]
def t17 : List Nat := [48, 48]
def t18 : List Nat := [48, 48, 55]
def t19 : List Nat := [59, 35, 36, 60, 47, 124, 42, 43, 63, 40, 41, 91, 93, 44, 58]
def t20 : List Nat := [33, 34, 38, 39, 45, 46, 61, 62, 64, 92, 94, 95, 96, 123, 125, 126]
def t21 : List Nat := [97, 98, 49, 65, 32, 35, 59, 10]
def t22 : List Nat := [10, 32]
def t23 : List Nat := [32, 10, 32]
def t24 : List Nat := [32, 32]
def t25 : List Nat := [10, 32, 10]
def m_tokens_of : MS :=
  (sSeq (sSetO 1 (mLst []))
  (sSeq (sSet (mC (.str t0)) (gN 2))
  (sSeq (sFor (mIt itS (mVar 0)) (gN 3)
  (sSeq (sIf (mTest (mO2 oInS (mVar 3) (mC (.str t1))))
  (sSeq (sAug 2 oAddS (mVar 3))
  sCnt)
  sNil)
  (sSeq (sIf (mTruth (mVar 2))
  (sSeq (sApp 1 (mVar 2))
  (sSet (mC (.str t0)) (gN 2)))
  sNil)
  (sIf (mTest (mO2 oNiS (mVar 3) (mC (.str t2))))
  (sApp 1 (mVar 3))
  sNil))))
  (sSeq (sIf (mTruth (mVar 2))
  (sApp 1 (mVar 2))
  sNil)
  (sRet (mOwn 1 wTup))))))
def F_tokens_of : Fn := mkFn 1 3 m_tokens_of
def m__law_draw : MS :=
  (sSeq (sIf (mTest (mO2 oGt (mOwn2 0 wIx (mC (.int 2))) (mC (.int 0))))
  (sSeq (sSet (mOwn2 0 wIx (mC (.int 2))) (gN 2))
  (sSeq (sPut 0 (mC (.int 2)) (mO2 oDiv (mVar 2) (mVar 1)))
  (sRet (mO2 oMod (mO1 oInt (mVar 2)) (mVar 1)))))
  sNil)
  (sSeq (sSet (mC (.int 0)) (gN 3))
  (sSeq (sIf (mTest (mO2 oLt (mOwn2 0 wIx (mC (.int 1))) (mO1 oLen (mOwn2 0 wIx (mC (.int 0))))))
  (sSeq (sSet (mO2 oIx (mOwn2 0 wIx (mC (.int 0))) (mOwn2 0 wIx (mC (.int 1)))) (gN 4))
  (sSet (mO2 oAdd (mO2 oMul (mC (.int 2)) (mO1 oAbs (mVar 4))) (mO1 oInt (mO2 oLt (mVar 4) (mC (.int 0))))) (gN 3)))
  sNil)
  (sSeq (sPutAug 0 (mC (.int 1)) oAddI (mC (.int 1)))
  (sSeq (sIf (mTest (mO2 oGe (mVar 3) (mO2 oMul (mC (.int 2)) (mO2 oPow (mC (.int 10)) (mC (.int 18))))))
  (sSeq (sSet (mO2 oMod (mO1 oInt (mO2 oDiv (mVar 3) (mC (.int 2)))) (mO2 oShl (mC (.int 1)) (mC (.int 6000)))) (gN 2))
  (sSeq (sPut 0 (mC (.int 2)) (mO2 oDiv (mVar 2) (mVar 1)))
  (sRet (mO2 oMod (mO1 oInt (mVar 2)) (mVar 1)))))
  sNil)
  (sSeq (sPut 0 (mC (.int 3)) (mO2 oMod (mO1 oInt (mO2 oAdd (mO2 oAdd (mO2 oAdd (mO2 oMul (mOwn2 0 wIx (mC (.int 3))) (mC (.int 48271))) (mO2 oMul (mO2 oMod (mO1 oInt (mVar 3)) (mC (.int 2147483629))) (mC (.int 16807)))) (mO2 oMul (mOwn2 0 wIx (mC (.int 1))) (mC (.int 69621)))) (mC (.int 11)))) (mC (.int 2147483647))))
  (sRet (mO2 oMod (mO1 oInt (mO2 oDiv (mOwn2 0 wIx (mC (.int 3))) (mC (.int 16)))) (mVar 1)))))))))
def F__law_draw : Fn := mkFn 2 3 m__law_draw
def m__law_pick : MS :=
  (sRet (mO2 oIx (mVar 1) (mCallD F__law_draw [.own 0, .val (mO1 oLen (mVar 1))])))
def F__law_pick : Fn := mkFn 2 0 m__law_pick
def m__law_rare : MS :=
  (sRet (mO2 oEq (mCallD F__law_draw [.own 0, .val (mVar 1)]) (mO2 oDiv (mVar 1) (mC (.int 2)))))
def F__law_rare : Fn := mkFn 2 0 m__law_rare
def m__law_pool : MS :=
  (sSeq (sSet (mC (.str t3)) (gN 0))
  (sSeq (sSet (mO2 oAdd (mVar 0) (mC (.str t4))) (gN 0))
  (sRetO (mM1N oSplit (mVar 0) (mC (.str t5))))))
def F__law_pool : Fn := mkFn 0 1 m__law_pool
def m__law_signs : MS :=
  (sSeq (sSet (mC (.str t1)) (gN 0))
  (sRet (mO2 oAdd (mVar 0) (mC (.str t6)))))
def F__law_signs : Fn := mkFn 0 1 m__law_signs
def m__law_cut : MS :=
  (sSeq (sSet (mC (.str t1)) (gN 1))
  (sSeq (sSetO 2 (mLst []))
  (sSeq (sFor (mRg1 (mO1 oLen (mVar 0))) (gN 3)
  (sSeq (sSet (mO2 oIx (mVar 0) (mVar 3)) (gN 4))
  (sIf (mAnd (mTest (mO2 oInS (mVar 4) (mVar 1))) (mAnd (mTest (mO2 oGt (mVar 3) (mC (.int 0)))) (mTest (mO2 oInS (mO2 oIx (mVar 0) (mO2 oSub (mVar 3) (mC (.int 1)))) (mVar 1)))))
  (sPut 2 (mO1 oNeg (mC (.int 1))) (mO2 oAdd (mOwn2 2 wIx (mO1 oNeg (mC (.int 1)))) (mVar 4)))
  (sIf (mAnd (mTest (mO2 oNe (mVar 4) (mC (.str t5)))) (mTest (mO2 oNe (mVar 4) (mC (.str t7)))))
  (sApp 2 (mVar 4))
  sNil))))
  (sRetV 2))))
def F__law_cut : Fn := mkFn 1 4 m__law_cut
def m__law_piece : MS :=
  (sSeq (sSet (mCallD F__law_draw [.own 0, .val (mC (.int 8))]) (gN 1))
  (sSeq (sIf (mTest (mO2 oLt (mVar 1) (mC (.int 2))))
  (sRet (mCallD F__law_pick [.own 0, .val (mFz (mCallO F__law_pool []))]))
  sNil)
  (sSeq (sIf (mTest (mO2 oEq (mVar 1) (mC (.int 2))))
  (sRet (mCallD F__law_pick [.own 0, .val (mFz (mM1N oSplit (mC (.str t8)) (mC (.str t5))))]))
  sNil)
  (sSeq (sIf (mTest (mO2 oEq (mVar 1) (mC (.int 3))))
  (sRet (mO1 oStr (mCallD F__law_draw [.own 0, .val (mCallD F__law_pick [.own 0, .val (mFz (mLst [(mC (.int 2)), (mC (.int 10)), (mC (.int 100)), (mC (.int 10000)), (mO2 oPow (mC (.int 10)) (mC (.int 9)))]))])])))
  sNil)
  (sSeq (sIf (mTest (mO2 oEq (mVar 1) (mC (.int 4))))
  (sRet (mCallD F__law_pick [.own 0, .val (mFz (mLst [(mC (.str t18)), (mC (.str t17)), (mC (.str t16)), (mC (.str t15)), (mC (.str t14)), (mC (.str t13)), (mC (.str t12)), (mC (.str t11)), (mC (.str t10)), (mC (.str t9))]))]))
  sNil)
  (sSeq (sIf (mTest (mO2 oLt (mVar 1) (mC (.int 7))))
  (sRet (mCallD F__law_pick [.own 0, .val (mFz (mN1 listS (mC (.str t19))))]))
  sNil)
  (sRet (mCallD F__law_pick [.own 0, .val (mFz (mN1 listS (mC (.str t20))))]))))))))
def F__law_piece : Fn := mkFn 1 1 m__law_piece
def m__law_text : MS :=
  (sSeq (sSet (mCallD F__law_draw [.own 0, .val (mC (.int 4))]) (gN 1))
  (sSeq (sIf (mTest (mO2 oLt (mVar 1) (mC (.int 2))))
  (sSeq (sSet (mCallD F__law_signs []) (gN 2))
  (sSeq (sIf (mTest (mO2 oEq (mVar 1) (mC (.int 1))))
  (sSet (mC (.str t21)) (gN 2))
  sNil)
  (sSeq (sSet (mC (.str t0)) (gN 3))
  (sSeq (sFor (mRg1 (mCallD F__law_draw [.own 0, .val (mO2 oAdd (mC (.int 41)) (mO2 oMul (mC (.int 20)) (mVar 1)))])) (gN 4)
  (sSet (mO2 oAdd (mVar 3) (mO2 oIx (mVar 2) (mCallD F__law_draw [.own 0, .val (mO1 oLen (mVar 2))]))) (gN 3)))
  (sRet (mVar 3))))))
  sNil)
  (sSeq (sSet (mCallD F__law_pick [.own 0, .val (mFz (mLst [(mC (.str t0)), (mC (.str t0)), (mC (.str t5)), (mC (.str t22))]))]) (gN 3))
  (sSeq (sFor (mRg1 (mCallD F__law_draw [.own 0, .val (mC (.int 25))])) (gN 4)
  (sSet (mO2 oAdd (mO2 oAdd (mVar 3) (mCallD F__law_piece [.own 0])) (mCallD F__law_pick [.own 0, .val (mFz (mLst [(mC (.str t0)), (mC (.str t0)), (mC (.str t5)), (mC (.str t5)), (mC (.str t7)), (mC (.str t24)), (mC (.str t23))]))])) (gN 3)))
  (sRet (mVar 3))))))
def F__law_text : Fn := mkFn 1 4 m__law_text
def m__law_long : MS :=
  (sSeq (sIf (mAnd (mTest (mO2 oGt (mO1 oLen (mVar 1)) (mC (.int 0)))) (mTruth (mCallD F__law_rare [.own 0, .val (mC (.int 9))])))
  (sRet (mO2 oRepS (mVar 1) (mO2 oDiv (mC (.int 3900)) (mO1 oLen (mVar 1)))))
  sNil)
  (sRet (mVar 1)))
def F__law_long : Fn := mkFn 2 0 m__law_long
def m__law_right : MS :=
  (sSeq (sIf (mOr (mNot (mTruth (mO1 oIsT (mVar 0)))) (mTest (mO2 oNe (mO1 oLen (mVar 0)) (mO1 oLen (mVar 1)))))
  (sRet (mC (.bl false)))
  sNil)
  (sRet (mO1 oAll (mFz (mLc (mRg1 (mO1 oLen (mVar 1))) (gN 2) mYes (mAndV (mO1 oIsS (mO2 oIx (mVar 0) (mVar 2))) (mO2 oEq (mO2 oIx (mVar 0) (mVar 2)) (mO2 oIx (mVar 1) (mVar 2)))) [2])))))
def F__law_right : Fn := mkFn 2 1 m__law_right
def m_law : MS :=
  (sSeq (sSet (mCallD F__law_long [.own 1, .val (mCallD F__law_text [.own 1])]) (gN 2))
  (sSeq (sSet (mFz (mCallO F__law_cut [.val (mVar 2)])) (gN 3))
  (sSeq (sIf (mNot (mTruth (mCallD F__law_right [.val (mCallD F_tokens_of [.val (mVar 2)]), .val (mVar 3)])))
  (sRet (mC (.bl false)))
  sNil)
  (sSeq (sSet (mCallD F__law_draw [.own 1, .val (mO2 oAdd (mO1 oLen (mVar 2)) (mC (.int 1)))]) (gN 4))
  (sSeq (sSet (mCallD F__law_pick [.own 1, .val (mFz (mLst [(mC (.str t5)), (mC (.str t7)), (mC (.str t24)), (mC (.str t2)), (mC (.str t25))]))]) (gN 5))
  (sSeq (sIf (mNot (mTruth (mCallD F__law_right [.val (mCallD F_tokens_of [.val (mO2 oAdd (mO2 oAdd (mSl slS (mVar 2) none (some (mVar 4))) (mVar 5)) (mSl slS (mVar 2) (some (mVar 4)) none))]), .val (mFz (mN2 oCat (mFz (mCallO F__law_cut [.val (mSl slS (mVar 2) none (some (mVar 4)))])) (mFz (mCallO F__law_cut [.val (mSl slS (mVar 2) (some (mVar 4)) none)]))))])))
  (sRet (mC (.bl false)))
  sNil)
  (sSeq (sIf (mAnd (mTest (mO2 oLe (mO1 oLen (mVar 2)) (mC (.int 900)))) (mNot (mTruth (mCallD F__law_right [.val (mCallD F_tokens_of [.val (mO2 oAdd (mO2 oAdd (mVar 5) (mM1 oJoin (mVar 5) (mVar 3))) (mVar 5))]), .val (mVar 3)]))))
  (sRet (mC (.bl false)))
  sNil)
  (sSeq (sSet (mM1 oJoin (mC (.str t0)) (mVar 3)) (gN 6))
  (sRet (mAndV (mCallD F__law_right [.val (mCallD F_tokens_of [.val (mVar 6)]), .val (mFz (mCallO F__law_cut [.val (mVar 6)]))]) (mCallD F__law_right [.val (mCallD F_tokens_of [.val (mVar 2)]), .val (mVar 3)])))))))))))
end K05

set_option linter.all false
set_option maxRecDepth 10000
/-! The tokens of a text: what they are. -/
namespace K05
open Ml
def fl (r : List Nat) : List (List Nat) := if r = [] then [] else [r]
def step (a : List (List Nat) × List Nat) (c : Nat) : List (List Nat) × List Nat :=
  if c ∈ t1 then (a.1, a.2 ++ [c]) else (a.1 ++ fl a.2 ++ (if c ∈ t2 then [] else [[c]]), [])
def scan (s : List Nat) : List (List Nat) × List Nat := s.foldl step ([], [])
def outp (a : List (List Nat) × List Nat) : List (List Nat) := a.1 ++ fl a.2
def toks (s : List Nat) : List (List Nat) := outp (scan s)
theorem scan_snoc (s : List Nat) (c : Nat) : scan (s ++ [c]) = step (scan s) c := by simp [scan]
theorem step_pre (X A : List (List Nat)) (r : List Nat) (c : Nat) : step (X ++ A, r) c = (X ++ (step (A, r) c).1, (step (A, r) c).2) := by
  unfold step; split <;> simp
theorem fold_pre (X : List (List Nat)) (s : List Nat) : ∀ A r, s.foldl step (X ++ A, r) = (X ++ (s.foldl step (A, r)).1, (s.foldl step (A, r)).2) := by
  induction s with
  | nil => intro A r; rfl
  | cons c s ih => intro A r; simp only [List.foldl_cons, step_pre, ih]
theorem toks_of_shut {X : List (List Nat)} {p s : List Nat} (h : scan p = (X, [])) : toks (p ++ s) = X ++ toks s := by
  have h' : p.foldl step ([], []) = (X ++ [], []) := by rw [List.append_nil]; exact h
  unfold toks scan
  rw [List.foldl_append, h', fold_pre]
  simp [outp]
theorem scan_gap1 (p : List Nat) {c : Nat} (h : c ∈ t2) : scan (p ++ [c]) = (toks p, []) := by
  have h1 : c ∉ t1 := by
    revert c; decide
  rw [scan_snoc]; simp [step, h1, h, toks, outp]
theorem scan_gap (g : List Nat) (p : List Nat) (h0 : g ≠ []) (h : ∀ c ∈ g, c ∈ t2) : scan (p ++ g) = (toks p, []) := by
  induction g generalizing p with
  | nil => exact absurd rfl h0
  | cons c g ih =>
    rw [show p ++ c :: g = (p ++ [c]) ++ g from by simp]
    by_cases hg : g = []
    · subst hg; rw [List.append_nil]; exact scan_gap1 p (h c (by simp))
    · rw [ih (p ++ [c]) hg (fun c hc => h c (by simp [hc]))]
      unfold toks
      rw [scan_gap1 p (h c (by simp))]; simp [outp, fl, toks]
theorem toks_gap {g : List Nat} (p s : List Nat) (h0 : g ≠ []) (h : ∀ c ∈ g, c ∈ t2) : toks (p ++ g ++ s) = toks p ++ toks s := toks_of_shut (scan_gap g p h0 h)
theorem toks_nil : toks [] = [] := rfl
theorem toks_gapL {g : List Nat} (s : List Nat) (h0 : g ≠ []) (h : ∀ c ∈ g, c ∈ t2) : toks (g ++ s) = toks s := by
  have := toks_gap [] s h0 h
  rw [List.nil_append] at this
  rw [this, toks_nil, List.nil_append]
theorem toks_gapR {g : List Nat} (s : List Nat) (h0 : g ≠ []) (h : ∀ c ∈ g, c ∈ t2) : toks (s ++ g) = toks s := by
  have := toks_gap s [] h0 h
  rw [List.append_nil] at this
  rw [this, toks_nil, List.append_nil]
/-- what one token is -/
def IsTok (t : List Nat) : Prop := t ≠ [] ∧ ((∀ c ∈ t, c ∈ t1) ∨ ∃ c, t = [c] ∧ c ∉ t1 ∧ c ∉ t2)
theorem fold_run (s : List Nat) (h : ∀ c ∈ s, c ∈ t1) : ∀ A r, s.foldl step (A, r) = (A, r ++ s) := by
  induction s with
  | nil => intro A r; simp
  | cons c s ih =>
    intro A r
    rw [List.foldl_cons, show step (A, r) c = (A, r ++ [c]) from by simp [step, h c]]
    rw [ih (fun c hc => h c (by simp [hc]))]; simp
theorem toks_tok {t : List Nat} (h : IsTok t) : toks t = [t] := by
  obtain ⟨h0, h | ⟨c, rfl, h1, h2⟩⟩ := h
  · unfold toks scan; rw [fold_run t h]; simp [outp, fl, h0]
  · simp [toks, scan, step, h1, h2, outp, fl]
def Good (a : List (List Nat) × List Nat) : Prop := (∀ t ∈ a.1, IsTok t) ∧ ∀ c ∈ a.2, c ∈ t1
theorem step_good {a : List (List Nat) × List Nat} (c : Nat) (h : Good a) : Good (step a c) := by
  unfold step
  split
  · rename_i hc
    exact ⟨h.1, fun x hx => by rcases List.mem_append.mp hx with z | z; exact h.2 x z; simp at z; exact z ▸ hc⟩
  · rename_i hc
    refine ⟨fun t ht => ?_, fun x hx => absurd hx List.not_mem_nil⟩
    simp only [List.mem_append] at ht
    rcases ht with (z | z) | z
    · exact h.1 t z
    · unfold fl at z
      split at z
      · exact absurd z List.not_mem_nil
      · rename_i hn; simp at z; exact z ▸ ⟨hn, .inl h.2⟩
    · split at z
      · exact absurd z List.not_mem_nil
      · rename_i hn; simp at z; subst z; exact ⟨by simp, .inr ⟨c, rfl, hc, hn⟩⟩
theorem fold_good (s : List Nat) : ∀ a, Good a → Good (s.foldl step a) := by
  induction s with
  | nil => exact fun a h => h
  | cons c s ih => exact fun a h => ih _ (step_good c h)
theorem toks_good (s : List Nat) : ∀ t ∈ toks s, IsTok t := by
  have h := fold_good s ([], []) ⟨fun t h => absurd h List.not_mem_nil, fun c h => absurd h List.not_mem_nil⟩
  intro t ht
  rcases List.mem_append.mp ht with z | z
  · exact h.1 t z
  · unfold fl at z
    split at z
    · exact absurd z List.not_mem_nil
    · rename_i hn; simp at z; exact z ▸ ⟨hn, .inl h.2⟩
theorem toks_join {g : List Nat} (h0 : g ≠ []) (h : ∀ c ∈ g, c ∈ t2) : ∀ ts : List (List Nat), (∀ t ∈ ts, IsTok t) → toks (joinN g ts) = ts
  | [], _ => rfl
  | [a], hs => toks_tok (hs a (by simp))
  | a :: b :: r, hs => by
    show toks (a ++ (g ++ joinN g (b :: r))) = _
    rw [← List.append_assoc, toks_gap _ _ h0 h, toks_tok (hs a (by simp)), toks_join h0 h (b :: r) (fun t ht => hs t (by simp [ht]))]
    rfl
theorem toks_wide {g : List Nat} (s : List Nat) (h0 : g ≠ []) (h : ∀ c ∈ g, c ∈ t2) : toks (g ++ joinN g (toks s) ++ g) = toks s := by
  rw [toks_gapR _ h0 h, toks_gapL _ h0 h, toks_join h0 h _ (toks_good s)]
/-! sizes -/
def sz (ts : List (List Nat)) : Nat := (ts.map List.length).sum
theorem sz_app (a b : List (List Nat)) : sz (a ++ b) = sz a + sz b := by simp [sz]
theorem sz_fl (r : List Nat) : sz (fl r) = r.length := by unfold fl; split <;> simp_all [sz]
theorem fold_sz (s : List Nat) : ∀ a, sz (s.foldl step a).1 + (s.foldl step a).2.length ≤ sz a.1 + a.2.length + s.length := by
  induction s with
  | nil => intro a; simp
  | cons c s ih =>
    intro a
    have := ih (step a c)
    have h : sz (step a c).1 + (step a c).2.length ≤ sz a.1 + a.2.length + 1 := by
      unfold step
      split
      · simp; omega
      · simp only [sz_app, sz_fl, List.length_nil]
        split <;> simp [sz] <;> omega
    simp only [List.foldl_cons, List.length_cons]; omega
theorem toks_sz (s : List Nat) : sz (toks s) ≤ s.length := by
  have := fold_sz s ([], [])
  simp only [toks, outp, sz_app, sz_fl]
  simp [sz] at this ⊢
  exact this
theorem len_sz : ∀ ts : List (List Nat), (∀ t ∈ ts, IsTok t) → ts.length ≤ sz ts
  | [], _ => by simp
  | a :: r, h => by
    have h1 : a ≠ [] := (h a (by simp)).1
    have h2 := len_sz r (fun t ht => h t (by simp [ht]))
    have h3 : 1 ≤ a.length := by cases a with | nil => exact absurd rfl h1 | cons => simp
    simp [sz] at h2 ⊢; omega
theorem toks_len (s : List Nat) : (toks s).length ≤ s.length := Nat.le_trans (len_sz _ (toks_good s)) (toks_sz s)
theorem join_len (g : List Nat) : ∀ ts : List (List Nat), (joinN g ts).length ≤ sz ts + ts.length * g.length
  | [] => by simp [joinN]
  | [a] => by simp [joinN, sz]
  | a :: b :: r => by
    have := join_len g (b :: r)
    have e : (r.length + 1 + 1) * g.length = (r.length + 1) * g.length + g.length := by rw [Nat.add_mul (r.length + 1) 1, Nat.one_mul]
    simp only [joinN, List.length_append, sz, List.map_cons, List.sum_cons, List.length_cons] at this ⊢
    omega
/-! the tokens of a longer text -/
theorem toks_snoc_run {p : List Nat} {c d : Nat} (hc : c ∈ t1) (hd : d ∈ t1) : ∃ a r, toks (p ++ [d]) = a ++ [r] ∧ toks (p ++ [d] ++ [c]) = a ++ [r ++ [c]] := by
  refine ⟨(scan p).1, (scan p).2 ++ [d], ?_, ?_⟩
  · rw [toks, scan_snoc]; simp [step, hd, outp, fl]
  · rw [toks, scan_snoc, scan_snoc]; simp [step, hd, hc, outp, fl]
theorem scan_end {p : List Nat} {d : Nat} (hd : d ∉ t1) : (scan (p ++ [d])).2 = [] := by rw [scan_snoc]; simp [step, hd]
theorem toks_snoc_new {p : List Nat} {c : Nat} (hr : (scan p).2 = []) (hc : c ∉ t2) : toks (p ++ [c]) = toks p ++ [[c]] := by
  rw [toks, scan_snoc, toks]
  by_cases h : c ∈ t1
  · simp [step, h, outp, hr, fl]
  · simp [step, h, hc, outp, hr, fl]
theorem toks_snoc_sign {p : List Nat} {c : Nat} (h : c ∉ t1) : toks (p ++ [c]) = toks p ++ (if c ∈ t2 then [] else [[c]]) := by
  rw [toks, scan_snoc, toks]; simp [step, h, outp, fl]
end K05

set_option linter.all false
set_option maxRecDepth 10000
/-! What the program's tokens_of and the law's own cut come to. -/
namespace K05
open Ml
def txs (ts : List (List Nat)) : List Dv := ts.map .str
theorem sf (d : Dv) : free (some (.fz d)) = true := rfl
def tokBody : MS := (sSeq (sIf (mTest (mO2 oInS (mVar 3) (mC (.str t1))))
  (sSeq (sAug 2 oAddS (mVar 3))
  sCnt)
  sNil)
  (sSeq (sIf (mTruth (mVar 2))
  (sSeq (sApp 1 (mVar 2))
  (sSet (mC (.str t0)) (gN 2)))
  sNil)
  (sIf (mTest (mO2 oNiS (mVar 3) (mC (.str t2))))
  (sApp 1 (mVar 3))
  sNil)))
def tokE (s : List Nat) (a : List (List Nat) × List Nat) (x : Slt) : Loc := [.fz (.str s), .ow none (.lst (txs a.1)), .fz (.str a.2), x]
theorem truth_nil : truthD (.str []) = some false := by simp [truthD]
theorem truth_ne {r : List Nat} (h : r ≠ []) (hl : r.length ≤ lim) : truthD (.str r) = some true := by
  have : r.length ≠ 0 := by cases r with | nil => exact absurd rfl h | cons => simp
  simp [truthD, hl, h]
theorem tok_step {s : List Nat} {a : List (List Nat) × List Nat} {c : Nat} (h1 : a.1.length + 2 < lim) (h2 : a.2.length + 1 ≤ lim) :
    tokBody (tokE s a (.fz (.str [c]))) = .nx (tokE s (step a c) (.fz (.str [c]))) ∨ tokBody (tokE s a (.fz (.str [c]))) = .ct (tokE s (step a c) (.fz (.str [c]))) := by
  obtain ⟨A, r⟩ := a
  have h1 : A.length + 2 < lim := h1
  have h2 : r.length + 1 ≤ lim := h2
  have z1 : A.length < lim := by omega
  have z2 : A.length + 1 < lim := by omega
  have z3 : r.length ≤ lim := by omega
  by_cases c1 : c ∈ t1
  · right; simp [tokBody, tokE, sSeq, sIf, mTest, mO2, mVar, oInS, mC, c1, sAug, oAddS, h2, sCnt, step, txs]
  · left
    by_cases c3 : r = []
    · subst c3
      by_cases c2 : c ∈ t2
      · simp [tokBody, tokE, sSeq, sIf, mTest, mO2, mVar, oInS, oNiS, mC, c1, c2, mTruth, truth_nil, sNil, step, fl, txs]
      · simp [tokBody, tokE, sSeq, sIf, mTest, mO2, mVar, oInS, oNiS, mC, c1, c2, mTruth, truth_nil, sNil, step, fl, txs, sApp, isOw, z1]
    · by_cases c2 : c ∈ t2
      · simp [tokBody, tokE, sSeq, sIf, mTest, mO2, mVar, oInS, oNiS, mC, c1, c2, mTruth, truth_ne c3 z3, sNil, step, fl, c3, txs, sApp, isOw, z1, sSet, gN, free, nxO, t0]
      · simp [tokBody, tokE, sSeq, sIf, mTest, mO2, mVar, oInS, oNiS, mC, c1, c2, mTruth, truth_ne c3 z3, sNil, step, fl, c3, txs, sApp, isOw, z1, z2, sSet, gN, free, nxO, t0]
theorem tok_loop {s : List Nat} : ∀ (r : List Nat) (a : List (List Nat) × List Nat) (x : Slt), free (some x) = true → a.1.length + 2 * r.length + 1 < lim → a.2.length + r.length ≤ lim →
    ∃ x', loop (gN 3) tokBody (r.map fun c => .str [c]) (tokE s a x) = .nx (tokE s (r.foldl step a) x')
  | [], a, x, _, _, _ => ⟨x, rfl⟩
  | c :: r, a, x, hx, h1, h2 => by
    have l1 : (step a c).1.length ≤ a.1.length + 2 := by
      unfold step; split
      · simp
      · have : (fl a.2).length ≤ 1 := by unfold fl; split <;> simp
        simp only [List.length_append]
        split <;> simp <;> omega
    have l2 : (step a c).2.length ≤ a.2.length + 1 := by unfold step; split <;> simp
    simp only [List.length_cons] at h1 h2
    obtain ⟨x', h⟩ := tok_loop (s := s) r (step a c) (.fz (.str [c])) rfl (by omega) (by omega)
    refine ⟨x', ?_⟩
    have g : gN 3 (.str [c]) (tokE s a x) = some (tokE s a (.fz (.str [c]))) := by simp [gN, tokE, hx]
    rw [List.map_cons, loop, g, List.foldl_cons, ← h]
    rcases tok_step (s := s) (a := a) (c := c) (by omega) (by omega) with q | q <;> simp only [q]
theorem tok_eq : m_tokens_of = (sSeq (sSetO 1 (mLst []))
  (sSeq (sSet (mC (.str t0)) (gN 2))
  (sSeq (sFor (mIt itS (mVar 0)) (gN 3) tokBody)
  (sSeq (sIf (mTruth (mVar 2))
  (sApp 1 (mVar 2))
  sNil)
  (sRet (mOwn 1 wTup)))))) := rfl
theorem tokens_ok {s : List Nat} (h : 2 * s.length + 2 < lim) : F_tokens_of [.fz (.str s)] = .ok (.fz (.tup (txs (toks s)))) [] := by
  obtain ⟨x', hl⟩ := tok_loop (s := s) s ([], []) .un rfl (by show 0 + _ + 1 < lim; omega) (by show 0 + _ ≤ lim; omega)
  have hl : loop (gN 3) tokBody (s.map fun c => .str [c]) [.fz (.str s), .ow none (.lst []), .fz (.str t0), .un] = .nx (tokE s (scan s) x') := hl
  have hsz := fold_sz s ([], [])
  have hr : (scan s).2.length ≤ s.length := by simp [sz] at hsz; simp [scan]; omega
  have hA : (scan s).1.length ≤ s.length := by
    have := toks_len s
    simp [toks, outp] at this; omega
  have hA2 : (scan s).1.length < lim := by omega
  have key : ∃ e', m_tokens_of (initE 0 [.fz (.str s)] ++ List.replicate 3 .un) = .rt (.fz (.tup (txs (toks s)))) e' ∧ outsE 0 [.fz (.str s)] e' = some [] := by
    by_cases c : (scan s).2 = []
    · refine ⟨tokE s (scan s) x', ?_, rfl⟩
      simp [tok_eq, sSeq, sSetO, mLst, mArgs, initE, List.replicate, free, sSet, mC, gN, nxO, sFor, mIt, mVar, itS, hl]
      simp [tokE, sIf, mTruth, mVar, c, truth_nil, sNil, sRet, mOwn, wTup, toks, outp, fl]
    · refine ⟨tokE s (toks s, (scan s).2) x', ?_, rfl⟩
      have ht := truth_ne c (by omega : (scan s).2.length ≤ lim)
      simp [tok_eq, sSeq, sSetO, mLst, mArgs, initE, List.replicate, free, sSet, mC, gN, nxO, sFor, mIt, mVar, itS, hl]
      simp [tokE, sIf, mTruth, mVar, ht, sApp, isOw, txs, hA2, sRet, mOwn, wTup, toks, outp, fl, c]
  obtain ⟨e', e, o⟩ := key
  exact fn_ok rfl rfl e o
/-! ### the law's own reading -/
def cutBody : MS := (sSeq (sSet (mO2 oIx (mVar 0) (mVar 3)) (gN 4))
  (sIf (mAnd (mTest (mO2 oInS (mVar 4) (mVar 1))) (mAnd (mTest (mO2 oGt (mVar 3) (mC (.int 0)))) (mTest (mO2 oInS (mO2 oIx (mVar 0) (mO2 oSub (mVar 3) (mC (.int 1)))) (mVar 1)))))
  (sPut 2 (mO1 oNeg (mC (.int 1))) (mO2 oAdd (mOwn2 2 wIx (mO1 oNeg (mC (.int 1)))) (mVar 4)))
  (sIf (mAnd (mTest (mO2 oNe (mVar 4) (mC (.str t5)))) (mTest (mO2 oNe (mVar 4) (mC (.str t7)))))
  (sApp 2 (mVar 4))
  sNil)))
theorem cut_eq : m__law_cut = (sSeq (sSet (mC (.str t1)) (gN 1))
  (sSeq (sSetO 2 (mLst []))
  (sSeq (sFor (mRg1 (mO1 oLen (mVar 0))) (gN 3) cutBody)
  (sRetV 2)))) := rfl
def cutE (s : List Nat) (ts : List (List Nat)) (x y : Slt) : Loc := [.fz (.str s), .fz (.str t1), .ow none (.lst (txs ts)), x, y]
theorem getI_last {α : Type} (a : List α) (x : α) : getI (a ++ [x]) (-1) = some x := by
  have h : ixn (a ++ [x]).length (-1) = some a.length := by
    unfold ixn
    rw [if_neg (by omega), if_pos (by simp; omega)]
    congr 1; simp; omega
  unfold getI; rw [h]; simp
theorem ixn_last {α : Type} (a : List α) (x : α) : ixn (a ++ [x]).length (-1) = some a.length := by
  unfold ixn
  rw [if_neg (by omega), if_pos (by simp; omega)]
  congr 1; simp; omega
theorem gap_is (c : Nat) : c ∈ t2 ↔ c = 32 ∨ c = 10 := by simp [t2]
theorem cut_step {s : List Nat} {k : Nat} {y : Slt} (hk : k < s.length) (hs : 2 * s.length + 2 < lim) (hy : free (some y) = true) :
    ∃ y', free (some y') = true ∧ cutBody (cutE s (toks (s.take k)) (.fz (.int k)) y) = .nx (cutE s (toks (s.take (k + 1))) (.fz (.int k)) y') := by
  have hl : s.length ≤ lim := by omega
  refine ⟨.fz (.str [s[k]]), rfl, ?_⟩
  have htk : s.take (k + 1) = s.take k ++ [s[k]] := by rw [List.take_add_one, List.getElem?_eq_getElem hk]; rfl
  have hg : oIx (.str s) (.int (k : Int)) = some (.str [s[k]]) := by simp [oIx, hl, getI_of hk]
  have hlen := toks_len (s.take k)
  have hsz := toks_sz (s.take k)
  have htl : (s.take k).length ≤ s.length := by rw [List.length_take]; omega
  have hlim : (toks (s.take k)).length < lim := by omega
  have rest (h1 : mAnd (mTest (mO2 oInS (mVar 4) (mVar 1))) (mAnd (mTest (mO2 oGt (mVar 3) (mC (.int 0)))) (mTest (mO2 oInS (mO2 oIx (mVar 0) (mO2 oSub (mVar 3) (mC (.int 1)))) (mVar 1)))) (cutE s (toks (s.take k)) (.fz (.int k)) (.fz (.str [s[k]]))) = .ok false (cutE s (toks (s.take k)) (.fz (.int k)) (.fz (.str [s[k]]))))
      (h2 : toks (s.take (k + 1)) = toks (s.take k) ++ (if s[k] ∈ t2 then [] else [[s[k]]])) : cutBody (cutE s (toks (s.take k)) (.fz (.int k)) y) = .nx (cutE s (toks (s.take (k + 1))) (.fz (.int k)) (.fz (.str [s[k]]))) := by
    have st : sSet (mO2 oIx (mVar 0) (mVar 3)) (gN 4) (cutE s (toks (s.take k)) (.fz (.int k)) y) = .nx (cutE s (toks (s.take k)) (.fz (.int k)) (.fz (.str [s[k]]))) := by
      simp [sSet, mO2, mVar, cutE, hg, gN, hy, nxO]
    unfold cutBody sSeq
    rw [st]
    simp only [Sr.then_nx]
    unfold sIf
    rw [h1, h2]
    simp only [Rs.go_ok, Bool.false_eq_true, if_false]
    by_cases c1 : s[k] = 32
    · simp [c1, t2, t5, t7, mAnd, mTest, mO2, mVar, cutE, mC, oNe, eqS, sNil]
    · by_cases c2 : s[k] = 10
      · simp [c2, t2, t5, t7, mAnd, mTest, mO2, mVar, cutE, mC, oNe, eqS, sNil]
      · simp [c1, c2, t2, t5, t7, mAnd, mTest, mO2, mVar, cutE, mC, oNe, eqS, sApp, isOw, txs, hlim]
  by_cases c1 : s[k] ∈ t1
  · by_cases c2 : k = 0
    · subst c2
      refine rest ?_ ?_
      · simp [mAnd, mTest, mO2, mVar, cutE, oInS, c1, oGt, mC]
      · rw [htk]
        have : s[0] ∉ t2 := by revert c1; generalize s[0] = c; revert c; decide
        rw [toks_snoc_new (by rfl) this, if_neg this]
    · obtain ⟨k, rfl⟩ : ∃ n, k = n + 1 := ⟨k - 1, by omega⟩
      have hk' : k < s.length := by omega
      have hg' : oIx (.str s) (.int ((k : Int) + 1 - 1)) = some (.str [s[k]]) := by
        rw [show (k : Int) + 1 - 1 = k from by omega]; simp [oIx, hl, getI_of hk']
      have hg2 : oIx (.str s) (.int (k : Int)) = some (.str [s[k]]) := by simp [oIx, hl, getI_of hk']
      have htk' : s.take (k + 1) = s.take k ++ [s[k]] := by rw [List.take_add_one, List.getElem?_eq_getElem hk']; rfl
      have hpos : (0 : Int) < (k : Int) + 1 := by omega
      by_cases c3 : s[k] ∈ t1
      · obtain ⟨a, r, e1, e2⟩ := toks_snoc_run (p := s.take k) c1 c3
        rw [htk, htk', e1, e2]
        have hrl : r.length + 1 ≤ lim := by
          have : sz (toks (s.take (k + 1))) ≤ s.length := by omega
          rw [htk', e1] at this
          simp [sz] at this
          omega
        simp only [Int.natCast_add, Int.natCast_one] at hg
        have g1 : getI (List.map Dv.str a ++ [Dv.str r]) (-1) = some (.str r) := getI_last _ _
        have g2 : ixn (a.length + 1) (-1) = some a.length := by
          have := ixn_last a ([] : List Nat)
          simpa using this
        simp [cutBody, sSeq, sSet, mO2, mVar, cutE, hg, gN, hy, nxO, sIf, mAnd, mTest, oInS, c1, oGt, mC, hpos, oSub, hg2, c3, sPut, mOwn2, mOwn, mO1, oNeg, wIx, txs, g1, oAdd, hrl, isOw, g2]
      · refine rest ?_ ?_
        · simp only [Int.natCast_add, Int.natCast_one] at *
          simp [mAnd, mTest, mO2, mVar, cutE, oInS, c1, oGt, mC, hpos, oSub, hg2, c3]
        · rw [htk]
          have : s[k + 1] ∉ t2 := by revert c1; generalize s[k + 1] = c; revert c; decide
          rw [toks_snoc_new (by rw [htk']; exact scan_end c3) this, if_neg this]
  · refine rest ?_ ?_
    · simp [mAnd, mTest, mO2, mVar, cutE, oInS, c1]
    · rw [htk, toks_snoc_sign c1]
theorem cut_ok {s : List Nat} (hs : 2 * s.length + 2 < lim) : F__law_cut [.fz (.str s)] = .ok (.ow none (.lst (txs (toks s)))) [] := by
  have hl : s.length ≤ lim := by omega
  obtain ⟨e', hl', hI⟩ := loop_inv (g := gN 3) (b := cutBody) (ds := (List.range s.length).map fun (k : Nat) => Dv.int (0 + (k : Int))) (e := [.fz (.str s), .fz (.str t1), .ow none (.lst []), .un, .un])
    (fun k e => ∃ x y, free (some x) = true ∧ free (some y) = true ∧ e = cutE s (toks (s.take k)) x y) ⟨.un, .un, rfl, rfl, rfl⟩ (fun k d e hd hI => by
      obtain ⟨x, y, hx, hy, rfl⟩ := hI
      rw [List.getElem?_map] at hd
      obtain ⟨j, hj, rfl⟩ := Option.map_eq_some_iff.mp hd
      obtain ⟨hk, rfl⟩ := List.getElem?_eq_some_iff.mp hj
      simp only [List.length_range] at hk
      obtain ⟨y', hy', hb⟩ := cut_step (y := y) hk hs hy
      refine ⟨_, _, ?_, .inl hb, _, _, rfl, hy', rfl⟩
      simp [gN, cutE, hx])
  obtain ⟨x, y, hx, hy, rfl⟩ := hI
  simp only [List.length_map, List.length_range, List.take_length] at hl'
  have hlim : lim = 16000000 := rfl
  have hr : itR 0 (s.length : Int) = some ((List.range s.length).map fun (k : Nat) => Dv.int (0 + (k : Int))) := by
    unfold itR big
    rw [if_pos (by omega)]
    simp
  refine fn_ok rfl rfl (e := cutE s (toks s) x y) ?_ (by rfl)
  simp only [cut_eq, sSeq, sSet, mC, gN, nxO, initE, List.replicate, List.cons_append, List.nil_append, Rs.go_ok, free, List.getElem?_cons_succ, List.getElem?_cons_zero, if_true, List.set_cons_succ, List.set_cons_zero, Sr.then_nx, sSetO, mLst, mArgs, Rs.bind_ok, List.length_nil, Nat.zero_le, sFor, mRg1, mO1, mVar, oLen, hl, Rs.of_some, hr]
  rw [hl']
  simp [cutE, sRetV]
end K05

set_option linter.all false
set_option maxRecDepth 10000
/-! The rest of the law's defs. -/
namespace K05
open Ml
theorem draw_eq : F__law_draw = drawF := rfl
theorem pick_eq : F__law_pick = pickF := rfl
theorem rare_eq : F__law_rare = rareF := rfl
/-! right -/
theorem right_ok {ts : List (List Nat)} (h : ts.length < lim) : F__law_right [.fz (.tup (txs ts)), .fz (.lst (txs ts))] = .ok (.fz (.bl true)) [] := by
  have hlim : lim = 16000000 := rfl
  have hr : itR 0 (ts.length : Int) = some ((List.range ts.length).map fun (k : Nat) => Dv.int (0 + (k : Int))) := by
    unfold itR big
    rw [if_pos (by omega)]
    simp
  have hls : (txs ts).length = ts.length := by simp [txs]
  obtain ⟨acc, e', hg, ha, he⟩ := lc_inv (g := gN 2) (t := mYes) (m := mAndV (mO1 oIsS (mO2 oIx (mVar 0) (mVar 2))) (mO2 oEq (mO2 oIx (mVar 0) (mVar 2)) (mO2 oIx (mVar 1) (mVar 2)))) (vs := [2])
    (ds := (List.range ts.length).map fun (k : Nat) => Dv.int (0 + (k : Int))) (acc := []) (e := [.fz (.tup (txs ts)), .fz (.lst (txs ts)), .un])
    (fun k acc e => acc = List.replicate k (Dv.bl true) ∧ e = [.fz (.tup (txs ts)), .fz (.lst (txs ts)), .un]) ⟨rfl, rfl⟩ (fun k d acc e hd hI => by
      obtain ⟨rfl, rfl⟩ := hI
      rw [List.getElem?_map] at hd
      obtain ⟨j, hj, rfl⟩ := Option.map_eq_some_iff.mp hd
      obtain ⟨hk, rfl⟩ := List.getElem?_eq_some_iff.mp hj
      simp only [List.length_range] at hk
      have hgi : getI (txs ts) (k : Int) = some (.str ts[k]) := by
        rw [getI_of (by simp [txs]; exact hk)]; simp [txs]
      refine ⟨_, _, rfl, .inl ⟨.bl true, [.fz (.tup (txs ts)), .fz (.lst (txs ts)), .fz (.int k)], rfl, ?_, ?_, ?_, ?_⟩⟩
      · simp [mAndV, mTest, mO1, mO2, mVar, oIx, hgi, oIsS, oEq, eqS]
      · rw [List.length_replicate]; omega
      · rw [List.replicate_succ']
      · rfl)
  simp only [List.length_map, List.length_range] at ha
  subst ha; subst he
  have hb : boolsOf (List.replicate ts.length (Dv.bl true)) = some (List.replicate ts.length true) := by
    generalize ts.length = n
    induction n with
    | zero => rfl
    | succ n ih => simp [List.replicate_succ, boolsOf, ih]
  refine fn_ok rfl rfl (e := [.fz (.tup (txs ts)), .fz (.lst (txs ts)), .un]) ?_ (by rfl)
  simp only [m__law_right, sSeq, sIf, mOr, mNot, mTruth, mO1, mO2, mVar, initE, List.replicate, List.cons_append, List.nil_append, List.getElem?_cons_zero, List.getElem?_cons_succ, Rs.bind_ok, oIsT, Rs.of_some, truthD, Bool.not_true, Bool.false_eq_true, if_false, mTest, oLen, hls, oNe, eqS, decide_true, Option.map_some, Rs.go_ok, sNil, Sr.then_nx, sRet, mFz, mLc, mRg1, hr, noOw, List.all_cons, List.all_nil, Bool.and_self, if_true, wipeE, List.set_cons_succ, List.set_cons_zero]
  rw [hg]
  simp [backE, Ob.toD, oAll, hb]
/-! texts of the law's own -/
/-- a text of at most n signs -/
def Tx (n : Nat) (d : Dv) : Prop := ∃ s, d = .str s ∧ s.length ≤ n
theorem Tx.le {n m : Nat} {d : Dv} (h : Tx n d) (hm : n ≤ m) : Tx m d := let ⟨s, a, b⟩ := h; ⟨s, a, Nat.le_trans b hm⟩
def txB (n : Nat) : Dv → Bool
  | .str s => decide (s.length ≤ n)
  | _ => false
theorem txB_ok {n : Nat} {d : Dv} (h : txB n d = true) : Tx n d := by
  cases d with
  | str s => exact ⟨s, rfl, by simpa [txB] using h⟩
  | _ => simp [txB] at h
theorem all_tx {n : Nat} {ds : List Dv} (h : ds.all (txB n) = true) : ∀ d ∈ ds, Tx n d := fun d hd => txB_ok (List.all_eq_true.mp h d hd)
theorem pool_ok : ∃ xs, F__law_pool [] = .ok (.ow none (.lst xs)) [] ∧ xs ≠ [] ∧ xs.length < 1000 ∧ ∀ d ∈ xs, Tx 16 d := by
  refine ⟨(splitN 32 [] (t3 ++ t4)).map .str, ?_, by decide, by decide, all_tx (by decide)⟩
  refine fn_ok rfl rfl (e := [.fz (.str (t3 ++ t4))]) ?_ (by rfl)
  have h1 : t3.length + t4.length ≤ lim := by decide
  have h2 : t3.length + t4.length + 2 ≤ lim := by decide
  simp [m__law_pool, sSeq, sSet, mC, gN, initE, free, nxO, mO2, mVar, oAdd, h1, sRetO, mM1N, oSplit, t5, h2]
theorem signs_ok : F__law_signs [] = .ok (.fz (.str (t1 ++ t6))) [] := by
  refine fn_ok rfl rfl (e := [.fz (.str t1)]) ?_ (by rfl)
  have h1 : t1.length + t6.length ≤ lim := by decide
  simp [m__law_signs, sSeq, sSet, mC, gN, initE, free, nxO, mO2, mVar, oAdd, h1, sRet]
/-- a picked one, as it is written -/
theorem call_pick {ns : List Int} {e : Loc} {i : Nat} {j : Option Nat} {ds xs : List Dv} {ma : ME Dv} (he : e[i]? = some (.ow j (.lst ds))) (hd : Dr ns ds) (hm : ma e = .ok (.lst xs) e) (h1 : xs ≠ []) (h2 : xs.length < 1073741824) :
    ∃ x ds', mCallD F__law_pick [.own i, .val ma] e = .ok x (e.set i (.ow j (.lst ds'))) ∧ x ∈ xs ∧ Dr ns ds' := by
  obtain ⟨x, ds', h, hx, hd'⟩ := pick_ok hd h1 h2
  exact ⟨x, ds', call_2 he hm he (pick_eq ▸ h), hx, hd'⟩
theorem dig_len : ∀ (fuel n d : Nat) (ds : List Char), n < 10 ^ (d + 1) → (Nat.toDigitsCore 10 fuel n ds).length ≤ d + 1 + ds.length
  | 0, n, d, ds, _ => by simp [Nat.toDigitsCore]
  | fuel + 1, n, d, ds, h => by
    unfold Nat.toDigitsCore
    simp only
    split
    · simp; omega
    · rename_i h0
      match d with
      | 0 => exact absurd (Nat.div_eq_of_lt (by simpa using h)) h0
      | d + 1 =>
        have := dig_len fuel (n / 10) d (Nat.digitChar (n % 10) :: ds) (by rw [Nat.pow_succ] at h; omega)
        simp only [List.length_cons] at this ⊢; omega
theorem str_len {k : Int} (h0 : 0 ≤ k) (h : k < 1000000000000) : ∃ s, oStr (.int k) = some (.str s) ∧ s.length ≤ 16 := by
  obtain ⟨n, rfl⟩ := Int.eq_ofNat_of_zero_le h0
  refine ⟨((toString (n : Int)).toList.map Char.toNat), ?_, ?_⟩
  · show (if (n : Int).natAbs < 2 ^ 900 then some (Dv.str ((toString (n : Int)).toList.map Char.toNat)) else none) = _
    rw [if_pos]
    have : (10 : Nat) ^ 12 < 2 ^ 900 := by decide
    show n < 2 ^ 900
    omega
  · rw [List.length_map]
    have e : toString (n : Int) = Nat.repr n := rfl
    rw [e]
    have e2 : (Nat.repr n).toList = Nat.toDigits 10 n := by simp [Nat.repr]
    rw [e2]
    have := dig_len (n + 1) n 11 [] (by omega)
    simp only [List.length_nil] at this
    unfold Nat.toDigits
    omega
theorem piece_ok {ns : List Int} {ds : List Dv} (hd : Dr ns ds) : ∃ x ds', F__law_piece [.ow none (.lst ds)] = .ok (.fz x) [.lst ds'] ∧ Tx 16 x ∧ Dr ns ds' := by
  have key : ∃ x ds' y, m__law_piece [.ow (some 0) (.lst ds), .un] = .rt (.fz x) [.ow (some 0) (.lst ds'), y] ∧ Tx 16 x ∧ Dr ns ds' := by
    obtain ⟨k, d1, h1, b1, b2, hd1⟩ := call_draw (e := [.ow (some 0) (.lst ds), .un]) (e1 := [.ow (some 0) (.lst ds), .un]) (i := 0) (j := some 0) (ma := mC (.int 8)) (m := 8) (by rfl) hd (by rfl) (by rfl) (by decide) (by decide)
    rw [← draw_eq] at h1
    simp only [List.set_cons_zero] at h1
    have pk {xs : List Dv} {ma : ME Dv} (hm : ma [.ow (some 0) (.lst d1), .fz (.int k)] = .ok (.lst xs) [.ow (some 0) (.lst d1), .fz (.int k)]) (h1 : xs ≠ []) (h2 : xs.length < 1073741824) (ht : ∀ d ∈ xs, Tx 16 d) :
        ∃ x ds', mCallD F__law_pick [.own 0, .val ma] [.ow (some 0) (.lst d1), .fz (.int k)] = .ok x [.ow (some 0) (.lst ds'), .fz (.int k)] ∧ Tx 16 x ∧ Dr ns ds' := by
      obtain ⟨x, ds', h, hx, hd'⟩ := call_pick (e := [.ow (some 0) (.lst d1), .fz (.int k)]) (i := 0) (by rfl) hd1 hm h1 h2
      exact ⟨x, ds', h, ht x hx, hd'⟩
    by_cases c1 : k < 2
    · obtain ⟨xs, hp, p1, p2, p3⟩ := pool_ok
      obtain ⟨x, ds', h, hx, hd'⟩ := pk (ma := mFz (mCallO F__law_pool [])) (xs := xs) (by simp [mFz, call_o0 hp, Ob.toD]) p1 (by omega) p3
      exact ⟨x, ds', .fz (.int k), by simp [m__law_piece, sSeq, sSet, h1, gN, free, nxO, sIf, mTest, mO2, mVar, mC, oLt, c1, sRet, h], hx, hd'⟩
    by_cases c2 : k = 2
    · have hl : t8.length + 2 ≤ lim := by decide
      obtain ⟨x, ds', h, hx, hd'⟩ := pk (ma := mFz (mM1N oSplit (mC (.str t8)) (mC (.str t5)))) (xs := (splitN 32 [] t8).map .str) (by simp [mFz, mM1N, mC, oSplit, t5, hl, Ob.toD]) (by decide) (by decide) (all_tx (by decide))
      exact ⟨x, ds', .fz (.int k), by simp [m__law_piece, sSeq, sSet, h1, gN, free, nxO, sIf, mTest, mO2, mVar, mC, oLt, c1, sNil, oEq, eqS, c2] at h ⊢; simp [sRet, h], hx, hd'⟩
    by_cases c3 : k = 3
    · obtain ⟨x, d2, h, hx, hd2⟩ := call_pick (e := [.ow (some 0) (.lst d1), .fz (.int k)]) (i := 0) (ma := mFz (mLst [(mC (.int 2)), (mC (.int 10)), (mC (.int 100)), (mC (.int 10000)), (mO2 oPow (mC (.int 10)) (mC (.int 9)))])) (xs := [.int 2, .int 10, .int 100, .int 10000, .int 1000000000]) (by rfl) hd1 (by simp [mFz, mLst, mArgs, mC, mO2, oPow, Ob.toD]) (by decide) (by decide)
      have : ∃ m : Int, x = .int m ∧ 1 ≤ m ∧ m < 1073741824 := by
        simp only [List.mem_cons, List.not_mem_nil, or_false] at hx
        rcases hx with rfl | rfl | rfl | rfl | rfl <;> exact ⟨_, rfl, by decide, by decide⟩
      obtain ⟨m, rfl, m1, m2⟩ := this
      obtain ⟨q, d3, h3, q1, q2, hd3⟩ := call_draw (e := [.ow (some 0) (.lst d1), .fz (.int k)]) (i := 0) (by rfl) hd2 h (by rfl) m1 m2
      obtain ⟨s, hs, hl⟩ := str_len q1 (by omega)
      rw [← draw_eq] at h3
      exact ⟨.str s, d3, .fz (.int k), by simp [m__law_piece, sSeq, sSet, h1, gN, free, nxO, sIf, mTest, mO2, mVar, mC, oLt, c1, sNil, oEq, eqS, c2, c3] at h3 ⊢; simp [sRet, mO1, h3, hs], ⟨s, rfl, hl⟩, hd3⟩
    by_cases c4 : k = 4
    · obtain ⟨x, ds', h, hx, hd'⟩ := pk (ma := mFz (mLst [(mC (.str t18)), (mC (.str t17)), (mC (.str t16)), (mC (.str t15)), (mC (.str t14)), (mC (.str t13)), (mC (.str t12)), (mC (.str t11)), (mC (.str t10)), (mC (.str t9))])) (xs := [.str t18, .str t17, .str t16, .str t15, .str t14, .str t13, .str t12, .str t11, .str t10, .str t9]) (by simp [mFz, mLst, mArgs, mC, Ob.toD]) (by decide) (by decide) (all_tx (by decide))
      exact ⟨x, ds', .fz (.int k), by simp [m__law_piece, sSeq, sSet, h1, gN, free, nxO, sIf, mTest, mO2, mVar, mC, oLt, c1, sNil, oEq, eqS, c2, c3, c4] at h ⊢; simp [sRet, h], hx, hd'⟩
    by_cases c5 : k < 7
    · have hl : t19.length ≤ lim := by decide
      obtain ⟨x, ds', h, hx, hd'⟩ := pk (ma := mFz (mN1 listS (mC (.str t19)))) (xs := t19.map fun c => .str [c]) (by simp [mFz, mN1, mC, listS, hl, Ob.toD]) (by decide) (by decide) (all_tx (by decide))
      exact ⟨x, ds', .fz (.int k), by simp [m__law_piece, sSeq, sSet, h1, gN, free, nxO, sIf, mTest, mO2, mVar, mC, oLt, c1, sNil, oEq, eqS, c2, c3, c4, c5] at h ⊢; simp [sRet, h], hx, hd'⟩
    · have hl : t20.length ≤ lim := by decide
      obtain ⟨x, ds', h, hx, hd'⟩ := pk (ma := mFz (mN1 listS (mC (.str t20)))) (xs := t20.map fun c => .str [c]) (by simp [mFz, mN1, mC, listS, hl, Ob.toD]) (by decide) (by decide) (all_tx (by decide))
      exact ⟨x, ds', .fz (.int k), by simp [m__law_piece, sSeq, sSet, h1, gN, free, nxO, sIf, mTest, mO2, mVar, mC, oLt, c1, sNil, oEq, eqS, c2, c3, c4, c5] at h ⊢; simp [sRet, h], hx, hd'⟩
  obtain ⟨x, ds', y, h, h1, h2⟩ := key
  exact ⟨x, ds', fn_ok rfl rfl h rfl, h1, h2⟩
end K05

set_option linter.all false
set_option maxRecDepth 10000
/-! The law's texts, and the law. -/
namespace K05
open Ml
theorem itR_ok {n : Int} (h0 : 0 ≤ n) (h : n < 1073741824) : ∃ L, itR 0 n = some L ∧ L.length = n.toNat := by
  refine ⟨(List.range (n - 0).toNat).map fun (k : Nat) => Dv.int (0 + (k : Int)), ?_, by simp⟩
  unfold itR big
  rw [if_pos (by omega)]
def bodyA : MS := sSet (mO2 oAdd (mVar 3) (mO2 oIx (mVar 2) (mCallD F__law_draw [.own 0, .val (mO1 oLen (mVar 2))]))) (gN 3)
def bodyB : MS := sSet (mO2 oAdd (mO2 oAdd (mVar 3) (mCallD F__law_piece [.own 0])) (mCallD F__law_pick [.own 0, .val (mFz (mLst [(mC (.str t0)), (mC (.str t0)), (mC (.str t5)), (mC (.str t5)), (mC (.str t7)), (mC (.str t24)), (mC (.str t23))]))])) (gN 3)
theorem text_eq : m__law_text = (sSeq (sSet (mCallD F__law_draw [.own 0, .val (mC (.int 4))]) (gN 1))
  (sSeq (sIf (mTest (mO2 oLt (mVar 1) (mC (.int 2))))
  (sSeq (sSet (mCallD F__law_signs []) (gN 2))
  (sSeq (sIf (mTest (mO2 oEq (mVar 1) (mC (.int 1))))
  (sSet (mC (.str t21)) (gN 2))
  sNil)
  (sSeq (sSet (mC (.str t0)) (gN 3))
  (sSeq (sFor (mRg1 (mCallD F__law_draw [.own 0, .val (mO2 oAdd (mC (.int 41)) (mO2 oMul (mC (.int 20)) (mVar 1)))])) (gN 4) bodyA)
  (sRet (mVar 3))))))
  sNil)
  (sSeq (sSet (mCallD F__law_pick [.own 0, .val (mFz (mLst [(mC (.str t0)), (mC (.str t0)), (mC (.str t5)), (mC (.str t22))]))]) (gN 3))
  (sSeq (sFor (mRg1 (mCallD F__law_draw [.own 0, .val (mC (.int 25))])) (gN 4) bodyB)
  (sRet (mVar 3)))))) := rfl
theorem limv : lim = 16000000 := rfl
theorem bodyA_ok {ns : List Int} {ds : List Dv} {k : Int} {A s : List Nat} {x : Slt} {n : Nat} (hd : Dr ns ds) (hA : A ≠ []) (hA2 : A.length < 1000) (hs : s.length ≤ n) (hn : n < 10000) :
    ∃ ds' s', bodyA [.ow (some 0) (.lst ds), .fz (.int k), .fz (.str A), .fz (.str s), x] = .nx [.ow (some 0) (.lst ds'), .fz (.int k), .fz (.str A), .fz (.str s'), x] ∧ Dr ns ds' ∧ s'.length ≤ n + 1 := by
  have hA3 : 1 ≤ (A.length : Int) := by
    cases A with
    | nil => exact absurd rfl hA
    | cons => simp; omega
  have hlim := limv
  have hA4 : A.length ≤ lim := by omega
  obtain ⟨q, d2, h, q1, q2, hd2⟩ := call_draw (e := [.ow (some 0) (.lst ds), .fz (.int k), .fz (.str A), .fz (.str s), x]) (e1 := [.ow (some 0) (.lst ds), .fz (.int k), .fz (.str A), .fz (.str s), x]) (i := 0) (j := some 0) (ma := mO1 oLen (mVar 2)) (m := A.length) (by rfl) hd (by simp [mO1, mVar, oLen, hA4]) (by rfl) hA3 (by omega)
  rw [← draw_eq] at h
  obtain ⟨c, hc, _⟩ := getI_nat q1 q2
  have hsl : s.length + 1 ≤ lim := by omega
  exact ⟨d2, s ++ [c], by simp [bodyA, sSet, mO2, mVar, h, oIx, hA4, hc, oAdd, hsl, gN, free, nxO], hd2, by simp; omega⟩
theorem bodyB_ok {ns : List Int} {ds : List Dv} {k : Int} {y x : Slt} {s : List Nat} {n : Nat} (hd : Dr ns ds) (hs : s.length ≤ n) (hn : n < 10000) :
    ∃ ds' s', bodyB [.ow (some 0) (.lst ds), .fz (.int k), y, .fz (.str s), x] = .nx [.ow (some 0) (.lst ds'), .fz (.int k), y, .fz (.str s'), x] ∧ Dr ns ds' ∧ s'.length ≤ n + 19 := by
  have hlim := limv
  obtain ⟨p, d2, h, ⟨ps, rfl, hp⟩, hd2⟩ := piece_ok hd
  have h2 := call_1 (e := [.ow (some 0) (.lst ds), .fz (.int k), y, .fz (.str s), x]) (i := 0) (j := some 0) (by rfl) h
  simp only [List.set_cons_zero] at h2
  obtain ⟨g, d3, h3, hg, hd3⟩ := call_pick (e := [.ow (some 0) (.lst d2), .fz (.int k), y, .fz (.str s), x]) (i := 0) (ma := mFz (mLst [(mC (.str t0)), (mC (.str t0)), (mC (.str t5)), (mC (.str t5)), (mC (.str t7)), (mC (.str t24)), (mC (.str t23))])) (xs := [.str t0, .str t0, .str t5, .str t5, .str t7, .str t24, .str t23]) (by rfl) hd2 (by simp [mFz, mLst, mArgs, mC, Ob.toD]) (by decide) (by decide)
  obtain ⟨gs, rfl, hgl⟩ := all_tx (n := 3) (by decide) g hg
  have hsl : s.length + ps.length ≤ lim := by omega
  have hsl2 : s.length + ps.length + gs.length ≤ lim := by omega
  exact ⟨d3, s ++ ps ++ gs, by simp [bodyB, sSet, mO2, mVar, h2, h3, oAdd, hsl, hsl2, gN, free, nxO], hd3, by simp; omega⟩
theorem text_ok {ns : List Int} {ds : List Dv} (hd : Dr ns ds) : ∃ x ds', F__law_text [.ow none (.lst ds)] = .ok (.fz x) [.lst ds'] ∧ Tx 2000 x ∧ Dr ns ds' := by
  have key : ∃ x ds' r, m__law_text [.ow (some 0) (.lst ds), .un, .un, .un, .un] = .rt (.fz x) (.ow (some 0) (.lst ds') :: r) ∧ Tx 2000 x ∧ Dr ns ds' := by
    obtain ⟨k, d1, h1, b1, b2, hd1⟩ := call_draw (e := [.ow (some 0) (.lst ds), .un, .un, .un, .un]) (e1 := [.ow (some 0) (.lst ds), .un, .un, .un, .un]) (i := 0) (j := some 0) (ma := mC (.int 4)) (m := 4) (by rfl) hd (by rfl) (by rfl) (by decide) (by decide)
    rw [← draw_eq] at h1
    simp only [List.set_cons_zero] at h1
    by_cases c1 : k < 2
    · have hA : ∃ A : List Nat, A ≠ [] ∧ A.length < 1000 ∧ sSeq (sSet (mCallD F__law_signs []) (gN 2)) (sIf (mTest (mO2 oEq (mVar 1) (mC (.int 1)))) (sSet (mC (.str t21)) (gN 2)) sNil) [.ow (some 0) (.lst d1), .fz (.int k), .un, .un, .un] = .nx [.ow (some 0) (.lst d1), .fz (.int k), .fz (.str A), .un, .un] := by
        by_cases c2 : k = 1
        · exact ⟨t21, by decide, by decide, by simp [sSeq, sSet, call_v0 signs_ok, gN, free, nxO, sIf, mTest, mO2, mVar, mC, oEq, eqS, c2]⟩
        · exact ⟨t1 ++ t6, by decide, by decide, by simp [sSeq, sSet, call_v0 signs_ok, gN, free, nxO, sIf, mTest, mO2, mVar, mC, oEq, eqS, c2, sNil]⟩
      obtain ⟨A, hA1, hA2, hA3⟩ := hA
      obtain ⟨q, d2, h2, q1, q2, hd2⟩ := call_draw (e := [.ow (some 0) (.lst d1), .fz (.int k), .fz (.str A), .fz (.str t0), .un]) (e1 := [.ow (some 0) (.lst d1), .fz (.int k), .fz (.str A), .fz (.str t0), .un]) (i := 0) (j := some 0) (ma := mO2 oAdd (mC (.int 41)) (mO2 oMul (mC (.int 20)) (mVar 1))) (m := 41 + 20 * k) (by rfl) hd1 (by simp [mO2, mC, mVar, oMul, oAdd]) (by rfl) (by omega) (by omega)
      rw [← draw_eq] at h2
      simp only [List.set_cons_zero] at h2
      obtain ⟨L, hL, hLl⟩ := itR_ok q1 (by omega)
      obtain ⟨e', hl, ds', s', x', rfl, hd', hs'⟩ := loop_inv (g := gN 4) (b := bodyA) (ds := L) (e := [.ow (some 0) (.lst d2), .fz (.int k), .fz (.str A), .fz (.str t0), .un])
        (fun j e => ∃ ds' s' x', e = [.ow (some 0) (.lst ds'), .fz (.int k), .fz (.str A), .fz (.str s'), x'] ∧ (Dr ns ds' ∧ free (some x') = true) ∧ s'.length ≤ j) ⟨d2, t0, .un, rfl, ⟨hd2, rfl⟩, Nat.le_refl _⟩ (fun j d e hj hI => by
          obtain ⟨ds', s', x', rfl, ⟨hd', hx'⟩, hs'⟩ := hI
          have hjl : j < L.length := (List.getElem?_eq_some_iff.mp hj).1
          obtain ⟨ds2, s2, hb, g1, g2⟩ := bodyA_ok (k := k) (x := .fz d) hd' hA1 hA2 hs' (by omega)
          exact ⟨_, _, by simp [gN, hx'], .inl hb, ds2, s2, .fz d, rfl, ⟨g1, rfl⟩, g2⟩)
      refine ⟨.str s', ds', [.fz (.int k), .fz (.str A), .fz (.str s'), x'], ?_, ⟨s', rfl, by omega⟩, hd'.1⟩
      have as : ∀ (a b t : MS) (e : Loc), sSeq a (sSeq b t) e = sSeq (sSeq a b) t e := fun a b t e => by
        unfold sSeq; cases a e <;> rfl
      rw [text_eq, seq_nx (set_ok h1 rfl)]
      refine seq_rt ?_
      rw [if_t (e1 := [.ow (some 0) (.lst d1), .fz (.int k), .un, .un, .un]) (by simp [mTest, mO2, mVar, mC, oLt, c1]), as]
      rw [seq_nx hA3]
      refine (seq_nx (set_ok (m := mC (.str t0)) (g := gN 3) (e1 := [.ow (some 0) (.lst d1), .fz (.int k), .fz (.str A), .un, .un]) rfl rfl)).trans ?_
      refine (seq_nx ((for_ok (rg1_ok h2 hL)).trans hl)).trans ?_
      exact ret_ok rfl
    · have hi : sIf (mTest (mO2 oLt (mVar 1) (mC (.int 2))))
          (sSeq (sSet (mCallD F__law_signs []) (gN 2))
          (sSeq (sIf (mTest (mO2 oEq (mVar 1) (mC (.int 1))))
          (sSet (mC (.str t21)) (gN 2))
          sNil)
          (sSeq (sSet (mC (.str t0)) (gN 3))
          (sSeq (sFor (mRg1 (mCallD F__law_draw [.own 0, .val (mO2 oAdd (mC (.int 41)) (mO2 oMul (mC (.int 20)) (mVar 1)))])) (gN 4) bodyA)
          (sRet (mVar 3)))))) sNil [.ow (some 0) (.lst d1), .fz (.int k), .un, .un, .un] = .nx [.ow (some 0) (.lst d1), .fz (.int k), .un, .un, .un] :=
        if_f (by simp [mTest, mO2, mVar, mC, oLt, c1])
      obtain ⟨s0, d2, h2, hs0, hd2⟩ := call_pick (e := [.ow (some 0) (.lst d1), .fz (.int k), .un, .un, .un]) (i := 0) (ma := mFz (mLst [(mC (.str t0)), (mC (.str t0)), (mC (.str t5)), (mC (.str t22))])) (xs := [.str t0, .str t0, .str t5, .str t22]) (by rfl) hd1 (by simp [mFz, mLst, mArgs, mC, Ob.toD]) (by decide) (by decide)
      obtain ⟨ss, rfl, hss⟩ := all_tx (n := 2) (by decide) s0 hs0
      simp only [List.set_cons_zero] at h2
      obtain ⟨q, d3, h3, q1, q2, hd3⟩ := call_draw (e := [.ow (some 0) (.lst d2), .fz (.int k), .un, .fz (.str ss), .un]) (e1 := [.ow (some 0) (.lst d2), .fz (.int k), .un, .fz (.str ss), .un]) (i := 0) (j := some 0) (ma := mC (.int 25)) (m := 25) (by rfl) hd2 (by rfl) (by rfl) (by decide) (by decide)
      rw [← draw_eq] at h3
      simp only [List.set_cons_zero] at h3
      obtain ⟨L, hL, hLl⟩ := itR_ok q1 (by omega)
      obtain ⟨e', hl, ds', s', x', rfl, hd', hs'⟩ := loop_inv (g := gN 4) (b := bodyB) (ds := L) (e := [.ow (some 0) (.lst d3), .fz (.int k), .un, .fz (.str ss), .un])
        (fun j e => ∃ ds' s' x', e = [.ow (some 0) (.lst ds'), .fz (.int k), .un, .fz (.str s'), x'] ∧ (Dr ns ds' ∧ free (some x') = true) ∧ s'.length ≤ 2 + 19 * j) ⟨d3, ss, .un, rfl, ⟨hd3, rfl⟩, by omega⟩ (fun j d e hj hI => by
          obtain ⟨ds', s', x', rfl, ⟨hd', hx'⟩, hs'⟩ := hI
          have hjl : j < L.length := (List.getElem?_eq_some_iff.mp hj).1
          obtain ⟨ds2, s2, hb, g1, g2⟩ := bodyB_ok (k := k) (y := .un) (x := .fz d) hd' hs' (by omega)
          exact ⟨_, _, by simp [gN, hx'], .inl hb, ds2, s2, .fz d, rfl, ⟨g1, rfl⟩, by omega⟩)
      refine ⟨.str s', ds', [.fz (.int k), .un, .fz (.str s'), x'], ?_, ⟨s', rfl, by omega⟩, hd'.1⟩
      rw [text_eq]
      refine (seq_nx (set_ok h1 rfl)).trans ?_
      refine (seq_nx hi).trans ?_
      refine (seq_nx (set_ok h2 rfl)).trans ?_
      refine (seq_nx ((for_ok (rg1_ok h3 hL)).trans hl)).trans ?_
      exact ret_ok rfl
  obtain ⟨x, ds', r, h, h1, h2⟩ := key
  exact ⟨x, ds', fn_ok rfl rfl h rfl, h1, h2⟩
theorem long_ok {ns : List Int} {ds : List Dv} {s : List Nat} (hd : Dr ns ds) (hs : s.length ≤ 2000) : ∃ x ds', F__law_long [.ow none (.lst ds), .fz (.str s)] = .ok (.fz x) [.lst ds'] ∧ Tx 3900 x ∧ Dr ns ds' := by
  have hlim := limv
  have hsl : s.length ≤ lim := by omega
  have key : ∃ x ds' y, m__law_long [.ow (some 0) (.lst ds), .fz (.str s)] = .rt (.fz x) [.ow (some 0) (.lst ds'), y] ∧ Tx 3900 x ∧ Dr ns ds' := by
    by_cases c : 0 < s.length
    · have c' : (0 : Int) < s.length := by omega
      obtain ⟨b, d2, h, hd2⟩ := rare_ok (m := 9) hd (by decide) (by decide)
      have h2 := call_2 (e := [.ow (some 0) (.lst ds), .fz (.str s)]) (ma := mC (.int 9)) (i := 0) (j := some 0) (by rfl) rfl (by rfl) (rare_eq ▸ h)
      simp only [List.set_cons_zero] at h2
      cases b with
      | true =>
        have k0 : (s.length : Int) ≠ 0 := by omega
        have hq : (3900 : Int).fdiv s.length = ((3900 / s.length : Nat) : Int) := by
          rw [Int.fdiv_eq_ediv_of_nonneg _ (by omega)]; rfl
        have hm : s.length * (3900 / s.length) ≤ 3900 := Nat.mul_div_le 3900 s.length
        have hq2 : 3900 / s.length ≤ 3900 := Nat.div_le_self _ _
        refine ⟨.str (List.replicate (3900 / s.length) s).flatten, d2, .fz (.str s), ?_, ⟨_, rfl, ?_⟩, hd2⟩
        · refine seq_rt ((if_t (e1 := [.ow (some 0) (.lst d2), .fz (.str s)]) ?_).trans (ret_ok (e1 := [.ow (some 0) (.lst d2), .fz (.str s)]) ?_))
          · exact (and_t (e1 := [.ow (some 0) (.lst ds), .fz (.str s)]) (by simp [mTest, mO2, mO1, mVar, oLen, hsl, mC, oGt, c])).trans (truth_b h2)
          · have g1 : s.length * (3900 / s.length) ≤ lim := by omega
            have g2 : 3900 / s.length < 1152921504606846976 := by omega
            have g3 : s.length < 1073741824 := by omega
            have g4 : s ≠ [] := by rintro rfl; simp at c
            have hq3 : (3900 : Int) / s.length = ((3900 / s.length : Nat) : Int) := rfl
            generalize 3900 / s.length = q at *
            simp [mO2, mO1, mVar, mC, oLen, hsl, oDiv, k0, hq, hq3, oRepS, g1, g2, g3, g4]
        · simp only [List.length_flatten, List.map_replicate, List.sum_replicate_nat]
          rw [Nat.mul_comm]; exact hm
      | false =>
        refine ⟨.str s, d2, .fz (.str s), ?_, ⟨s, rfl, by omega⟩, hd2⟩
        refine (seq_nx (e1 := [.ow (some 0) (.lst d2), .fz (.str s)]) ((if_f (e1 := [.ow (some 0) (.lst d2), .fz (.str s)]) ?_).trans rfl)).trans (ret_ok rfl)
        exact (and_t (e1 := [.ow (some 0) (.lst ds), .fz (.str s)]) (by simp [mTest, mO2, mO1, mVar, oLen, hsl, mC, oGt, c])).trans (truth_b h2)
    · refine ⟨.str s, ds, .fz (.str s), ?_, ⟨s, rfl, by omega⟩, hd⟩
      refine (seq_nx (e1 := [.ow (some 0) (.lst ds), .fz (.str s)]) ((if_f (e1 := [.ow (some 0) (.lst ds), .fz (.str s)]) ?_).trans rfl)).trans (ret_ok rfl)
      exact and_f (by simp [mTest, mO2, mO1, mVar, oLen, hsl, mC, oGt, c])
  obtain ⟨x, ds', y, h, h1, h2⟩ := key
  exact ⟨x, ds', fn_ok rfl rfl h rfl, h1, h2⟩
end K05

set_option linter.all false
set_option maxRecDepth 10000
/-! The law's truth. -/
namespace K05
open Ml
theorem tok_call {e e1 : Loc} {ma : ME Dv} {s : List Nat} (hm : ma e = .ok (.str s) e1) (h : s.length < 100000) : mCallD F_tokens_of [.val ma] e = .ok (.tup (txs (toks s))) e1 :=
  call_v1 hm (tokens_ok (by have := limv; omega))
theorem cut_call {e e1 : Loc} {ma : ME Dv} {s : List Nat} (hm : ma e = .ok (.str s) e1) (h : s.length < 100000) : mFz (mCallO F__law_cut [.val ma]) e = .ok (.lst (txs (toks s))) e1 :=
  fz_ok (call_o1 hm (cut_ok (by have := limv; omega)))
theorem right_call {e e1 e2 : Loc} {ma mb : ME Dv} {ts us : List (List Nat)} (h1 : ma e = .ok (.tup (txs ts)) e1) (h2 : mb e1 = .ok (.lst (txs us)) e2) (hu : ts = us) (hl : ts.length < 1000000) : mCallD F__law_right [.val ma, .val mb] e = .ok (.bl true) e2 := by
  subst hu
  exact call_v2 h1 h2 (right_ok (by have := limv; omega))
theorem strsOf_txs (ts : List (List Nat)) : strsOf (txs ts) = some ts := by
  induction ts with
  | nil => rfl
  | cons a r ih => simp only [txs, List.map_cons] at ih ⊢; simp [strsOf, ih]
theorem join_call {e e1 e2 : Loc} {ma mb : ME Dv} {g : List Nat} {ts : List (List Nat)} (h1 : ma e = .ok (.str g) e1) (h2 : mb e1 = .ok (.lst (txs ts)) e2) (hl : sz ts + ts.length * g.length < 1000000) : mM1 oJoin ma mb e = .ok (.str (joinN g ts)) e2 := by
  have hlim := limv
  unfold mM1
  rw [h1]
  simp only [Rs.bind_ok]
  rw [h2]
  simp only [Rs.bind_ok, oJoin, strsOf_txs, Option.bind_some]
  rw [if_pos (by unfold sz at hl; omega)]
  rfl
theorem add_call {e e1 e2 : Loc} {ma mb : ME Dv} {a b : List Nat} (h1 : ma e = .ok (.str a) e1) (h2 : mb e1 = .ok (.str b) e2) (hl : a.length + b.length < 1000000) : mO2 oAdd ma mb e = .ok (.str (a ++ b)) e2 := by
  have hlim := limv
  have hl' : a.length + b.length ≤ lim := by omega
  simp [mO2, h1, h2, oAdd, hl']
/-- what is behind the checks -/
def okE (d : List Dv) (s : List Nat) (k : Int) (g : List Nat) (x : Slt) : Loc := [.un, .ow none (.lst d), .fz (.str s), .fz (.lst (txs (toks s))), .fz (.int k), .fz (.str g), x]
theorem guard_ok {m : ME Dv} {a : MS} {e e1 : Loc} (h : m e = .ok (.bl true) e1) : sIf (mNot (mTruth m)) a sNil e = .nx e1 := if_f (not_ok (truth_b h))
theorem skip_ok {t : ME Bool} {a : MS} {e e1 : Loc} (h : t e = .ok false e1) : sIf t a sNil e = .nx e1 := if_f h
theorem ex_tr {r r2 : Sr} {v : Slt} (h : r = r2) (h2 : ∃ e, r2 = .rt v e) : ∃ e, r = .rt v e := h ▸ h2
theorem law_true : ∀ ns : List Int, ns.length ≤ 63 → ∃ e, m_law (lawE ns 5) = .rt (.fz (.bl true)) e := by
  intro ns _
  have hlim := limv
  have hd0 : Dr ns [.scr ns, .int 0, .int 0, .int 7] := ⟨0, 0, 7, rfl, by decide, by decide, by decide⟩
  obtain ⟨x1, d1, h1, ⟨s0, rfl, hs0⟩, hd1⟩ := text_ok hd0
  have g1 := call_1 (e := lawE ns 5) (i := 1) (j := none) (by rfl) h1
  obtain ⟨x2, d2, h2, ⟨s, rfl, hs⟩, hd2⟩ := long_ok hd1 hs0
  have g2 := call_2 (F := F__law_long) (e := lawE ns 5) (i := 1) (j := none) (by rfl) g1 (by rfl) h2
  have hsl : s.length ≤ lim := by omega
  have tl := toks_len s
  have ts := toks_sz s
  unfold m_law
  refine ex_tr (seq_nx (set_ok g2 rfl)) ?_
  change ∃ e, sSeq _ _ [.un, .ow none (.lst d2), .fz (.str s), .un, .un, .un, .un] = .rt _ e
  refine ex_tr (seq_nx (set_ok (cut_call (s := s) rfl (by omega)) rfl)) ?_
  change ∃ e, sSeq _ _ [.un, .ow none (.lst d2), .fz (.str s), .fz (.lst (txs (toks s))), .un, .un, .un] = .rt _ e
  have hR : mCallD F__law_right [.val (mCallD F_tokens_of [.val (mVar 2)]), .val (mVar 3)] [.un, .ow none (.lst d2), .fz (.str s), .fz (.lst (txs (toks s))), .un, .un, .un] = .ok (.bl true) [.un, .ow none (.lst d2), .fz (.str s), .fz (.lst (txs (toks s))), .un, .un, .un] :=
    right_call (tok_call (s := s) rfl (by omega)) rfl rfl (by omega)
  refine ex_tr (seq_nx (guard_ok hR)) ?_
  obtain ⟨k, d3, h3, k1, k2, hd3⟩ := call_draw (e := [.un, .ow none (.lst d2), .fz (.str s), .fz (.lst (txs (toks s))), .un, .un, .un]) (e1 := [.un, .ow none (.lst d2), .fz (.str s), .fz (.lst (txs (toks s))), .un, .un, .un]) (i := 1) (j := none) (ma := mO2 oAdd (mO1 oLen (mVar 2)) (mC (.int 1))) (m := s.length + 1) (by rfl) hd2 (by simp [mO2, mO1, mVar, oLen, hsl, mC, oAdd]) (by rfl) (by omega) (by omega)
  refine ex_tr (seq_nx (set_ok (draw_eq ▸ h3) rfl)) ?_
  obtain ⟨gd, d4, h4, hg, hd4⟩ := call_pick (e := [.un, .ow none (.lst d3), .fz (.str s), .fz (.lst (txs (toks s))), .fz (.int k), .un, .un]) (i := 1) (ma := mFz (mLst [(mC (.str t5)), (mC (.str t7)), (mC (.str t24)), (mC (.str t2)), (mC (.str t25))])) (xs := [.str t5, .str t7, .str t24, .str t2, .str t25]) (by rfl) hd3 (by simp [mFz, mLst, mArgs, mC, Ob.toD]) (by decide) (by decide)
  have hgap : ∃ g : List Nat, gd = .str g ∧ g ≠ [] ∧ (∀ c ∈ g, c ∈ t2) ∧ g.length ≤ 3 := by
    simp only [List.mem_cons, List.not_mem_nil, or_false] at hg
    rcases hg with rfl | rfl | rfl | rfl | rfl <;> exact ⟨_, rfl, by decide, by decide, by decide⟩
  obtain ⟨g, rfl, g0, gg, gl⟩ := hgap
  refine ex_tr (seq_nx (set_ok h4 rfl)) ?_
  change ∃ e, sSeq _ _ (okE d4 s k g .un) = .rt _ e
  obtain ⟨n, rfl⟩ := Int.eq_ofNat_of_zero_le k1
  have sA : mSl slS (mVar 2) none (some (mVar 4)) (okE d4 s n g .un) = .ok (.str (cutN s none (some (n : Int)))) (okE d4 s n g .un) := by
    simp [mSl, mVar, okE, mPart, slS, hsl]
  have sB : mSl slS (mVar 2) (some (mVar 4)) none (okE d4 s n g .un) = .ok (.str (cutN s (some (n : Int)) none)) (okE d4 s n g .un) := by
    simp [mSl, mVar, okE, mPart, slS, hsl]
  have lA : (cutN s none (some (n : Int))).length ≤ s.length := by simp only [cutN, List.length_take, List.length_drop]; omega
  have lB : (cutN s (some (n : Int)) none).length ≤ s.length := by simp only [cutN, List.length_take, List.length_drop]; omega
  generalize cutN s none (some (n : Int)) = A at *
  generalize cutN s (some (n : Int)) none = B at *
  have tA := toks_len A
  have tB := toks_len B
  have tAB : toks (A ++ g ++ B) = toks A ++ toks B := toks_gap A B g0 gg
  have hcat : mFz (mN2 oCat (mFz (mCallO F__law_cut [.val (mSl slS (mVar 2) none (some (mVar 4)))])) (mFz (mCallO F__law_cut [.val (mSl slS (mVar 2) (some (mVar 4)) none)]))) (okE d4 s n g .un) = .ok (.lst (txs (toks A ++ toks B))) (okE d4 s n g .un) := by
    refine fz_ok (o := .lst (txs (toks A ++ toks B))) ?_
    unfold mN2
    rw [cut_call sA (by omega)]
    simp only [Rs.bind_ok]
    rw [cut_call sB (by omega)]
    have hl : (toks A).length + (toks B).length ≤ lim := by omega
    simp [oCat, hl, txs]
  have hT : mCallD F_tokens_of [.val (mO2 oAdd (mO2 oAdd (mSl slS (mVar 2) none (some (mVar 4))) (mVar 5)) (mSl slS (mVar 2) (some (mVar 4)) none))] (okE d4 s n g .un) = .ok (.tup (txs (toks (A ++ g ++ B)))) (okE d4 s n g .un) :=
    tok_call (add_call (add_call sA (b := g) rfl (by omega)) sB (by simp only [List.length_append]; omega)) (by simp only [List.length_append]; omega)
  have hR2 := right_call hT hcat tAB (by rw [tAB, List.length_append]; omega)
  refine ex_tr (seq_nx (guard_ok hR2)) ?_
  have hm : (toks s).length * g.length ≤ (toks s).length * 3 := Nat.mul_le_mul_left _ gl
  have lJ := join_len g (toks s)
  have hJ : mM1 oJoin (mVar 5) (mVar 3) (okE d4 s n g .un) = .ok (.str (joinN g (toks s))) (okE d4 s n g .un) := join_call rfl rfl (by omega)
  have hW : mCallD F__law_right [.val (mCallD F_tokens_of [.val (mO2 oAdd (mO2 oAdd (mVar 5) (mM1 oJoin (mVar 5) (mVar 3))) (mVar 5))]), .val (mVar 3)] (okE d4 s n g .un) = .ok (.bl true) (okE d4 s n g .un) :=
    right_call (tok_call (add_call (add_call (a := g) rfl hJ (by omega)) (b := g) rfl (by simp only [List.length_append]; omega)) (by simp only [List.length_append]; omega)) rfl (toks_wide s g0 gg) (by rw [toks_wide s g0 gg]; omega)
  have hC : ∃ b, mTest (mO2 oLe (mO1 oLen (mVar 2)) (mC (.int 900))) (okE d4 s n g .un) = .ok b (okE d4 s n g .un) := ⟨decide ((s.length : Int) ≤ 900), by simp [mTest, mO2, mO1, mVar, oLen, hsl, mC, oLe, okE]⟩
  have hI : mAnd (mTest (mO2 oLe (mO1 oLen (mVar 2)) (mC (.int 900)))) (mNot (mTruth (mCallD F__law_right [.val (mCallD F_tokens_of [.val (mO2 oAdd (mO2 oAdd (mVar 5) (mM1 oJoin (mVar 5) (mVar 3))) (mVar 5))]), .val (mVar 3)]))) (okE d4 s n g .un) = .ok false (okE d4 s n g .un) := by
    obtain ⟨b, hb⟩ := hC
    cases b with
    | false => exact and_f hb
    | true => exact (and_t hb).trans (not_ok (truth_b hW))
  refine ex_tr (seq_nx (skip_ok hI)) ?_
  have hQ : mM1 oJoin (mC (.str t0)) (mVar 3) (okE d4 s n g .un) = .ok (.str (joinN t0 (toks s))) (okE d4 s n g .un) := join_call rfl rfl (by simp only [t0, List.length_nil]; omega)
  have lQ := join_len t0 (toks s)
  simp only [t0, List.length_nil] at lQ
  have lQ2 : (joinN t0 (toks s)).length ≤ s.length := by simp only [t0]; omega
  refine ex_tr (seq_nx (set_ok hQ rfl)) ?_
  change ∃ e, sRet _ (okE d4 s n g (.fz (.str (joinN t0 (toks s))))) = .rt _ e
  generalize joinN t0 (toks s) = q at *
  have tq := toks_len q
  refine ⟨_, ret_ok (e1 := okE d4 s n g (.fz (.str q))) ?_⟩
  unfold mAndV
  have hZ : mCallD F__law_right [.val (mCallD F_tokens_of [.val (mVar 6)]), .val (mFz (mCallO F__law_cut [.val (mVar 6)]))] (okE d4 s n g (.fz (.str q))) = .ok (.bl true) (okE d4 s n g (.fz (.str q))) :=
    right_call (tok_call (s := q) rfl (by omega)) (cut_call (s := q) rfl (by omega)) rfl (by omega)
  rw [test_b hZ]
  simp only [Rs.bind_ok, if_true]
  exact right_call (tok_call (s := s) rfl (by omega)) rfl rfl (by omega)
end K05

set_option Elab.async false
set_option linter.all false
set_option maxRecDepth 100000
set_option maxHeartbeats 4000000
namespace K05
open PySem PySem.Spec PyProof.Rows L2 Ml
def topS (i : Nat) : Stmt := PySem.Challenge.pw_edgesaway_k05_tokens.main.body.getD i (.Pass ⟨0, 0, 0, 0⟩)
theorem t0_eq : (("" : Str)) = sOf t0 := by decide +kernel
theorem t1_eq : (("abcdefghijklmnopqrstuvwxyzABCDEFGHIJKLMNOPQRSTUVWXYZ0123456789" : Str)) = sOf t1 := by decide +kernel
theorem t2_eq : ((" \n" : Str)) = sOf t2 := by decide +kernel
theorem t3_eq : (("a b2 town road r k0 seat z9z full tail n m8 aa busy shop p t4 even2 ab1 ship u v2 w lane high mid " : Str)) = sOf t3 := by decide +kernel
theorem t4_eq : (("s t e f g h j x y q7 deep turn gate l5 hold next1 c0 d2 two zz1 near far9 last ring2 aaaaaaa8" : Str)) = sOf t4 := by decide +kernel
theorem t5_eq : ((" " : Str)) = sOf t5 := by decide +kernel
theorem t6_eq : ((" \n;#$</|*+?()[],:!\"&'-.=>@\\^_`{}~" : Str)) = sOf t6 := by decide +kernel
theorem t7_eq : (("\n" : Str)) = sOf t7 := by decide +kernel
theorem t8_eq : (("kind label many single mark firm edge find way and or not stay at" : Str)) = sOf t8 := by decide +kernel
theorem t9_eq : (("KIND" : Str)) = sOf t9 := by decide +kernel
theorem t10_eq : (("x1y2z3" : Str)) = sOf t10 := by decide +kernel
theorem t11_eq : (("longerthaneight" : Str)) = sOf t11 := by decide +kernel
theorem t12_eq : (("9Z" : Str)) = sOf t12 := by decide +kernel
theorem t13_eq : (("aB" : Str)) = sOf t13 := by decide +kernel
theorem t14_eq : (("Zz9" : Str)) = sOf t14 := by decide +kernel
theorem t15_eq : (("A" : Str)) = sOf t15 := by decide +kernel
theorem t16_eq : (("1a" : Str)) = sOf t16 := by decide +kernel
theorem t17_eq : (("00" : Str)) = sOf t17 := by decide +kernel
theorem t18_eq : (("007" : Str)) = sOf t18 := by decide +kernel
theorem t19_eq : ((";#$</|*+?()[],:" : Str)) = sOf t19 := by decide +kernel
theorem t20_eq : (("!\"&'-.=>@\\^_`{}~" : Str)) = sOf t20 := by decide +kernel
theorem t21_eq : (("ab1A #;\n" : Str)) = sOf t21 := by decide +kernel
theorem t22_eq : (("\n " : Str)) = sOf t22 := by decide +kernel
theorem t23_eq : ((" \n " : Str)) = sOf t23 := by decide +kernel
theorem t24_eq : (("  " : Str)) = sOf t24 := by decide +kernel
theorem t25_eq : (("\n \n" : Str)) = sOf t25 := by decide +kernel
section
variable {P : Program} {w : World} {K : PySem.W.Frag} {mg : Str → Option Value} {base : Heap} {RE : Err → Value → Option Addr → Hp → Hp → Prop}
abbrev s_tokens_of : Stmt := topS 3
abbrev N_tokens_of : List Str := ["text", "tokens", "run", "sign"]
theorem sc_tokens_of : FnScope N_tokens_of ["text"] (defScope (topS 3)) := ⟨rfl, rfl, rfl, by decide +kernel, rfl, by decide +kernel, by decide +kernel⟩
theorem cl_tokens_of (M : Mg K mg) (D : DefK K "tokens_of" s_tokens_of) (z_tuple : FreeK K "tuple") (c_GAPS : ConK K "GAPS" (.str (" \n" : Str))) (c_RUN_SIGNS : ConK K "RUN_SIGNS" (.str ("abcdefghijklmnopqrstuvwxyzABCDEFGHIJKLMNOPQRSTUVWXYZ0123456789" : Str))) : Kept P w K mg base CX0 1 "tokens_of" (spM K RE F_tokens_of) := by
  refine cl_of (k := 0) D M (fun _ _ _ _ _ _ us hl => match us, hl with | [_], _ => rfl) sc_tokens_of rfl rfl rfl fun f cdv A outer s H E hr => ?_
  have nd := sc_tokens_of.nd
  refine ⟨?A, _, (pss_cons (ps_set (i := 1) nd rfl (Or.inl rfl) (pe_lst pa_nil))
      (pss_cons (ps_set (i := 2) nd rfl (Or.inl rfl) pe_str)
      (pss_cons (ps_for PassesOwn.never rfl (pi_str (pv 0)) (pg_name (i := 3) nd rfl (Or.inl rfl))
      (pss_cons (ps_if (pt_cmpR op_in_sign (pv 3) (C8.pe_gc rfl (M.con c_RUN_SIGNS)) (by rfl)) (pss_cons (ps_aug (i := 2) nd rfl (Or.inl rfl) (pv 3) iop_add_str)
      (pss_one ps_continue)) pss_nil)
      (pss_cons (ps_if (pt_tr (K := K) rfl (pv 2) (by intro _; rfl)) (pss_cons (ps_expr (pe_bm PySem.F.plainAttrs_list PySem.F.slot_list_append PySem.F.type_list_append mt_append (pv 1) (pa_cons (pv 2) pa_nil)))
      (pss_one (ps_set (i := 2) nd rfl (Or.inl rfl) pe_str))) pss_nil)
      (pss_one (ps_if (pt_cmpR op_notIn_sign (pv 3) (C8.pe_gc rfl (M.con c_GAPS)) (by rfl)) (pss_one (ps_expr (pe_bm PySem.F.plainAttrs_list PySem.F.slot_list_append PySem.F.type_list_append mt_append (pv 1) (pa_cons (pv 3) pa_nil)))) pss_nil)))))
      (pss_cons (ps_if (pt_tr (K := K) rfl (pv 2) (by intro _; rfl)) (pss_one (ps_expr (pe_bm PySem.F.plainAttrs_list PySem.F.slot_list_append PySem.F.type_list_append mt_append (pv 1) (pa_cons (pv 2) pa_nil)))) pss_nil)
      (pss_one (ps_ret (pe_callTy (T := "tuple") (tupK (K := K) rfl) (by rfl) (M.free z_tuple) (by decide +kernel) (pa_cons (pv 1) pa_nil)))))))), fun sc Hs Ps => ?z⟩
  case z => exact (ss_seq (ss_setO (seo_lst sa_nil))
      (ss_seq (ss_set (se_s t0_eq) sg_name)
      (ss_seq (ss_for (si_str se_var) sg_name
      (ss_seq (ss_if (st_test (se_op rv_inS se_var (se_s t1_eq))) (ss_seq (ss_aug rv_addS0 se_var)
      ss_cnt) ss_nil)
      (ss_seq (ss_if (st_truth rfl se_var) (ss_seq (ss_app se_var)
      (ss_set (se_s t0_eq) sg_name)) ss_nil)
      (ss_if (st_test (se_op rv_niS se_var (se_s t2_eq))) (ss_app se_var) ss_nil))))
      (ss_seq (ss_if (st_truth rfl se_var) (ss_app se_var) ss_nil)
      (ss_ret (se_cb1O (rw_tup rfl)))))))
abbrev s__law_draw : Stmt := topS 6
abbrev N__law_draw : List Str := ["_law_d", "_law_many", "_law_found", "_law_size", "_law_cell"]
theorem sc__law_draw : FnScope N__law_draw ["_law_d", "_law_many"] (defScope (topS 6)) := ⟨rfl, rfl, rfl, by decide +kernel, rfl, by decide +kernel, by decide +kernel⟩
theorem cl__law_draw (M : Mg K mg) (D : DefK K "_law_draw" s__law_draw) (z_abs : FreeK K "abs") (z_int : FreeK K "int") (z_len : FreeK K "len") : Kept P w K mg base CX0 1 "_law_draw" (spM K RE F__law_draw) := by
  refine cl_of (k := 0) D M (fun _ _ _ _ _ _ us hl => match us, hl with | [_, _], _ => rfl) sc__law_draw rfl rfl rfl fun f cdv A outer s H E hr => ?_
  have nd := sc__law_draw.nd
  refine ⟨?A, _, (pss_cons (ps_if (pt_cmpR op_gt (pe_ix (ixL (K := K) rfl) (pv 0) pe_int (fun _ _ => rfl)) pe_int (nomark _)) (pss_cons (ps_set (i := 2) nd rfl (Or.inl rfl) (pe_ix (ixL (K := K) rfl) (pv 0) pe_int (fun _ _ => rfl)))
      (pss_cons (ps_asg (pe_op op_fdivN (pv 2) (pv 1)) (pg_sub (pv 0) pe_int set_list))
      (pss_one (ps_ret (pe_op op_modN (pe_callTy (T := "int") call_int1 (by rfl) (M.free z_int) (by decide +kernel) (pa_cons (pv 2) pa_nil)) (pv 1)))))) pss_nil)
      (pss_cons (ps_set (i := 3) nd rfl (Or.inl rfl) pe_int)
      (pss_cons (ps_if (pt_cmpR op_lt (pe_ix (ixL (K := K) rfl) (pv 0) pe_int (fun _ _ => rfl)) (pe_callB (id := "len") (lenK (K := K) rfl) (by rfl) (M.free z_len) (by decide +kernel) (pa_cons (pe_ix (ixL (K := K) rfl) (pv 0) pe_int (fun _ _ => rfl)) pa_nil)) (nomark _)) (pss_cons (ps_set (i := 4) nd rfl (Or.inl rfl) (pe_ix (ixK (K := K) rfl) (pe_ix (ixL (K := K) rfl) (pv 0) pe_int (fun _ _ => rfl)) (pe_ix (ixL (K := K) rfl) (pv 0) pe_int (fun _ _ => rfl)) (fun _ _ => rfl)))
      (pss_one (ps_set (i := 3) nd rfl (Or.inl rfl) (pe_op (op_add.or op_add_str) (pe_op op_mul pe_int (pe_callB (id := "abs") call_abs (by rfl) (M.free z_abs) (by decide +kernel) (pa_cons (pv 4) pa_nil))) (pe_callTy (T := "int") call_int1 (by rfl) (M.free z_int) (by decide +kernel) (pa_cons (pe_cmpR op_lt (pv 4) pe_int (nomark _)) pa_nil)))))) pss_nil)
      (pss_cons (ps_augS (pv 0) pe_int (getK (K := K) rfl) pe_int ip_add set_list)
      (pss_cons (ps_if (pt_cmpR op_ge (pv 3) (pe_op op_mul pe_int (pe_op op_pow pe_int pe_int)) (nomark _)) (pss_cons (ps_set (i := 2) nd rfl (Or.inl rfl) (pe_op op_modN (pe_callTy (T := "int") call_int1 (by rfl) (M.free z_int) (by decide +kernel) (pa_cons (pe_op op_fdivN (pv 3) pe_int) pa_nil)) (pe_op op_shl pe_int pe_int)))
      (pss_cons (ps_asg (pe_op op_fdivN (pv 2) (pv 1)) (pg_sub (pv 0) pe_int set_list))
      (pss_one (ps_ret (pe_op op_modN (pe_callTy (T := "int") call_int1 (by rfl) (M.free z_int) (by decide +kernel) (pa_cons (pv 2) pa_nil)) (pv 1)))))) pss_nil)
      (pss_cons (ps_asg (pe_op op_modN (pe_callTy (T := "int") call_int1 (by rfl) (M.free z_int) (by decide +kernel) (pa_cons (pe_op (op_add.or op_add_str) (pe_op (op_add.or op_add_str) (pe_op (op_add.or op_add_str) (pe_op op_mul (pe_ix (ixL (K := K) rfl) (pv 0) pe_int (fun _ _ => rfl)) pe_int) (pe_op op_mul (pe_op op_modN (pe_callTy (T := "int") call_int1 (by rfl) (M.free z_int) (by decide +kernel) (pa_cons (pv 3) pa_nil)) pe_int) pe_int)) (pe_op op_mul (pe_ix (ixL (K := K) rfl) (pv 0) pe_int (fun _ _ => rfl)) pe_int)) pe_int) pa_nil)) pe_int) (pg_sub (pv 0) pe_int set_list))
      (pss_one (ps_ret (pe_op op_modN (pe_callTy (T := "int") call_int1 (by rfl) (M.free z_int) (by decide +kernel) (pa_cons (pe_op op_fdivN (pe_ix (ixL (K := K) rfl) (pv 0) pe_int (fun _ _ => rfl)) pe_int) pa_nil)) (pv 1)))))))))), fun sc Hs Ps => ?z⟩
  case z => exact (ss_seq (ss_if (st_test (se_op rv_gt (se_opO (rw_ix rfl) se_i) se_i)) (ss_seq (ss_set (se_opO (rw_ix rfl) se_i) sg_name)
      (ss_seq (ss_put (se_op rv_div se_var se_var) se_i)
      (ss_ret (se_op rv_mod (se_cb1 r1_int se_var) se_var)))) ss_nil)
      (ss_seq (ss_set se_i sg_name)
      (ss_seq (ss_if (st_test (se_op rv_lt (se_opO (rw_ix rfl) se_i) (se_cb1 (r1_len rfl) (se_opO (rw_ix rfl) se_i)))) (ss_seq (ss_set (se_op (rv_ix rfl) (se_opO (rw_ix rfl) se_i) (se_opO (rw_ix rfl) se_i)) sg_name)
      (ss_set (se_op rv_add (se_op rv_mul se_i (se_cb1 r1_abs se_var)) (se_cb1 r1_int (se_op rv_lt se_var se_i))) sg_name)) ss_nil)
      (ss_seq (ss_putAug se_i rv_ipadd se_i)
      (ss_seq (ss_if (st_test (se_op rv_ge se_var (se_op rv_mul se_i (se_op rv_pow se_i se_i)))) (ss_seq (ss_set (se_op rv_mod (se_cb1 r1_int (se_op rv_div se_var se_i)) (se_op rv_shl se_i se_i)) sg_name)
      (ss_seq (ss_put (se_op rv_div se_var se_var) se_i)
      (ss_ret (se_op rv_mod (se_cb1 r1_int se_var) se_var)))) ss_nil)
      (ss_seq (ss_put (se_op rv_mod (se_cb1 r1_int (se_op rv_add (se_op rv_add (se_op rv_add (se_op rv_mul (se_opO (rw_ix rfl) se_i) se_i) (se_op rv_mul (se_op rv_mod (se_cb1 r1_int se_var) se_i) se_i)) (se_op rv_mul (se_opO (rw_ix rfl) se_i) se_i)) se_i)) se_i) se_i)
      (ss_ret (se_op rv_mod (se_cb1 r1_int (se_op rv_div (se_opO (rw_ix rfl) se_i) se_i)) se_var))))))))
abbrev s__law_pick : Stmt := topS 7
abbrev N__law_pick : List Str := ["_law_d", "_law_row"]
theorem sc__law_pick : FnScope N__law_pick ["_law_d", "_law_row"] (defScope (topS 7)) := ⟨rfl, rfl, rfl, by decide +kernel, rfl, by decide +kernel, by decide +kernel⟩
theorem cl__law_pick (M : Mg K mg) (D : DefK K "_law_pick" s__law_pick) (k__law_draw : Kept P w K mg base CX0 1 "_law_draw" (spM K RE F__law_draw)) (z_len : FreeK K "len") : Kept P w K mg base CX0 2 "_law_pick" (spM K RE F__law_pick) := by
  refine cl_of (k := 1) D M (fun _ _ _ _ _ _ us hl => match us, hl with | [_, _], _ => rfl) sc__law_pick rfl rfl rfl fun f cdv A outer s H E hr => ?_
  have nd := sc__law_pick.nd
  refine ⟨?A, _, (pss_one (ps_ret (pe_ix (ixK (K := K) rfl) (pv 1) (pe_cl k__law_draw hr (by decide) (by rfl) (pass00 (E := E)) (pa_cons (pv 0) (pa_cons (pe_callB (id := "len") (lenK (K := K) rfl) (by rfl) (M.free z_len) (by decide +kernel) (pa_cons (pv 1) pa_nil)) pa_nil))) (fun _ _ => rfl)))), fun sc Hs Ps => ?z⟩
  case z => exact (ss_ret (se_op (rv_ix rfl) se_var (se_call (sm_own (sm_val (se_cb1 (r1_len rfl) se_var) sm_nil)))))
abbrev s__law_rare : Stmt := topS 8
abbrev N__law_rare : List Str := ["_law_d", "_law_many"]
theorem sc__law_rare : FnScope N__law_rare ["_law_d", "_law_many"] (defScope (topS 8)) := ⟨rfl, rfl, rfl, by decide +kernel, rfl, by decide +kernel, by decide +kernel⟩
theorem cl__law_rare (M : Mg K mg) (D : DefK K "_law_rare" s__law_rare) (k__law_draw : Kept P w K mg base CX0 1 "_law_draw" (spM K RE F__law_draw)) : Kept P w K mg base CX0 2 "_law_rare" (spM K RE F__law_rare) := by
  refine cl_of (k := 1) D M (fun _ _ _ _ _ _ us hl => match us, hl with | [_, _], _ => rfl) sc__law_rare rfl rfl rfl fun f cdv A outer s H E hr => ?_
  have nd := sc__law_rare.nd
  refine ⟨?A, _, (pss_one (ps_ret (pe_cmpR op_eq (pe_cl k__law_draw hr (by decide) (by rfl) (pass00 (E := E)) (pa_cons (pv 0) (pa_cons (pv 1) pa_nil))) (pe_op op_fdivN (pv 1) pe_int) (nomark _)))), fun sc Hs Ps => ?z⟩
  case z => exact (ss_ret (se_op rv_eq (se_call (sm_own (sm_val se_var sm_nil))) (se_op rv_div se_var se_i)))
abbrev s__law_pool : Stmt := topS 9
abbrev N__law_pool : List Str := ["_law_text_here"]
theorem sc__law_pool : FnScope N__law_pool [] (defScope (topS 9)) := ⟨rfl, rfl, rfl, by decide +kernel, rfl, by decide +kernel, by decide +kernel⟩
theorem cl__law_pool (M : Mg K mg) (D : DefK K "_law_pool" s__law_pool)  : Kept P w K mg base CX0 1 "_law_pool" (spM K RE F__law_pool) := by
  refine cl_of (k := 0) D M (fun _ _ _ _ _ _ us hl => match us, hl with | [], _ => rfl) sc__law_pool rfl rfl rfl fun f cdv A outer s H E hr => ?_
  have nd := sc__law_pool.nd
  refine ⟨?A, _, (pss_cons (ps_set (i := 0) nd rfl (Or.inl rfl) pe_str)
      (pss_cons (ps_set (i := 0) nd rfl (Or.inl rfl) (pe_op (op_add.or op_add_str) (pv 0) pe_str))
      (pss_one (ps_ret (pe_split (pv 0) pe_str))))), fun sc Hs Ps => ?z⟩
  case z => exact (ss_seq (ss_set (se_s t3_eq) sg_name)
      (ss_seq (ss_set (se_op rv_add se_var (se_s t4_eq)) sg_name)
      (ss_retO (seo_split se_var (se_s t5_eq)))))
abbrev s__law_signs : Stmt := topS 10
abbrev N__law_signs : List Str := ["_law_found"]
theorem sc__law_signs : FnScope N__law_signs [] (defScope (topS 10)) := ⟨rfl, rfl, rfl, by decide +kernel, rfl, by decide +kernel, by decide +kernel⟩
theorem cl__law_signs (M : Mg K mg) (D : DefK K "_law_signs" s__law_signs)  : Kept P w K mg base CX0 1 "_law_signs" (spM K RE F__law_signs) := by
  refine cl_of (k := 0) D M (fun _ _ _ _ _ _ us hl => match us, hl with | [], _ => rfl) sc__law_signs rfl rfl rfl fun f cdv A outer s H E hr => ?_
  have nd := sc__law_signs.nd
  refine ⟨?A, _, (pss_cons (ps_set (i := 0) nd rfl (Or.inl rfl) pe_str)
      (pss_one (ps_ret (pe_op (op_add.or op_add_str) (pv 0) pe_str)))), fun sc Hs Ps => ?z⟩
  case z => exact (ss_seq (ss_set (se_s t1_eq) sg_name)
      (ss_ret (se_op rv_add se_var (se_s t6_eq))))
abbrev s__law_cut : Stmt := topS 11
abbrev N__law_cut : List Str := ["_law_text_here", "_law_signs_here", "_law_found", "_law_k", "_law_sign"]
theorem sc__law_cut : FnScope N__law_cut ["_law_text_here"] (defScope (topS 11)) := ⟨rfl, rfl, rfl, by decide +kernel, rfl, by decide +kernel, by decide +kernel⟩
theorem cl__law_cut (M : Mg K mg) (D : DefK K "_law_cut" s__law_cut) (z_len : FreeK K "len") (z_range : FreeK K "range") : Kept P w K mg base CX0 1 "_law_cut" (spM K RE F__law_cut) := by
  refine cl_of (k := 0) D M (fun _ _ _ _ _ _ us hl => match us, hl with | [_], _ => rfl) sc__law_cut rfl rfl rfl fun f cdv A outer s H E hr => ?_
  have nd := sc__law_cut.nd
  refine ⟨?A, _, (pss_cons (ps_set (i := 1) nd rfl (Or.inl rfl) pe_str)
      (pss_cons (ps_set (i := 2) nd rfl (Or.inl rfl) (pe_lst pa_nil))
      (pss_cons (ps_for PassesOwn.never rfl (pi_range1 (by rfl) (M.free z_range) (pa_cons (pe_callB (id := "len") (lenK (K := K) rfl) (by rfl) (M.free z_len) (by decide +kernel) (pa_cons (pv 0) pa_nil)) pa_nil)) (pg_name (i := 3) nd rfl (Or.inl rfl))
      (pss_cons (ps_set (i := 4) nd rfl (Or.inl rfl) (pe_ix (ixK (K := K) rfl) (pv 0) (pv 3) (fun _ _ => rfl)))
      (pss_one (ps_if (PW.pt (pw_and (pt_cmpR op_in_sign (pv 4) (pv 1) (by rfl)) (pw_and (pt_cmpR op_gt (pv 3) pe_int (nomark _)) (pw_and1 (pt_cmpR op_in_sign (pe_ix (ixK (K := K) rfl) (pv 0) (pe_op op_sub (pv 3) pe_int) (fun _ _ => rfl)) (pv 1) (by rfl)))))) (pss_one (ps_asg (pe_op (op_add.or op_add_str) (pe_ix (ixL (K := K) rfl) (pv 2) (pe_un un_neg pe_int) (fun _ _ => rfl)) (pv 4)) (pg_sub (pv 2) (pe_un un_neg pe_int) set_list))) (pss_one (ps_if (PW.pt (pw_and (pt_cmpR op_ne (pv 4) pe_str (nomark _)) (pw_and1 (pt_cmpR op_ne (pv 4) pe_str (nomark _))))) (pss_one (ps_expr (pe_bm PySem.F.plainAttrs_list PySem.F.slot_list_append PySem.F.type_list_append mt_append (pv 2) (pa_cons (pv 4) pa_nil)))) pss_nil))))))
      (pss_one (ps_ret (pv 2)))))), fun sc Hs Ps => ?z⟩
  case z => exact (ss_seq (ss_set (se_s t1_eq) sg_name)
      (ss_seq (ss_setO (seo_lst sa_nil))
      (ss_seq (ss_for (si_rng1 (se_cb1 (r1_len rfl) se_var)) sg_name
      (ss_seq (ss_set (se_op (rv_ix rfl) se_var se_var) sg_name)
      (ss_if (st_and (st_test (se_op rv_inS se_var se_var)) (st_and (st_test (se_op rv_gt se_var se_i)) (st_test (se_op rv_inS (se_op (rv_ix rfl) se_var (se_op rv_sub se_var se_i)) se_var)))) (ss_put (se_op rv_add (se_opO (rw_ix rfl) (se_op1 r1_neg se_i)) se_var) (se_op1 r1_neg se_i)) (ss_if (st_and (st_test (se_op rv_ne se_var (se_s t5_eq))) (st_test (se_op rv_ne se_var (se_s t7_eq)))) (ss_app se_var) ss_nil))))
      ss_retV)))
abbrev s__law_piece : Stmt := topS 12
abbrev N__law_piece : List Str := ["_law_d", "_law_way"]
theorem sc__law_piece : FnScope N__law_piece ["_law_d"] (defScope (topS 12)) := ⟨rfl, rfl, rfl, by decide +kernel, rfl, by decide +kernel, by decide +kernel⟩
theorem cl__law_piece (M : Mg K mg) (D : DefK K "_law_piece" s__law_piece) (k__law_draw : Kept P w K mg base CX0 1 "_law_draw" (spM K RE F__law_draw)) (k__law_pick : Kept P w K mg base CX0 2 "_law_pick" (spM K RE F__law_pick)) (k__law_pool : Kept P w K mg base CX0 1 "_law_pool" (spM K RE F__law_pool)) (z_list : FreeK K "list") (z_str : FreeK K "str") : Kept P w K mg base CX0 3 "_law_piece" (spM K RE F__law_piece) := by
  refine cl_of (k := 2) D M (fun _ _ _ _ _ _ us hl => match us, hl with | [_], _ => rfl) sc__law_piece rfl rfl rfl fun f cdv A outer s H E hr => ?_
  have nd := sc__law_piece.nd
  refine ⟨?A, _, (pss_cons (ps_set (i := 1) nd rfl (Or.inl rfl) (pe_cl k__law_draw hr (by decide) (by rfl) (pass00 (E := E)) (pa_cons (pv 0) (pa_cons pe_int pa_nil))))
      (pss_cons (ps_if (pt_cmpR op_lt (pv 1) pe_int (nomark _)) (pss_one (ps_ret (pe_cl k__law_pick hr (by decide) (by rfl) (pass00 (E := E)) (pa_cons (pv 0) (pa_cons (pe_cl0 k__law_pool hr (by decide) (by rfl) (pass00 (E := E))) pa_nil))))) pss_nil)
      (pss_cons (ps_if (pt_cmpR op_eq (pv 1) pe_int (nomark _)) (pss_one (ps_ret (pe_cl k__law_pick hr (by decide) (by rfl) (pass00 (E := E)) (pa_cons (pv 0) (pa_cons (pe_split pe_str pe_str) pa_nil))))) pss_nil)
      (pss_cons (ps_if (pt_cmpR op_eq (pv 1) pe_int (nomark _)) (pss_one (ps_ret (pe_callTy (T := "str") call_str_int (by rfl) (M.free z_str) (by decide +kernel) (pa_cons (pe_cl k__law_draw hr (by decide) (by rfl) (pass00 (E := E)) (pa_cons (pv 0) (pa_cons (pe_cl k__law_pick hr (by decide) (by rfl) (pass00 (E := E)) (pa_cons (pv 0) (pa_cons (pe_lst (pa_cons pe_int (pa_cons pe_int (pa_cons pe_int (pa_cons pe_int (pa_cons (pe_op op_pow pe_int pe_int) pa_nil)))))) pa_nil))) pa_nil))) pa_nil)))) pss_nil)
      (pss_cons (ps_if (pt_cmpR op_eq (pv 1) pe_int (nomark _)) (pss_one (ps_ret (pe_cl k__law_pick hr (by decide) (by rfl) (pass00 (E := E)) (pa_cons (pv 0) (pa_cons (pe_lst (pa_cons pe_str (pa_cons pe_str (pa_cons pe_str (pa_cons pe_str (pa_cons pe_str (pa_cons pe_str (pa_cons pe_str (pa_cons pe_str (pa_cons pe_str (pa_cons pe_str pa_nil))))))))))) pa_nil))))) pss_nil)
      (pss_cons (ps_if (pt_cmpR op_lt (pv 1) pe_int (nomark _)) (pss_one (ps_ret (pe_cl k__law_pick hr (by decide) (by rfl) (pass00 (E := E)) (pa_cons (pv 0) (pa_cons (pe_callTy (T := "list") (call_listS rfl) (by rfl) (M.free z_list) (by decide +kernel) (pa_cons pe_str pa_nil)) pa_nil))))) pss_nil)
      (pss_one (ps_ret (pe_cl k__law_pick hr (by decide) (by rfl) (pass00 (E := E)) (pa_cons (pv 0) (pa_cons (pe_callTy (T := "list") (call_listS rfl) (by rfl) (M.free z_list) (by decide +kernel) (pa_cons pe_str pa_nil)) pa_nil))))))))))), fun sc Hs Ps => ?z⟩
  case z => exact (ss_seq (ss_set (se_call (sm_own (sm_val se_i sm_nil))) sg_name)
      (ss_seq (ss_if (st_test (se_op rv_lt se_var se_i)) (ss_ret (se_call (sm_own (sm_val (se_fz (seo_call sm_nil)) sm_nil)))) ss_nil)
      (ss_seq (ss_if (st_test (se_op rv_eq se_var se_i)) (ss_ret (se_call (sm_own (sm_val (se_fz (seo_split (se_s t8_eq) (se_s t5_eq))) sm_nil)))) ss_nil)
      (ss_seq (ss_if (st_test (se_op rv_eq se_var se_i)) (ss_ret (se_cb1 r1_str (se_call (sm_own (sm_val (se_call (sm_own (sm_val (se_fz (seo_lst (sa_cons se_i (sa_cons se_i (sa_cons se_i (sa_cons se_i (sa_cons (se_op rv_pow se_i se_i) sa_nil))))))) sm_nil))) sm_nil))))) ss_nil)
      (ss_seq (ss_if (st_test (se_op rv_eq se_var se_i)) (ss_ret (se_call (sm_own (sm_val (se_fz (seo_lst (sa_cons (se_s t18_eq) (sa_cons (se_s t17_eq) (sa_cons (se_s t16_eq) (sa_cons (se_s t15_eq) (sa_cons (se_s t14_eq) (sa_cons (se_s t13_eq) (sa_cons (se_s t12_eq) (sa_cons (se_s t11_eq) (sa_cons (se_s t10_eq) (sa_cons (se_s t9_eq) sa_nil)))))))))))) sm_nil)))) ss_nil)
      (ss_seq (ss_if (st_test (se_op rv_lt se_var se_i)) (ss_ret (se_call (sm_own (sm_val (se_fz (seo_cb1 rn_listS (se_s t19_eq))) sm_nil)))) ss_nil)
      (ss_ret (se_call (sm_own (sm_val (se_fz (seo_cb1 rn_listS (se_s t20_eq))) sm_nil))))))))))
abbrev s__law_text : Stmt := topS 13
abbrev N__law_text : List Str := ["_law_d", "_law_way", "_law_signs_here", "_law_found", "_law_k"]
theorem sc__law_text : FnScope N__law_text ["_law_d"] (defScope (topS 13)) := ⟨rfl, rfl, rfl, by decide +kernel, rfl, by decide +kernel, by decide +kernel⟩
theorem cl__law_text (M : Mg K mg) (D : DefK K "_law_text" s__law_text) (k__law_draw : Kept P w K mg base CX0 1 "_law_draw" (spM K RE F__law_draw)) (k__law_pick : Kept P w K mg base CX0 2 "_law_pick" (spM K RE F__law_pick)) (k__law_piece : Kept P w K mg base CX0 3 "_law_piece" (spM K RE F__law_piece)) (k__law_signs : Kept P w K mg base CX0 1 "_law_signs" (spM K RE F__law_signs)) (z_len : FreeK K "len") (z_range : FreeK K "range") : Kept P w K mg base CX0 4 "_law_text" (spM K RE F__law_text) := by
  refine cl_of (k := 3) D M (fun _ _ _ _ _ _ us hl => match us, hl with | [_], _ => rfl) sc__law_text rfl rfl rfl fun f cdv A outer s H E hr => ?_
  have nd := sc__law_text.nd
  refine ⟨?A, _, (pss_cons (ps_set (i := 1) nd rfl (Or.inl rfl) (pe_cl k__law_draw hr (by decide) (by rfl) (pass00 (E := E)) (pa_cons (pv 0) (pa_cons pe_int pa_nil))))
      (pss_cons (ps_if (pt_cmpR op_lt (pv 1) pe_int (nomark _)) (pss_cons (ps_set (i := 2) nd rfl (Or.inl rfl) (pe_cl0 k__law_signs hr (by decide) (by rfl) (pass00 (E := E))))
      (pss_cons (ps_if (pt_cmpR op_eq (pv 1) pe_int (nomark _)) (pss_one (ps_set (i := 2) nd rfl (Or.inl rfl) pe_str)) pss_nil)
      (pss_cons (ps_set (i := 3) nd rfl (Or.inl rfl) pe_str)
      (pss_cons (ps_for PassesOwn.never rfl (pi_range1 (by rfl) (M.free z_range) (pa_cons (pe_cl k__law_draw hr (by decide) (by rfl) (pass00 (E := E)) (pa_cons (pv 0) (pa_cons (pe_op (op_add.or op_add_str) pe_int (pe_op op_mul pe_int (pv 1))) pa_nil))) pa_nil)) (pg_name (i := 4) nd rfl (Or.inl rfl))
      (pss_one (ps_set (i := 3) nd rfl (Or.inl rfl) (pe_op (op_add.or op_add_str) (pv 3) (pe_ix (ixK (K := K) rfl) (pv 2) (pe_cl k__law_draw hr (by decide) (by rfl) (pass00 (E := E)) (pa_cons (pv 0) (pa_cons (pe_callB (id := "len") (lenK (K := K) rfl) (by rfl) (M.free z_len) (by decide +kernel) (pa_cons (pv 2) pa_nil)) pa_nil))) (fun _ _ => rfl))))))
      (pss_one (ps_ret (pv 3))))))) pss_nil)
      (pss_cons (ps_set (i := 3) nd rfl (Or.inl rfl) (pe_cl k__law_pick hr (by decide) (by rfl) (pass00 (E := E)) (pa_cons (pv 0) (pa_cons (pe_lst (pa_cons pe_str (pa_cons pe_str (pa_cons pe_str (pa_cons pe_str pa_nil))))) pa_nil))))
      (pss_cons (ps_for PassesOwn.never rfl (pi_range1 (by rfl) (M.free z_range) (pa_cons (pe_cl k__law_draw hr (by decide) (by rfl) (pass00 (E := E)) (pa_cons (pv 0) (pa_cons pe_int pa_nil))) pa_nil)) (pg_name (i := 4) nd rfl (Or.inl rfl))
      (pss_one (ps_set (i := 3) nd rfl (Or.inl rfl) (pe_op (op_add.or op_add_str) (pe_op (op_add.or op_add_str) (pv 3) (pe_cl k__law_piece hr (by decide) (by rfl) (pass00 (E := E)) (pa_cons (pv 0) pa_nil))) (pe_cl k__law_pick hr (by decide) (by rfl) (pass00 (E := E)) (pa_cons (pv 0) (pa_cons (pe_lst (pa_cons pe_str (pa_cons pe_str (pa_cons pe_str (pa_cons pe_str (pa_cons pe_str (pa_cons pe_str (pa_cons pe_str pa_nil)))))))) pa_nil)))))))
      (pss_one (ps_ret (pv 3))))))), fun sc Hs Ps => ?z⟩
  case z => exact (ss_seq (ss_set (se_call (sm_own (sm_val se_i sm_nil))) sg_name)
      (ss_seq (ss_if (st_test (se_op rv_lt se_var se_i)) (ss_seq (ss_set (se_call sm_nil) sg_name)
      (ss_seq (ss_if (st_test (se_op rv_eq se_var se_i)) (ss_set (se_s t21_eq) sg_name) ss_nil)
      (ss_seq (ss_set (se_s t0_eq) sg_name)
      (ss_seq (ss_for (si_rng1 (se_call (sm_own (sm_val (se_op rv_add se_i (se_op rv_mul se_i se_var)) sm_nil)))) sg_name
      (ss_set (se_op rv_add se_var (se_op (rv_ix rfl) se_var (se_call (sm_own (sm_val (se_cb1 (r1_len rfl) se_var) sm_nil))))) sg_name))
      (ss_ret se_var))))) ss_nil)
      (ss_seq (ss_set (se_call (sm_own (sm_val (se_fz (seo_lst (sa_cons (se_s t0_eq) (sa_cons (se_s t0_eq) (sa_cons (se_s t5_eq) (sa_cons (se_s t22_eq) sa_nil)))))) sm_nil))) sg_name)
      (ss_seq (ss_for (si_rng1 (se_call (sm_own (sm_val se_i sm_nil)))) sg_name
      (ss_set (se_op rv_add (se_op rv_add se_var (se_call (sm_own sm_nil))) (se_call (sm_own (sm_val (se_fz (seo_lst (sa_cons (se_s t0_eq) (sa_cons (se_s t0_eq) (sa_cons (se_s t5_eq) (sa_cons (se_s t5_eq) (sa_cons (se_s t7_eq) (sa_cons (se_s t24_eq) (sa_cons (se_s t23_eq) sa_nil))))))))) sm_nil)))) sg_name))
      (ss_ret se_var)))))
abbrev s__law_long : Stmt := topS 14
abbrev N__law_long : List Str := ["_law_d", "_law_text_here"]
theorem sc__law_long : FnScope N__law_long ["_law_d", "_law_text_here"] (defScope (topS 14)) := ⟨rfl, rfl, rfl, by decide +kernel, rfl, by decide +kernel, by decide +kernel⟩
theorem cl__law_long (M : Mg K mg) (D : DefK K "_law_long" s__law_long) (k__law_rare : Kept P w K mg base CX0 2 "_law_rare" (spM K RE F__law_rare)) (z_len : FreeK K "len") : Kept P w K mg base CX0 3 "_law_long" (spM K RE F__law_long) := by
  refine cl_of (k := 2) D M (fun _ _ _ _ _ _ us hl => match us, hl with | [_, _], _ => rfl) sc__law_long rfl rfl rfl fun f cdv A outer s H E hr => ?_
  have nd := sc__law_long.nd
  refine ⟨?A, _, (pss_cons (ps_if (PW.pt (pw_and (pt_cmpR op_gt (pe_callB (id := "len") (lenK (K := K) rfl) (by rfl) (M.free z_len) (by decide +kernel) (pa_cons (pv 1) pa_nil)) pe_int (nomark _)) (pw_and1 (pt_tr (K := K) rfl (pe_cl k__law_rare hr (by decide) (by rfl) (pass00 (E := E)) (pa_cons (pv 0) (pa_cons pe_int pa_nil))) (by intro _; rfl))))) (pss_one (ps_ret (pe_op op_mul_str (pv 1) (pe_op op_fdivN pe_int (pe_callB (id := "len") (lenK (K := K) rfl) (by rfl) (M.free z_len) (by decide +kernel) (pa_cons (pv 1) pa_nil)))))) pss_nil)
      (pss_one (ps_ret (pv 1)))), fun sc Hs Ps => ?z⟩
  case z => exact (ss_seq (ss_if (st_and (st_test (se_op rv_gt (se_cb1 (r1_len rfl) se_var) se_i)) (st_truth rfl (se_call (sm_own (sm_val se_i sm_nil))))) (ss_ret (se_op rv_mulS se_var (se_op rv_div se_i (se_cb1 (r1_len rfl) se_var)))) ss_nil)
      (ss_ret se_var))
abbrev s__law_right : Stmt := topS 15
abbrev N__law_right : List Str := ["_law_told", "_law_due", "_law_k"]
theorem sc__law_right : FnScope N__law_right ["_law_told", "_law_due"] (defScope (topS 15)) := ⟨rfl, rfl, rfl, by decide +kernel, rfl, by decide +kernel, by decide +kernel⟩
theorem cl__law_right (M : Mg K mg) (D : DefK K "_law_right" s__law_right) (z_all : FreeK K "all") (z_isinstance : FreeK K "isinstance") (z_len : FreeK K "len") (z_range : FreeK K "range") (z_str : FreeK K "str") (z_tuple : FreeK K "tuple") : Kept P w K mg base CX0 1 "_law_right" (spM K RE F__law_right) := by
  refine cl_of (k := 0) D M (fun _ _ _ _ _ _ us hl => match us, hl with | [_, _], _ => rfl) sc__law_right rfl rfl rfl fun f cdv A outer s H E hr => ?_
  have nd := sc__law_right.nd
  refine ⟨?A, _, (pss_cons (ps_if (PW.pt (pw_or (pt_not (pt_tr (K := K) rfl (pe_callB (id := "isinstance") (isiK (K := K) rfl) (by rfl) (M.free z_isinstance) (by decide +kernel) (pa_cons (pv 0) (pa_cons (pe_bltn (v := .ty "tuple") (u := .type "tuple") (by rfl) (M.free z_tuple) (by decide +kernel) rfl) pa_nil))) (by intro _; rfl))) (pw_or1 (pt_cmpR op_ne (pe_callB (id := "len") (lenK (K := K) rfl) (by rfl) (M.free z_len) (by decide +kernel) (pa_cons (pv 0) pa_nil)) (pe_callB (id := "len") (lenK (K := K) rfl) (by rfl) (M.free z_len) (by decide +kernel) (pa_cons (pv 1) pa_nil)) (nomark _))))) (pss_one (ps_ret pe_bl)) pss_nil)
      (pss_one (ps_ret (pe_callB (id := "all") (allK (K := K) rfl rfl) (by rfl) (M.free z_all) (by decide +kernel) (pa_cons (pe_lc (own := [("_law_k", 2)]) rfl nd (pi_range1 (by rfl) (M.free z_range) (pa_cons (pe_callB (id := "len") (lenK (K := K) rfl) (by rfl) (M.free z_len) (by decide +kernel) (pa_cons (pv 1) pa_nil)) pa_nil)) (blkOk_by (N := N__law_right) (sc := defScope s__law_right) (by decide +kernel)) (fun _ _ _ _ _ => (pg_name (i := 2) nd rfl (Or.inl rfl))) (fun _ _ _ _ _ => pts_nil) (fun _ _ _ _ _ => (pe_and (pe_callB (id := "isinstance") (isiK (K := K) rfl) (by rfl) (M.free z_isinstance) (by decide +kernel) (pa_cons (pe_ix (ixK (K := K) rfl) (pv 0) (pv 2) (fun _ _ => rfl)) (pa_cons (pe_bltn (v := .ty "str") (u := .type "str") (by rfl) (M.free z_str) (by decide +kernel) rfl) pa_nil))) (pe_one (pe_cmpR op_eq (pe_ix (ixK (K := K) rfl) (pv 0) (pv 2) (fun _ _ => rfl)) (pe_ix (ixK (K := K) rfl) (pv 1) (pv 2) (fun _ _ => rfl)) (nomark _)))))) pa_nil))))), fun sc Hs Ps => ?z⟩
  case z => exact (ss_seq (ss_if (st_or (st_not (st_truth rfl (se_isT rfl se_var))) (st_test (se_op rv_ne (se_cb1 (r1_len rfl) se_var) (se_cb1 (r1_len rfl) se_var)))) (ss_ret se_b) ss_nil)
      (ss_ret (se_cb1 (r1_all rfl) (se_fz (seo_lc (A := [2]) (vs := [2]) (si_rng1 (se_cb1 (r1_len rfl) se_var)) sg_name st_yes (se_andV (se_isS rfl (se_op (rv_ix rfl) se_var se_var)) (se_op rv_eq (se_op (rv_ix rfl) se_var se_var) (se_op (rv_ix rfl) se_var se_var))))))))
theorem sc_law_ : True := trivial
abbrev N_law : List Str := ["_law_script", "_law_d", "_law_text_here", "_law_due", "_law_place", "_law_gap", "_law_bare"]
theorem sc_law : FnScope N_law ["_law_script"] (defScope (topS 16)) := ⟨rfl, rfl, rfl, by decide +kernel, rfl, by decide +kernel, by decide +kernel⟩
end
abbrev s__law_begin : Stmt := topS 5
theorem sc__law_begin : FnScope ["_law_script", "_law_cell"] ["_law_script"] (defScope s__law_begin) := ⟨rfl, rfl, rfl, by decide +kernel, rfl, by decide +kernel, by decide +kernel⟩
section
variable {P : Program} {w : World} {K : PySem.W.Frag} {mg : Str → Option Value} {base : Heap}
theorem cl__law_begin (M : Mg K mg) (D : DefK K "_law_begin" s__law_begin) (z_int : FreeK K "int") : Kept P w K mg base CX0 1 "_law_begin" (spBegin K) := by
  obtain ⟨f, fd, hn, Fd⟩ := D
  refine ⟨f, fd, ["_law_script"], ?_, M.get hn, Fd.kp, Fd.binds fun _ _ _ _ _ _ us hl => match us, hl with | [_], _ => rfl⟩
  refine Fd.ok sc__law_begin (fun vs H Q E h => by obtain ⟨a, ns, rfl, _⟩ := h; rfl) fun cdv A outer s H vs Q E hr h => ?_
  have nd := sc__law_begin.nd
  refine ⟨_, pss_one (ps_ret (pe_lst (pa_cons (pe_lc (own := [("_law_cell", 1)]) rfl nd (pi_list (pv 0)) (blkOk_by (N := ["_law_script", "_law_cell"]) (sc := defScope s__law_begin) (by decide +kernel)) (fun _ _ _ _ _ => pg_name (i := 1) nd rfl (Or.inl rfl)) (fun _ _ _ _ _ => pts_nil) (fun _ _ _ _ _ => pe_callTy (T := "int") call_int1 (by rfl) (M.free z_int) (by decide +kernel) (pa_cons (pv 1) pa_nil))) (pa_cons pe_int (pa_cons pe_int (pa_cons pe_int pa_nil)))))), ?_⟩
  exact begin_red h
abbrev RE0 : Err → Value → Option Addr → Hp → Hp → Prop := fun _ _ _ _ _ => False
abbrev s_law : Stmt := topS 16
theorem ok_law (M : Mg K mg) {f : Addr} {fd : FuncData} (Fd : Fun K "law" "law" s_law f fd) (hm : ∀ ns : List Int, ns.length ≤ 63 → ∃ e, m_law (lawE ns 5) = .rt (.fz (.bl true)) e) (k__law_begin : Kept P w K mg base CX0 1 "_law_begin" (spBegin K)) (k__law_cut : Kept P w K mg base CX0 1 "_law_cut" (spM K RE0 F__law_cut)) (k__law_draw : Kept P w K mg base CX0 1 "_law_draw" (spM K RE0 F__law_draw)) (k__law_long : Kept P w K mg base CX0 3 "_law_long" (spM K RE0 F__law_long)) (k__law_pick : Kept P w K mg base CX0 2 "_law_pick" (spM K RE0 F__law_pick)) (k__law_right : Kept P w K mg base CX0 1 "_law_right" (spM K RE0 F__law_right)) (k__law_text : Kept P w K mg base CX0 4 "_law_text" (spM K RE0 F__law_text)) (k_tokens_of : Kept P w K mg base CX0 1 "tokens_of" (spM K RE0 F_tokens_of)) (z_len : FreeK K "len") : FnOk P w K mg base CX0 5 f fd ["_law_script"] (spLaw K) := by
  refine Fd.ok (k := 4) sc_law (fun vs H Q E h => by obtain ⟨a, ns, rfl, _⟩ := h; rfl) fun cdv A outer s H vs Q E hr h => ?_
  have nd := sc_law.nd
  refine ⟨_, pss_cons (ps_set (i := 1) nd rfl (Or.inl rfl) (pe_cl k__law_begin hr (by decide) (by rfl) (pass00 (E := E)) (pa_cons (pv 0) pa_nil)))
      (pss_cons (ps_set (i := 2) nd rfl (Or.inl rfl) (pe_cl k__law_long hr (by decide) (by rfl) (pass00 (E := E)) (pa_cons (pv 1) (pa_cons (pe_cl k__law_text hr (by decide) (by rfl) (pass00 (E := E)) (pa_cons (pv 1) pa_nil)) pa_nil))))
      (pss_cons (ps_set (i := 3) nd rfl (Or.inl rfl) (pe_cl k__law_cut hr (by decide) (by rfl) (pass00 (E := E)) (pa_cons (pv 2) pa_nil)))
      (pss_cons (ps_if (pt_not (pt_tr (K := K) rfl (pe_cl k__law_right hr (by decide) (by rfl) (pass00 (E := E)) (pa_cons (pe_cl k_tokens_of hr (by decide) (by rfl) (pass00 (E := E)) (pa_cons (pv 2) pa_nil)) (pa_cons (pv 3) pa_nil))) (by intro _; rfl))) (pss_one (ps_ret pe_bl)) pss_nil)
      (pss_cons (ps_set (i := 4) nd rfl (Or.inl rfl) (pe_cl k__law_draw hr (by decide) (by rfl) (pass00 (E := E)) (pa_cons (pv 1) (pa_cons (pe_op (op_add.or op_add_str) (pe_callB (id := "len") (lenK (K := K) rfl) (by rfl) (M.free z_len) (by decide +kernel) (pa_cons (pv 2) pa_nil)) pe_int) pa_nil))))
      (pss_cons (ps_set (i := 5) nd rfl (Or.inl rfl) (pe_cl k__law_pick hr (by decide) (by rfl) (pass00 (E := E)) (pa_cons (pv 1) (pa_cons (pe_lst (pa_cons pe_str (pa_cons pe_str (pa_cons pe_str (pa_cons pe_str (pa_cons pe_str pa_nil)))))) pa_nil))))
      (pss_cons (ps_if (pt_not (pt_tr (K := K) rfl (pe_cl k__law_right hr (by decide) (by rfl) (pass00 (E := E)) (pa_cons (pe_cl k_tokens_of hr (by decide) (by rfl) (pass00 (E := E)) (pa_cons (pe_op (op_add.or op_add_str) (pe_op (op_add.or op_add_str) (pe_slice sl_str (pv 2) po_none (po_some (pv 4))) (pv 5)) (pe_slice sl_str (pv 2) (po_some (pv 4)) po_none)) pa_nil)) (pa_cons (pe_op op_cat (pe_cl k__law_cut hr (by decide) (by rfl) (pass00 (E := E)) (pa_cons (pe_slice sl_str (pv 2) po_none (po_some (pv 4))) pa_nil)) (pe_cl k__law_cut hr (by decide) (by rfl) (pass00 (E := E)) (pa_cons (pe_slice sl_str (pv 2) (po_some (pv 4)) po_none) pa_nil))) pa_nil))) (by intro _; rfl))) (pss_one (ps_ret pe_bl)) pss_nil)
      (pss_cons (ps_if (PW.pt (pw_and (pt_cmpR op_le (pe_callB (id := "len") (lenK (K := K) rfl) (by rfl) (M.free z_len) (by decide +kernel) (pa_cons (pv 2) pa_nil)) pe_int (nomark _)) (pw_and1 (pt_not (pt_tr (K := K) rfl (pe_cl k__law_right hr (by decide) (by rfl) (pass00 (E := E)) (pa_cons (pe_cl k_tokens_of hr (by decide) (by rfl) (pass00 (E := E)) (pa_cons (pe_op (op_add.or op_add_str) (pe_op (op_add.or op_add_str) (pv 5) (pe_join (pv 5) (pv 3))) (pv 5)) pa_nil)) (pa_cons (pv 3) pa_nil))) (by intro _; rfl)))))) (pss_one (ps_ret pe_bl)) pss_nil)
      (pss_cons (ps_set (i := 6) nd rfl (Or.inl rfl) (pe_join pe_str (pv 3)))
      (pss_one (ps_ret (pe_and (pe_cl k__law_right hr (by decide) (by rfl) (pass00 (E := E)) (pa_cons (pe_cl k_tokens_of hr (by decide) (by rfl) (pass00 (E := E)) (pa_cons (pv 6) pa_nil)) (pa_cons (pe_cl k__law_cut hr (by decide) (by rfl) (pass00 (E := E)) (pa_cons (pv 6) pa_nil)) pa_nil))) (pe_one (pe_cl k__law_right hr (by decide) (by rfl) (pass00 (E := E)) (pa_cons (pe_cl k_tokens_of hr (by decide) (by rfl) (pass00 (E := E)) (pa_cons (pv 2) pa_nil)) (pa_cons (pv 3) pa_nil))))))))))))))), ?_⟩
  refine law_red (A := ?A) (RE := RE0) (nl := 5) rfl hm (fun sc Hs Ps H => ?z) h
  case z => exact (ss_seq (ss_set (se_call (sm_own (sm_val (se_call (sm_own sm_nil)) sm_nil))) sg_name)
      (ss_seq (ss_set (se_fz (seo_call (sm_val se_var sm_nil))) sg_name)
      (ss_seq (ss_if (st_not (st_truth rfl (se_call (sm_val (se_call (sm_val se_var sm_nil)) (sm_val se_var sm_nil))))) (ss_ret se_b) ss_nil)
      (ss_seq (ss_set (se_call (sm_own (sm_val (se_op rv_add (se_cb1 (r1_len rfl) se_var) se_i) sm_nil))) sg_name)
      (ss_seq (ss_set (se_call (sm_own (sm_val (se_fz (seo_lst (sa_cons (se_s t5_eq) (sa_cons (se_s t7_eq) (sa_cons (se_s t24_eq) (sa_cons (se_s t2_eq) (sa_cons (se_s t25_eq) sa_nil))))))) sm_nil))) sg_name)
      (ss_seq (ss_if (st_not (st_truth rfl (se_call (sm_val (se_call (sm_val (se_op rv_add (se_op rv_add (se_slS se_var so_none (so_some se_var)) se_var) (se_slS se_var (so_some se_var) so_none)) sm_nil)) (sm_val (se_fz (seo_op rn_cat (se_fz (seo_call (sm_val (se_slS se_var so_none (so_some se_var)) sm_nil))) (se_fz (seo_call (sm_val (se_slS se_var (so_some se_var) so_none) sm_nil))))) sm_nil))))) (ss_ret se_b) ss_nil)
      (ss_seq (ss_if (st_and (st_test (se_op rv_le (se_cb1 (r1_len rfl) se_var) se_i)) (st_not (st_truth rfl (se_call (sm_val (se_call (sm_val (se_op rv_add (se_op rv_add se_var (se_join rfl se_var se_var)) se_var) sm_nil)) (sm_val se_var sm_nil)))))) (ss_ret se_b) ss_nil)
      (ss_seq (ss_set (se_join rfl (se_s t0_eq) se_var) sg_name)
      (ss_ret (se_andV (se_call (sm_val (se_call (sm_val se_var sm_nil)) (sm_val (se_fz (seo_call (sm_val se_var sm_nil))) sm_nil))) (se_call (sm_val (se_call (sm_val se_var sm_nil)) (sm_val se_var sm_nil)))))))))))))
end
theorem all_mk {P : Program} {w : World} {K : PySem.W.Frag} {mg : Str → Option Value} {h : Heap} {fa f : Addr} (X : K.In h) (G : h.Ns mainGlobals mg) (hfa : mg "law" = some (.ref fa)) (hm : ∀ ns : List Int, ns.length ≤ 63 → ∃ e, m_law (lawE ns 5) = .rt (.fz (.bl true)) e)
    {oc : Value} {od an : Option Addr} {osl : Array (Option Value)} {kV doc pm cdv ct : Value} (a : PySem.W.nsIn K mainGlobals "law" = some (some (.ref f)))
    (l : K.lookup f = some ⟨oc, od, .func (PySem.W.fnOf "law" "law" (defArgs s_law) (defBody s_law) (defScope s_law) .none kV doc pm an cdv ct), osl⟩) (c : PySem.W.codeIn K cdv "law" = true) (k : PySem.W.keepIn K (.ref f) = true)
        (d__law_begin : DefK K "_law_begin" s__law_begin)
    (d_tokens_of : DefK K "tokens_of" s_tokens_of)
    (d__law_draw : DefK K "_law_draw" s__law_draw)
    (d__law_pick : DefK K "_law_pick" s__law_pick)
    (d__law_rare : DefK K "_law_rare" s__law_rare)
    (d__law_pool : DefK K "_law_pool" s__law_pool)
    (d__law_signs : DefK K "_law_signs" s__law_signs)
    (d__law_cut : DefK K "_law_cut" s__law_cut)
    (d__law_piece : DefK K "_law_piece" s__law_piece)
    (d__law_text : DefK K "_law_text" s__law_text)
    (d__law_long : DefK K "_law_long" s__law_long)
    (d__law_right : DefK K "_law_right" s__law_right)
    (z_abs : FreeK K "abs")
    (z_all : FreeK K "all")
    (z_int : FreeK K "int")
    (z_isinstance : FreeK K "isinstance")
    (z_len : FreeK K "len")
    (z_list : FreeK K "list")
    (z_range : FreeK K "range")
    (z_str : FreeK K "str")
    (z_tuple : FreeK K "tuple")
    (c_GAPS : ConK K "GAPS" (.str (" \n" : Str)))
    (c_RUN_SIGNS : ConK K "RUN_SIGNS" (.str ("abcdefghijklmnopqrstuvwxyzABCDEFGHIJKLMNOPQRSTUVWXYZ0123456789" : Str))) :
    ∃ fd : FuncData, (∀ (s : Shared) (v : Value), BindsTo s fd ⟨[v], []⟩ [("_law_script", v)]) ∧ ∀ base : Heap, K.In base → base.Ns mainGlobals mg → FnOk P w K mg base CX0 5 fa fd ["_law_script"] (spLaw K) := by
  have M : Mg K mg := mg_mk X G
  have e := hfa.symm.trans (M.get a)
  cases e
  have Fd := fun_mk (st := s_law) l c k
  have k__law_begin : ∀ base, Kept P w K mg base CX0 1 "_law_begin" (spBegin K) := fun base => cl__law_begin M d__law_begin z_int
  have k_tokens_of : ∀ base, Kept P w K mg base CX0 1 "tokens_of" (spM K RE0 F_tokens_of) := fun base => cl_tokens_of M d_tokens_of z_tuple c_GAPS c_RUN_SIGNS
  have k__law_draw : ∀ base, Kept P w K mg base CX0 1 "_law_draw" (spM K RE0 F__law_draw) := fun base => cl__law_draw M d__law_draw z_abs z_int z_len
  have k__law_pick : ∀ base, Kept P w K mg base CX0 2 "_law_pick" (spM K RE0 F__law_pick) := fun base => cl__law_pick M d__law_pick (k__law_draw base) z_len
  have k__law_rare : ∀ base, Kept P w K mg base CX0 2 "_law_rare" (spM K RE0 F__law_rare) := fun base => cl__law_rare M d__law_rare (k__law_draw base)
  have k__law_pool : ∀ base, Kept P w K mg base CX0 1 "_law_pool" (spM K RE0 F__law_pool) := fun base => cl__law_pool M d__law_pool 
  have k__law_signs : ∀ base, Kept P w K mg base CX0 1 "_law_signs" (spM K RE0 F__law_signs) := fun base => cl__law_signs M d__law_signs 
  have k__law_cut : ∀ base, Kept P w K mg base CX0 1 "_law_cut" (spM K RE0 F__law_cut) := fun base => cl__law_cut M d__law_cut z_len z_range
  have k__law_piece : ∀ base, Kept P w K mg base CX0 3 "_law_piece" (spM K RE0 F__law_piece) := fun base => cl__law_piece M d__law_piece (k__law_draw base) (k__law_pick base) (k__law_pool base) z_list z_str
  have k__law_text : ∀ base, Kept P w K mg base CX0 4 "_law_text" (spM K RE0 F__law_text) := fun base => cl__law_text M d__law_text (k__law_draw base) (k__law_pick base) (k__law_piece base) (k__law_signs base) z_len z_range
  have k__law_long : ∀ base, Kept P w K mg base CX0 3 "_law_long" (spM K RE0 F__law_long) := fun base => cl__law_long M d__law_long (k__law_rare base) z_len
  have k__law_right : ∀ base, Kept P w K mg base CX0 1 "_law_right" (spM K RE0 F__law_right) := fun base => cl__law_right M d__law_right z_all z_isinstance z_len z_range z_str z_tuple
  exact ⟨_, fun s v => .of_eq rfl, fun base _ _ => ok_law M Fd hm (k__law_begin base) (k__law_cut base) (k__law_draw base) (k__law_long base) (k__law_pick base) (k__law_right base) (k__law_text base) (k_tokens_of base) z_len⟩
end K05

set_option Elab.async false
set_option linter.all false
set_option maxRecDepth 100000
open PySem PySem.W PyProof.Rows
set_option maxHeartbeats 0 in
theorem PySem.Challenge.cw_edgesaway_k05_tokens_holds : PySem.Challenge.rw_edgesaway_k05_tokens.Holds := by
  w_on; o_law; k_head; (case hw => w_witness2)
  k_fill
  refine L2.walk_of (l := PySem.Challenge.rw_edgesaway_k05_tokens) (n := 63) (k := 5) (x := "_law_script") (CX := fun _ => L2.CX0) (sp := fun w => Ml.spLaw _) rfl (by decide) rfl ⟨rfl, by decide, by decide⟩ (fun w h Y => PySem.W.kIn_of Y) ?F (fun _ _ a ns hl _ hS => ⟨a, ns, rfl, hS, hl, fun _ => rfl⟩) (fun _ _ _ _ _ h => h)
  case F =>
    intro w mg fa h KX G hmg
    refine' K05.all_mk KX G hmg K05.law_true ?a ?l ?c ?k (Ml.defK_mk ?a__law_begin ?l__law_begin ?c__law_begin ?k__law_begin) (Ml.defK_mk ?a_tokens_of ?l_tokens_of ?c_tokens_of ?k_tokens_of) (Ml.defK_mk ?a__law_draw ?l__law_draw ?c__law_draw ?k__law_draw) (Ml.defK_mk ?a__law_pick ?l__law_pick ?c__law_pick ?k__law_pick) (Ml.defK_mk ?a__law_rare ?l__law_rare ?c__law_rare ?k__law_rare) (Ml.defK_mk ?a__law_pool ?l__law_pool ?c__law_pool ?k__law_pool) (Ml.defK_mk ?a__law_signs ?l__law_signs ?c__law_signs ?k__law_signs) (Ml.defK_mk ?a__law_cut ?l__law_cut ?c__law_cut ?k__law_cut) (Ml.defK_mk ?a__law_piece ?l__law_piece ?c__law_piece ?k__law_piece) (Ml.defK_mk ?a__law_text ?l__law_text ?c__law_text ?k__law_text) (Ml.defK_mk ?a__law_long ?l__law_long ?c__law_long ?k__law_long) (Ml.defK_mk ?a__law_right ?l__law_right ?c__law_right ?k__law_right) ?z_abs ?z_all ?z_int ?z_isinstance ?z_len ?z_list ?z_range ?z_str ?z_tuple (Ml.conK_s ?q_GAPS) (Ml.conK_s ?q_RUN_SIGNS)
    (case a => k_is); (case l => k_is); (case c => k_is); (case k => k_is)
    (case a__law_begin => k_is)
    (case l__law_begin => k_is)
    (case c__law_begin => k_is)
    (case k__law_begin => k_is)
    (case a_tokens_of => k_is)
    (case l_tokens_of => k_is)
    (case c_tokens_of => k_is)
    (case k_tokens_of => k_is)
    (case a__law_draw => k_is)
    (case l__law_draw => k_is)
    (case c__law_draw => k_is)
    (case k__law_draw => k_is)
    (case a__law_pick => k_is)
    (case l__law_pick => k_is)
    (case c__law_pick => k_is)
    (case k__law_pick => k_is)
    (case a__law_rare => k_is)
    (case l__law_rare => k_is)
    (case c__law_rare => k_is)
    (case k__law_rare => k_is)
    (case a__law_pool => k_is)
    (case l__law_pool => k_is)
    (case c__law_pool => k_is)
    (case k__law_pool => k_is)
    (case a__law_signs => k_is)
    (case l__law_signs => k_is)
    (case c__law_signs => k_is)
    (case k__law_signs => k_is)
    (case a__law_cut => k_is)
    (case l__law_cut => k_is)
    (case c__law_cut => k_is)
    (case k__law_cut => k_is)
    (case a__law_piece => k_is)
    (case l__law_piece => k_is)
    (case c__law_piece => k_is)
    (case k__law_piece => k_is)
    (case a__law_text => k_is)
    (case l__law_text => k_is)
    (case c__law_text => k_is)
    (case k__law_text => k_is)
    (case a__law_long => k_is)
    (case l__law_long => k_is)
    (case c__law_long => k_is)
    (case k__law_long => k_is)
    (case a__law_right => k_is)
    (case l__law_right => k_is)
    (case c__law_right => k_is)
    (case k__law_right => k_is)
    (case z_abs => (unfold Ml.FreeK; k_is))
    (case z_all => (unfold Ml.FreeK; k_is))
    (case z_int => (unfold Ml.FreeK; k_is))
    (case z_isinstance => (unfold Ml.FreeK; k_is))
    (case z_len => (unfold Ml.FreeK; k_is))
    (case z_list => (unfold Ml.FreeK; k_is))
    (case z_range => (unfold Ml.FreeK; k_is))
    (case z_str => (unfold Ml.FreeK; k_is))
    (case z_tuple => (unfold Ml.FreeK; k_is))
    (case q_GAPS => k_is)
    (case q_RUN_SIGNS => k_is)
