import PyProof.Rows.All
import Wide.All
import OpenK.AllK
import Wide.FinOn
import KE.KStateDown
import Lean
import HandS.Head0
import HandS.Head1
import HandS.Head2
import HandS.HeadEnd
import HandS.HeadHook1
import HandS.HeadHook2
import HandS.HeadNt
import HandS.ForMost
import HandS.TupAny
import HandS.Deep
import HandS.IsInst
import HandS.Flow
import PyProof.ListStr
import HandS.Style
import HandS.ForExc
import HandS.Zip
import HandS.WordsExc
import PySem.Challenge.RW_kitsleft_k01_kinds_told
set_option Elab.async false
set_option linter.all false
set_option maxRecDepth 100000
set_option maxHeartbeats 4000000
section
set_option linter.all false
/-! A pure evaluator over data for the fragment of the language that the programs keep to. -/
namespace Ded
open PySem

abbrev D := PyData
/-- what a name or an expression holds: frozen data; a list or dict of one's own; an object that others hold too (by number); one that is only lent; the one in a slot -/
inductive Val where
  | dat (d : D) | own (d : D) | ext (k : Nat) | bor (d : D) | loc (i : Nat) | scr (ns : List Int)
  deriving Inhabited

structure S where
  ρ : List (Option Val)
  μ : List D

inductive R (α : Type) where
  | ok (a : α) (s : S)
  | exc (c : Nat) (fs : List D) (s : S)
  | bad

abbrev M (α : Type) := S → R α
@[inline] def M.ret {α : Type} (a : α) : M α := fun s => .ok a s
@[inline] def M.bind {α β : Type} (m : M α) (f : α → M β) : M β := fun s =>
  match m s with
  | .ok a s' => f a s'
  | .exc c fs s' => .exc c fs s'
  | .bad => .bad
instance : Monad M where
  pure := M.ret
  bind := M.bind
def M.bad {α : Type} : M α := fun _ => .bad
def M.opt {α : Type} : Option α → M α
  | some a => fun s => .ok a s
  | none => fun _ => .bad
def M.guard (b : Bool) : M Unit := if b then M.ret () else M.bad

inductive Bop where | add | sub | mul | fdiv | mod | pow
  deriving DecidableEq
inductive Cop where | eq | ne | lt | le | gt | ge | is_ | isnot | in_ | notin
  deriving DecidableEq
inductive Ty where | int | bool | str | tuple | list | dict
  deriving DecidableEq
inductive Blt where | len | int | list | tuple | repr | all | any | sorted | sum | min | max | dict | str | set
  deriving DecidableEq
/-- expressions; argument lists are nil, cons, star; pairs of a display are kv -/
inductive E where
  | var (i : Nat) | lend (i : Nat) | borw (i : Nat)
  | cst (d : D) | glb (x : Str) (d : D)
  | bin (o : Bop) (a b : E) | neg (a : E)
  | cmp (o : Cop) (a b : E) | chn (o o' : Cop) (a b c : E)
  | and (a b : E) | or (a b : E) | not (a : E)
  | ite (c a b : E)
  | tup (es : E) | lst (es : E) | dct (kvs : E)
  | nil | cons (a r : E) | star (a r : E) | kv (a b r : E)
  | idx (a b : E) | sli (a lo hi : E) | rev (a : E)
  | sls (i : Nat) (lo hi : Option Int)
  | isi (a : E) (ts : List Ty)
  | blt (f : Blt) (as : E)
  | call (g : Nat) (as : E) | callk (g : Nat) (ks : List Str) (as : E)
  | join (o a : E) | get1 (o k : E) | get2 (o k d : E)
  | app (i : Nat) (a : E) | pop0 (i : Nat) | pop1 (i : Nat) (a : E)
  | range (as : E) | zip (a b : E) | enum (a : E)
  | lc (elt : E) (tg : E) (it : E) (ifs : E) (vs : List Nat)

inductive Flow where
  | nx | rt (v : Val) | bk | ct

/-- statements, each with what follows it -/
inductive C where
  | nop
  | exp (e : E) (k : C)
  | set (i : Nat) (e : E) (k : C)
  | asg (t : E) (e : E) (k : C)
  | par (i j : Nat) (a b : E) (k : C)
  | sti (i : Nat) (key v : E) (k : C)
  | ret (e : E)
  | ite (c : E) (a b : C) (k : C)
  | for_ (t it : E) (body : C) (k : C)
  | whl (c : E) (body : C) (k : C)
  | rai (c : Nat) (as : E)

/-! ### places -/
def slot (s : S) (i : Nat) : Option Val := (s.ρ[i]?).join
def setSlot (s : S) (i : Nat) (v : Val) : S := { s with ρ := s.ρ.set i (some v) }
def peek (v : Val) (s : S) : Option D :=
  match v with
  | .dat d => some d
  | .own d => some d
  | .bor d => some d
  | .scr _ => none
  | .ext k => s.μ[k]?
  | .loc i => match slot s i with
    | some (.own d) => some d
    | some (.bor d) => some d
    | _ => none
def peekM (v : Val) : M D := fun s => match peek v s with
  | some d => .ok d s
  | none => .bad
/-- from now on it never changes -/
def freeze : Val → M D
  | .dat d => M.ret d
  | .own d => M.ret d
  | .bor _ => M.bad
  | .ext _ => M.bad
  | .scr _ => M.bad
  | .loc i => fun s => match slot s i with
    | some (.own d) => .ok d (setSlot s i (.dat d))
    | _ => .bad
/-- as an operand: what is new is frozen at once -/
def opd : Val → M Val
  | .dat d => M.ret (.dat d)
  | .own d => M.ret (.dat d)
  | .ext k => M.ret (.ext k)
  | .loc i => M.ret (.loc i)
  | _ => M.bad

/-! ### data -/
def atomic : D → Bool
  | .none => true | .bool _ => true | .int _ => true | .str _ => true
  | _ => false
/-- the truth of a value (not of a dict) -/
def truD : D → Option Bool
  | .none => some false
  | .bool b => some b
  | .int i => some (decide (i ≠ 0))
  | .str x => if x.length ≤ sizeLine then some (decide (x.length ≠ 0)) else none
  | .list xs => some (!xs.isEmpty)
  | .tuple xs => some (!xs.isEmpty)
  | .dict _ => none
def lenD : D → Option Nat
  | .str x => if x.length ≤ sizeLine then some x.length else none
  | .list xs => some xs.length
  | .tuple xs => some xs.length
  | _ => none
def isTy : Ty → D → Bool
  | .int, .int _ => true
  | .int, .bool _ => true
  | .bool, .bool _ => true
  | .str, .str _ => true
  | .tuple, .tuple _ => true
  | .list, .list _ => true
  | .dict, .dict _ => true
  | _, _ => false
def fitsMul (i j : Int) : Bool := decide ((-(2 ^ 64) < i ∧ i < 2 ^ 64) ∨ (-(2 ^ 64) < j ∧ j < 2 ^ 64))
def binD : Bop → D → D → Option Val
  | .add, .int i, .int j => some (.dat (.int (i + j)))
  | .add, .str x, .str y => if x.length + y.length ≤ sizeLine then some (.dat (.str (x ++ y))) else none
  | .add, .list xs, .list ys => if xs.length + ys.length ≤ sizeLine then some (.own (.list (xs ++ ys))) else none
  | .add, .tuple xs, .tuple ys => if xs.length + ys.length ≤ sizeLine then some (.dat (.tuple (xs ++ ys))) else none
  | .sub, .int i, .int j => some (.dat (.int (i - j)))
  | .mul, .int i, .int j => if fitsMul i j then some (.dat (.int (i * j))) else none
  | .fdiv, .int i, .int j => if 0 < j ∧ j < 1073741824 then some (.dat (.int (i / j))) else none
  | .mod, .int i, .int j => if 0 < j then some (.dat (.int (i % j))) else none
  | .pow, .int i, .int j => if 0 ≤ j ∧ j ≤ 1000000 ∧ i.natAbs < 2 ^ 64 then some (.dat (.int (i ^ j.toNat))) else none
  | _, _, _ => none
def scalD : D → D → Bool
  | .none, .none => true | .none, .int _ => true | .int _, .none => true | .none, .bool _ => true | .bool _, .none => true
  | .none, .str _ => true | .str _, .none => true | .int _, .int _ => true | .bool _, .bool _ => true | .str _, .str _ => true
  | .int _, .str _ => true | .str _, .int _ => true | .bool _, .str _ => true | .str _, .bool _ => true
  | _, _ => false
def eqD (a b : D) : Option Bool :=
  if scalD a b || (SeqAt.shaped a && SeqAt.shaped b) then some (PyData.eqv a b) else none
def inStr (x z : Str) : Bool :=
  match x.cps.toList with
  | [c] => decide (c ∈ z.cps.toList)
  | _ => !(Builtin.Str.occurrences z x 0 z.length 1).isEmpty
def sameKey : D → D → Bool
  | .str y, .str x => decide (y = x)
  | .int y, .int x => decide (y = x)
  | _, _ => false
def keyIn (kvs : List (D × D)) (k : D) : Option D := (kvs.find? fun kv => sameKey kv.1 k).map (·.2)
def putIn (kvs : List (D × D)) (k v : D) : List (D × D) :=
  if (kvs.any fun kv => sameKey kv.1 k) = true then kvs.map (fun kv => if sameKey kv.1 k = true then (kv.1, v) else kv) else kvs ++ [(k, v)]
def inD (a b : D) : Option Bool :=
  match a, b with
  | .str x, .str z => some (inStr x z)
  | d, .list ds => if SeqAt.shaped d && SeqAt.shaped (.list ds) then some (ds.any fun z => PyData.eqv z d) else none
  | d, .tuple ds => if SeqAt.shaped d && SeqAt.shaped (.tuple ds) then some (ds.any fun z => PyData.eqv z d) else none
  | .str x, .dict kvs => some (keyIn kvs (.str x)).isSome
  | .int x, .dict kvs => some (keyIn kvs (.int x)).isSome
  | _, _ => none
def isNoneD : D → Bool
  | .none => true
  | _ => false
def cmpD : Cop → D → D → Option Bool
  | .eq, a, b => eqD a b
  | .ne, a, b => (eqD a b).map (!·)
  | .lt, .int i, .int j => some (decide (i < j))
  | .le, .int i, .int j => some (decide (i ≤ j))
  | .gt, .int i, .int j => some (decide (j < i))
  | .ge, .int i, .int j => some (decide (j ≤ i))
  | .lt, .str i, .str j => some (decide (i.cps.toList < j.cps.toList))
  | .le, .str i, .str j => some (!decide (j.cps.toList < i.cps.toList))
  | .gt, .str i, .str j => some (decide (j.cps.toList < i.cps.toList))
  | .ge, .str i, .str j => some (!decide (i.cps.toList < j.cps.toList))
  | .is_, a, .none => some (isNoneD a)
  | .isnot, a, .none => some (!isNoneD a)
  | .in_, a, b => inD a b
  | .notin, a, b => (inD a b).map (!·)
  | _, _, _ => none
def isKey : D → Bool
  | .str _ => true | .int _ => true | _ => false
/-- the place that an index means -/
abbrev ixAt (n : Nat) (i : Int) : Option Nat := L2.ixN n i
def idxD : D → D → Option D
  | .list xs, .int i => L2.atI xs i
  | .tuple xs, .int i => L2.atI xs i
  | .str x, .int i => if x.length ≤ sizeLine then (L2.atI x.cps.toList i).map fun c => .str ⟨#[c]⟩ else none
  | .dict kvs, k => if isKey k then keyIn kvs k else none
  | _, _ => none
def cutL {α : Type} (xs : List α) (lo hi : Option Int) : List α :=
  (xs.drop (HT.sIx xs.length 0 lo)).take (HT.sIx xs.length xs.length hi - HT.sIx xs.length 0 lo)
def sliD (d : D) (lo hi : Option Int) : Option Val :=
  match d with
  | .list xs => some (.own (.list (cutL xs lo hi)))
  | .tuple xs => some (.dat (.tuple (cutL xs lo hi)))
  | .str x => if x.length ≤ sizeLine then some (.dat (.str (L2.cutS x lo hi))) else none
  | _ => none
def revD : D → Option Val
  | .list xs => some (.own (.list xs.reverse))
  | .tuple xs => some (.dat (.tuple xs.reverse))
  | _ => none
def strsOf : List D → Option (List Str)
  | [] => some []
  | .str x :: r => (strsOf r).map (x :: ·)
  | _ :: _ => none
def boolsOf : List D → Option (List Bool)
  | [] => some []
  | .bool x :: r => (boolsOf r).map (x :: ·)
  | _ :: _ => none
def intsOf : List D → Option (List Int)
  | [] => some []
  | .int x :: r => (intsOf r).map (x :: ·)
  | _ :: _ => none
/-- texts in order -/
def strLe (a b : Str) : Bool := !decide (b.cps.toList < a.cps.toList)
def itemsOf : D → Option (List D)
  | .list xs => some xs
  | .tuple xs => some xs
  | .str x => some (x.cps.toList.map fun c => .str ⟨#[c]⟩)
  | _ => none
def canRepr (d : D) : Bool := d.canLay0 && d.showable && decide (d.shown.length ≤ sizeLine) && decide (d.depth ≤ 60)
def bltD : Blt → List D → Option Val
  | .len, [d] => (lenD d).map fun (n : Nat) => .dat (.int (n : Int))
  | .int, [.int i] => some (.dat (.int i))
  | .int, [.bool b] => some (.dat (.int (if b then 1 else 0)))
  | .list, [.list xs] => some (.own (.list xs))
  | .list, [.tuple xs] => some (.own (.list xs))
  | .list, [.str x] => if x.length ≤ sizeLine then some (.own (.list (x.cps.toList.map fun c => .str ⟨#[c]⟩))) else none
  | .tuple, [.list xs] => some (.dat (.tuple xs))
  | .tuple, [.tuple xs] => some (.dat (.tuple xs))
  | .repr, [d] => if canRepr d then some (.dat (.str d.shown)) else none
  | .all, [.list xs] => (boolsOf xs).map fun bs => .dat (.bool (bs.all id))
  | .any, [.list xs] => (boolsOf xs).map fun bs => .dat (.bool (bs.any id))
  | .sorted, [.list xs] => (strsOf xs).bind fun ss => if ss.length < 64 then some (.own (.list ((ss.mergeSort strLe).map .str))) else none
  | _, _ => none
/-- near enough for a range -/
@[irreducible] def fit62 (i : Int) : Bool := decide (-(2 ^ 62) ≤ i ∧ i < 2 ^ 62)
theorem fit62_iff {i : Int} : fit62 i = true ↔ -(2 ^ 62) ≤ i ∧ i < 2 ^ 62 := by
  unfold fit62
  exact decide_eq_true_iff
def rangeD : List D → Option (List D)
  | [.int j] => if fit62 j = true then some ((List.range j.toNat).map fun k => .int (k : Nat)) else none
  | [.int i, .int j] => if fit62 i = true ∧ fit62 j = true then some ((List.range (j - i).toNat).map fun k => .int (i + (k : Nat))) else none
  | _ => none

def wipe : List (Option Val) → List Nat → List (Option Val)
  | ρ, [] => ρ
  | ρ, v :: vs => (wipe ρ vs).set v none
/-- the slots of a comprehension's own names as they were -/
def putBack (old : List (Option Val)) : List (Option Val) → List Nat → List (Option Val)
  | ρ, [] => ρ
  | ρ, v :: vs => (putBack old ρ vs).set v (old[v]?).join
/-- a comprehension's own names hold nothing outside, or data -/
def restOk (old : List (Option Val)) (vs : List Nat) : Bool := vs.all fun v => match (old[v]?).join with
  | none => true
  | some (.dat _) => true
  | _ => false
/-- the elements that a comprehension makes -/
def lcLoop (turn : D → M (Option D)) : List D → M (List D)
  | [] => M.ret []
  | d :: r => M.bind (turn d) fun o => M.bind (lcLoop turn r) fun ys => M.ret (match o with | some y => y :: ys | none => ys)
def forLoop (turn : D → M Flow) : List D → M Flow
  | [] => M.ret .nx
  | d :: r => M.bind (turn d) fun f => match f with
    | .nx => forLoop turn r
    | .ct => forLoop turn r
    | .bk => M.ret .nx
    | .rt v => M.ret (.rt v)
def whileLoop (test : M Bool) (turn : M Flow) : Nat → M Flow
  | 0 => M.bad
  | n + 1 => M.bind test fun b => if b then M.bind turn fun f => match f with
    | .nx => whileLoop test turn n
    | .ct => whileLoop test turn n
    | .bk => M.ret .nx
    | .rt v => M.ret (.rt v) else M.ret .nx

/-! ### what the constructs do -/
def mVar (i : Nat) : M Val := fun s => match slot s i with
  | some (.dat d) => .ok (.dat d) s
  | some (.own _) => .ok (.loc i) s
  | some (.bor _) => .ok (.loc i) s
  | some (.ext k) => .ok (.ext k) s
  | _ => .bad
def mLend (i : Nat) : M Val := fun s => match slot s i with
  | some (.own d) => .ok (.ext s.μ.length) { ρ := s.ρ.set i (some (.ext s.μ.length)), μ := s.μ ++ [d] }
  | some (.ext k) => .ok (.ext k) s
  | some (.scr ns) => .ok (.scr ns) s
  | _ => .bad
/-- a slice of the script -/
def mSls (i : Nat) (lo hi : Option Int) : M Val := fun s => match slot s i with
  | some (.scr ns) => if ns.length ≤ sizeLine then .ok (.own (.list ((cutL ns lo hi).map .int))) s else .bad
  | _ => .bad
/-- an operand -/
def mOpd (m : M Val) : M Val := M.bind m opd
/-- its data as they are now -/
def mPeek (m : M Val) : M D := M.bind m peekM
def mFrz (m : M Val) : M D := M.bind m freeze
def mTwo (m n : M Val) (g : D → D → Option Val) : M Val := M.bind (mOpd m) fun u => M.bind (mOpd n) fun v => M.bind (peekM u) fun x => M.bind (peekM v) fun y => M.opt (g x y)
def gCmp (o : Cop) (x y : D) : Option Val := (cmpD o x y).map fun r => .dat (.bool r)
def mBin (o : Bop) (m n : M Val) : M Val := mTwo m n (binD o)
def mCmp (o : Cop) (m n : M Val) : M Val := mTwo m n (gCmp o)
def gIdx (x y : D) : Option Val := (idxD x y).map .dat
def mIdx (m n : M Val) : M Val := mTwo m n gIdx
def mOne (m : M Val) (g : D → Option Val) : M Val := M.bind (mOpd m) fun u => M.bind (peekM u) fun x => M.opt (g x)
def gNeg : D → Option Val
  | .int i => some (.dat (.int (-i)))
  | _ => none
def mNeg (m : M Val) : M Val := mOne m gNeg
def mChn (o o' : Cop) (m n l : M Val) : M Val := M.bind (mOpd m) fun u => M.bind (mOpd n) fun v => M.bind (peekM u) fun x => M.bind (peekM v) fun y => M.bind (M.opt (cmpD o x y)) fun r =>
  if r then M.bind (mOpd l) fun w => M.bind (peekM v) fun y => M.bind (peekM w) fun z => M.bind (M.opt (cmpD o' y z)) fun r' => M.ret (.dat (.bool r')) else M.ret (.dat (.bool false))
def mAnd (m n : M Val) : M Val := M.bind (mOpd m) fun u => M.bind (peekM u) fun x => M.bind (M.opt (truD x)) fun b => if b then n else M.ret u
def mOr (m n : M Val) : M Val := M.bind (mOpd m) fun u => M.bind (peekM u) fun x => M.bind (M.opt (truD x)) fun b => if b then M.ret u else n
def mNot (m : M Val) : M Val := mOne m fun x => (truD x).map fun b => .dat (.bool (!b))
def tTru (m : M Val) : M Bool := M.bind (mOpd m) fun u => M.bind (peekM u) fun x => M.opt (truD x)
def tAnd' (m n : M Bool) : M Bool := M.bind m fun x => if x then n else M.ret false
def tOr' (m n : M Bool) : M Bool := M.bind m fun x => if x then M.ret true else n
def tNot' (m : M Bool) : M Bool := M.bind m fun x => M.ret (!x)
def mIte (t : M Bool) (m n : M Val) : M Val := M.bind t fun b => if b then m else n
def mTup (m : M (List D)) : M Val := M.bind m fun ds => if ds.length ≤ sizeLine then M.ret (.dat (.tuple ds)) else M.bad
def mLst (m : M (List D)) : M Val := M.bind m fun ds => if ds.length ≤ sizeLine then M.ret (.own (.list ds)) else M.bad
def mDct (m : M (List (D × D))) : M Val := M.bind m fun ps => if ps.length ≤ 15 then M.ret (.own (.dict (ps.foldl (fun acc p => putIn acc p.1 p.2) []))) else M.bad
def mSli (m : M Val) (lo hi : M (Option Int)) : M Val := M.bind (mOpd m) fun u => M.bind lo fun i => M.bind hi fun j => M.bind (peekM u) fun x => M.opt (sliD x i j)
def mRev (m : M Val) : M Val := mOne m revD
def mIsi (m : M Val) (ts : List Ty) : M Val := mOne m fun x => some (.dat (.bool (ts.any fun t => isTy t x)))
def peeks : List Val → M (List D)
  | [] => M.ret []
  | v :: vs => M.bind (peekM v) fun x => M.bind (peeks vs) fun xs => M.ret (x :: xs)
def mBlt (f : Blt) (m : M (List Val)) : M Val := M.bind m fun vs => M.bind (peeks vs) fun ds => M.opt (bltD f ds)
def gJoin : D → D → Option Val
  | .str x, .list ys => (strsOf ys).bind fun ss => if (ss.map (·.length)).sum + ss.length * x.length ≤ sizeLine then some (.dat (.str (Txt.join x ss))) else none
  | _, _ => none
def isStrD : D → Bool
  | .str _ => true | _ => false
def isDictD : D → Bool
  | .dict _ => true | _ => false
/-- what stands ahead of a method's dot is looked at before the arguments are made -/
def mDot (k : D → Bool) (m : M Val) : M Val := M.bind (mOpd m) fun u => M.bind (peekM u) fun x => if k x then M.ret u else M.bad
def mJoin (m n : M Val) : M Val := M.bind (mDot isStrD m) fun u => M.bind (mOpd n) fun v => M.bind (peekM u) fun x => M.bind (peekM v) fun y => M.opt (gJoin x y)
def gGet (x k : D) (d : D) : Option Val := match x with
  | .dict kvs => if isKey k then some (.dat ((keyIn kvs k).getD d)) else none
  | _ => none
def mGet1 (m n : M Val) : M Val := M.bind (mDot isDictD m) fun u => M.bind (mOpd n) fun v => M.bind (peekM u) fun x => M.bind (peekM v) fun y => M.opt (gGet x y .none)
def mGet2 (m n l : M Val) : M Val := M.bind (mDot isDictD m) fun u => M.bind (mOpd n) fun v => M.bind (mFrz l) fun z => M.bind (peekM u) fun x => M.bind (peekM v) fun y => M.opt (gGet x y z)
/-- a list of one's own, or one that others hold too, stands in the slot -/
def chkL (i : Nat) : M Unit := fun s => match slot s i with
  | some (.own (.list _)) => .ok () s
  | some (.ext k) => match s.μ[k]? with
    | some (.list _) => .ok () s
    | _ => .bad
  | _ => .bad
def putL (i : Nat) (f : List D → Option (List D × D)) : M Val := fun s => match slot s i with
  | some (.own (.list xs)) => match f xs with
    | some (ys, d) => .ok (.dat d) (setSlot s i (.own (.list ys)))
    | none => .bad
  | some (.ext k) => match s.μ[k]? with
    | some (.list xs) => match f xs with
      | some (ys, d) => .ok (.dat d) { s with μ := s.μ.set k (.list ys) }
      | none => .bad
    | _ => .bad
  | _ => .bad
def appF (d : D) (xs : List D) : Option (List D × D) := if xs.length < sizeLine then some (xs ++ [d], .none) else none
def mApp (i : Nat) (m : M Val) : M Val := M.bind (chkL i) fun _ => M.bind (mFrz m) fun d => putL i (appF d)
def popF (j : Int) (xs : List D) : Option (List D × D) := match ixAt xs.length j with
  | some j => match xs[j]? with
    | some d => some (xs.eraseIdx j, d)
    | none => none
  | none => none
def mPop0 (i : Nat) : M Val := putL i (popF (-1))
def mPop1 (i : Nat) (m : M Val) : M Val := M.bind (chkL i) fun _ => M.bind (mOpd m) fun v => M.bind (peekM v) fun x => match x with
  | .int j => putL i (popF j)
  | _ => M.bad
def mWipe (vs : List Nat) : M Unit := fun s => .ok () { s with ρ := wipe s.ρ vs }
/-- one turn of a comprehension -/
def lcTurn (g : D → M Unit) (c : M Bool) (m : M Val) (vs : List Nat) (d : D) : M (Option D) :=
  M.bind (g d) fun _ => M.bind c fun b => if b then M.bind (mFrz m) fun y => M.bind (mWipe vs) fun _ => M.ret (some y) else M.bind (mWipe vs) fun _ => M.ret none
/-- a comprehension: nothing is raised out of it -/
def mLc (m : M Val) (g : D → M Unit) (w : M (List D)) (c : M Bool) (vs : List Nat) : M Val := M.bind w fun ds => fun s =>
  match lcLoop (lcTurn g c m vs) ds { s with ρ := wipe s.ρ vs } with
  | .ok ys t => if ys.length ≤ sizeLine ∧ restOk s.ρ vs = true then .ok (.own (.list ys)) { t with ρ := putBack s.ρ t.ρ vs } else .bad
  | _ => .bad
/-- what a call hands on: what is one's own is frozen, unless it is lent or given over -/
def argV : Val → M Val
  | .dat d => M.ret (.dat d)
  | .own d => M.ret (.dat d)
  | .ext k => M.ret (.ext k)
  | .bor _ => M.bad
  | .scr ns => M.ret (.scr ns)
  | .loc i => fun s => match slot s i with
    | some (.own d) => .ok (.dat d) (setSlot s i (.dat d))
    | _ => .bad
/-- as it stands when all arguments are made -/
def solve (s : S) : Val → Option Val
  | .dat d => some (.dat d)
  | .ext k => some (.ext k)
  | .scr ns => some (.scr ns)
  | .loc i => match slot s i with
    | some (.own d) => some (.bor d)
    | some (.bor d) => some (.bor d)
    | _ => none
  | _ => none
def solveAll (s : S) : List Val → Option (List Val)
  | [] => some []
  | v :: vs => match solve s v, solveAll s vs with
    | some u, some us => some (u :: us)
    | _, _ => none
def lNil {α : Type} : M (List α) := M.ret []
def lCons {α : Type} (m : M α) (l : M (List α)) : M (List α) := M.bind m fun x => M.bind l fun xs => M.ret (x :: xs)
def lStar (m : M Val) (l : M (List D)) : M (List D) := M.bind (mFrz m) fun x => M.bind (M.opt (itemsOf x)) fun ys => M.bind l fun xs => M.ret (ys ++ xs)
def lKv (a b : M Val) (l : M (List (D × D))) : M (List (D × D)) := M.bind (mFrz a) fun x => M.bind (mFrz b) fun y => M.bind l fun ps => if isKey x then M.ret ((x, y) :: ps) else M.bad
def mBor (i : Nat) : M Val := fun s => match slot s i with
  | some (.own _) => .ok (.loc i) s
  | some (.bor _) => .ok (.loc i) s
  | some (.dat d) => .ok (.dat d) s
  | _ => .bad
def mOInt (m : M Val) : M (Option Int) := M.bind (mOpd m) fun u => M.bind (peekM u) fun x => match x with
  | .int i => M.ret (some i)
  | _ => M.bad
def wOf (m : M Val) : M (List D) := M.bind (mFrz m) fun x => M.opt (itemsOf x)
def wRange (m : M (List Val)) : M (List D) := M.bind m fun vs => M.bind (peeks vs) fun ds => M.opt (rangeD ds)
def zipD : List D → Option (List D)
  | [.list xs, .list ys] => some ((xs.zip ys).map fun p => .tuple [p.1, p.2])
  | [.tuple xs, .tuple ys] => some ((xs.zip ys).map fun p => .tuple [p.1, p.2])
  | _ => none
def wZip (m : M (List D)) : M (List D) := M.bind m fun l => M.opt (zipD l)
def enumD : List D → Option (List D)
  | [.list xs] => some ((xs.zipIdx).map fun p => .tuple [.int (p.2 : Nat), p.1])
  | _ => none
def wEnum (m : M (List D)) : M (List D) := M.bind m fun l => M.opt (enumD l)
def putSlot (i : Nat) (v : Val) : M Unit := fun s => if i < s.ρ.length then .ok () (setSlot s i v) else .bad
def gVar (i : Nat) (d : D) : M Unit := putSlot i (.dat d)
def gTup' (gs : List D → M Unit) : D → M Unit
  | .tuple ds => gs ds
  | _ => M.bad
def gNil' : List D → M Unit
  | [] => M.ret ()
  | _ => M.bad
def gCons' (g : D → M Unit) (gs : List D → M Unit) : List D → M Unit
  | d :: ds => M.bind (g d) fun _ => gs ds
  | [] => M.bad

/-- what an expression is, by the place where it stands -/
structure Den where
  v : M Val
  t : M Bool
  l : M (List D) := M.bad
  p : M (List Val) := M.bad
  a : M (List Val) := M.bad
  av : M Val
  k : M (List (D × D)) := M.bad
  o : M (Option Int)
  c : M Bool := M.bad
  w : M (List D)
  g : D → M Unit := fun _ => M.bad
  gs : List D → M Unit := fun _ => M.bad
def Den.ex (m : M Val) : Den := { v := m, t := tTru m, o := mOInt m, w := wOf m, av := M.bind m argV }
def Den.no : Den := { v := M.bad, t := M.bad, o := M.bad, w := M.bad, av := M.bad }
section
variable (cd : Nat → List Val → List D → R Val)
/-- a call of def g -/
def mCall (g : Nat) (m : M (List Val)) : M Val := M.bind m fun vs => fun s =>
  match solveAll s vs with
  | none => .bad
  | some us => match cd g us s.μ with
    | .ok v t => .ok v { s with μ := t.μ }
    | .exc c fs t => .exc c fs { s with μ := t.μ }
    | .bad => .bad
def den : E → Den
  | .var i => { Den.ex (mVar i) with g := gVar i }
  | .lend i => { Den.no with av := mLend i }
  | .borw i => { Den.no with av := mBor i }
  | .cst d => Den.ex (M.ret (.dat d))
  | .glb _ d => Den.ex (M.ret (.dat d))
  | .bin o a b => Den.ex (mBin o (den a).v (den b).v)
  | .neg a => Den.ex (mNeg (den a).v)
  | .cmp o a b => Den.ex (mCmp o (den a).v (den b).v)
  | .chn o o' a b c => Den.ex (mChn o o' (den a).v (den b).v (den c).v)
  | .and a b => { Den.ex (mAnd (den a).v (den b).v) with t := tAnd' (den a).t (den b).t }
  | .or a b => { Den.ex (mOr (den a).v (den b).v) with t := tOr' (den a).t (den b).t }
  | .not a => { Den.ex (mNot (den a).v) with t := tNot' (den a).t }
  | .ite c a b => Den.ex (mIte (den c).t (den a).v (den b).v)
  | .tup es => { Den.ex (mTup (den es).l) with g := gTup' (den es).gs }
  | .lst es => Den.ex (mLst (den es).l)
  | .dct kvs => Den.ex (mDct (den kvs).k)
  | .idx a b => Den.ex (mIdx (den a).v (den b).v)
  | .sli a lo hi => Den.ex (mSli (den a).v (den lo).o (den hi).o)
  | .rev a => Den.ex (mRev (den a).v)
  | .sls i lo hi => Den.ex (mSls i lo hi)
  | .isi a ts => Den.ex (mIsi (den a).v ts)
  | .blt f as => Den.ex (mBlt f (den as).p)
  | .call g as => Den.ex (mCall cd g (den as).a)
  | .callk g _ as => Den.ex (mCall cd g (den as).a)
  | .join o a => Den.ex (mJoin (den o).v (den a).v)
  | .get1 o k => Den.ex (mGet1 (den o).v (den k).v)
  | .get2 o k d => Den.ex (mGet2 (den o).v (den k).v (den d).v)
  | .app i a => Den.ex (mApp i (den a).v)
  | .pop0 i => Den.ex (mPop0 i)
  | .pop1 i a => Den.ex (mPop1 i (den a).v)
  | .lc elt tg it ifs vs => Den.ex (mLc (den elt).v (den tg).g (den it).w (den ifs).c vs)
  | .nil => { Den.no with l := lNil, p := lNil, a := lNil, k := lNil, o := M.ret none, c := M.ret true, gs := gNil' }
  | .cons a r => { Den.no with l := lCons (mFrz (den a).v) (den r).l, p := lCons (mOpd (den a).v) (den r).p, a := lCons (den a).av (den r).a, c := tAnd' (den a).t (den r).c, gs := gCons' (den a).g (den r).gs }
  | .star a r => { Den.no with l := lStar (den a).v (den r).l }
  | .kv a b r => { Den.no with k := lKv (den a).v (den b).v (den r).k }
  | .range as => { Den.no with w := wRange (den as).p }
  | .zip a b => { Den.no with w := wZip (lCons (mFrz (den a).v) (lCons (mFrz (den b).v) lNil)) }
  | .enum a => { Den.no with w := wEnum (lCons (mFrz (den a).v) lNil) }

/-! ### statements -/
def thenK (m : M Flow) (k : M Flow) : M Flow := M.bind m fun f => match f with
  | .nx => k
  | f => M.ret f
/-- what a name is given -/
def setV (i : Nat) : Val → M Unit
  | .dat d => putSlot i (.dat d)
  | .own d => putSlot i (.own d)
  | .ext k => putSlot i (.ext k)
  | .bor _ => M.bad
  | .scr _ => M.bad
  | .loc j => M.bind (freeze (.loc j)) fun d => putSlot i (.dat d)
def kExp (m : M Val) : M Flow := M.bind m fun _ => M.ret .nx
def kSet (i : Nat) (m : M Val) : M Flow := M.bind m fun v => M.bind (setV i v) fun _ => M.ret .nx
def kAsg (g : D → M Unit) (m : M Val) : M Flow := M.bind (mFrz m) fun d => M.bind (g d) fun _ => M.ret .nx
def putPar (i j : Nat) : List D → M Flow
  | [x, y] => M.bind (putSlot i (.dat x)) fun _ => M.bind (putSlot j (.dat y)) fun _ => M.ret .nx
  | _ => M.bad
def kPar (i j : Nat) (m n : M Val) : M Flow := M.bind (lCons (mFrz m) (lCons (mFrz n) lNil)) (putPar i j)
/-- a dict of one's own, or one that others hold too, stands in the slot -/
def chkD (i : Nat) : M Unit := fun s => match slot s i with
  | some (.own (.dict _)) => .ok () s
  | some (.ext k) => match s.μ[k]? with
    | some (.dict _) => .ok () s
    | _ => .bad
  | _ => .bad
/-- x[key] = v, x the dict in slot i -/
def putD (i : Nat) (k v : D) : M Flow := fun s => if isKey k then (match slot s i with
  | some (.own (.dict kvs)) => if kvs.length < sizeLine then .ok .nx (setSlot s i (.own (.dict (putIn kvs k v)))) else .bad
  | some (.ext n) => match s.μ[n]? with
    | some (.dict kvs) => if kvs.length < sizeLine then .ok .nx { s with μ := s.μ.set n (.dict (putIn kvs k v)) } else .bad
    | _ => .bad
  | _ => .bad) else .bad
def kSti (i : Nat) (m n : M Val) : M Flow := M.bind (mFrz n) fun v => M.bind (chkD i) fun _ => M.bind (mFrz m) fun k => putD i k v
/-- what a def hands back: its own list or dict is the caller's then -/
def retV : Val → M Val
  | .loc i => fun s => match slot s i with
    | some (.own d) => .ok (.own d) s
    | _ => .bad
  | .bor _ => M.bad
  | .scr _ => M.bad
  | .dat d => M.ret (.dat d)
  | .own d => M.ret (.own d)
  | .ext k => M.ret (.ext k)
def kRet (m : M Val) : M Flow := M.bind m fun v => M.bind (retV v) fun v => M.ret (.rt v)
def kIte (t : M Bool) (a b : M Flow) : M Flow := M.bind t fun x => if x then a else b
def kFor (g : D → M Unit) (w : M (List D)) (b : M Flow) : M Flow := M.bind w fun ds => forLoop (fun d => M.bind (g d) fun _ => b) ds
variable (L : Nat)
def kWhl (t : M Bool) (b : M Flow) : M Flow := whileLoop t b L
def kRai (c : Nat) (m : M (List D)) : M Flow := M.bind m fun ds => fun s => .exc c ds s
def run : C → M Flow
  | .nop => M.ret .nx
  | .exp e k => thenK (kExp (den cd e).v) (run k)
  | .set i e k => thenK (kSet i (den cd e).v) (run k)
  | .asg t e k => thenK (kAsg (den cd t).g (den cd e).v) (run k)
  | .par i j a b k => thenK (kPar i j (den cd a).v (den cd b).v) (run k)
  | .sti i a b k => thenK (kSti i (den cd a).v (den cd b).v) (run k)
  | .ret e => kRet (den cd e).v
  | .ite c a b k => thenK (kIte (den cd c).t (run a) (run b)) (run k)
  | .for_ t it b k => thenK (kFor (den cd t).g (den cd it).w (run b)) (run k)
  | .whl c b k => thenK (kWhl L (den cd c).t (run b)) (run k)
  | .rai c as => kRai c (den cd as).l
end
/-- a def: how many slots, how many parameters, its body -/
structure Def where
  slots : Nat
  pars : Nat
  body : C
/-- the defs of a program, calls nested at most n deep, loops at most L turns -/
def callD (Ds : List Def) (L : Nat) : Nat → Nat → List Val → List D → R Val
  | 0, _, _, _ => .bad
  | n + 1, g, vs, μ => match Ds[g]? with
    | none => .bad
    | some d => if vs.length = d.pars then (match run (callD Ds L n) L d.body { ρ := vs.map some ++ List.replicate (d.slots - vs.length) none, μ := μ } with
      | .ok (.rt v) s => .ok v { ρ := [], μ := s.μ }
      | .ok .nx s => .ok (.dat .none) { ρ := [], μ := s.μ }
      | .ok _ _ => .bad
      | .exc c fs s => .exc c fs { ρ := [], μ := s.μ }
      | .bad => .bad) else .bad
end Ded
end

section
set_option Elab.async false
set_option linter.all false
set_option maxRecDepth 100000
/-! How the pure state lies in the heap. -/
namespace Ded
open PySem L2

abbrev Fz := Addr → Prop
def kd : Key → D
  | .inl i => .int i
  | .inr x => .str x

mutual
inductive Rf (K : PySem.W.Frag) (F : Fz) (H : Hp) : V → D → Prop
  | non : Rf K F H .non .none
  | bl (b : Bool) : Rf K F H (.bl b) (.bool b)
  | int (i : Int) : Rf K F H (.int i) (.int i)
  | str (x : Str) : Rf K F H (.str x) (.str x)
  | lst {a : Addr} {xs : List V} {ds : List D} : F a → H a = some (.lst xs) → xs.length ≤ sizeLine → RfA K F H xs ds → Rf K F H (.ref a) (.list ds)
  | tup {a : Addr} {xs : List V} {ds : List D} : F a → H a = some (.tup xs) → xs.length ≤ sizeLine → RfA K F H xs ds → Rf K F H (.ref a) (.tuple ds)
  | dct {a : Addr} {kvs : List (Key × V)} {es : List (D × D)} : F a → Rd H a (.dK kvs) → RfK K F H kvs es → Rf K F H (.ref a) (.dict es)
inductive RfA (K : PySem.W.Frag) (F : Fz) (H : Hp) : List V → List D → Prop
  | nil : RfA K F H [] []
  | cons {v : V} {vs : List V} {d : D} {ds : List D} : Rf K F H v d → RfA K F H vs ds → RfA K F H (v :: vs) (d :: ds)
inductive RfK (K : PySem.W.Frag) (F : Fz) (H : Hp) : List (Key × V) → List (D × D) → Prop
  | nil : RfK K F H [] []
  | cons {k : Key} {v : V} {kvs : List (Key × V)} {d : D} {es : List (D × D)} : Rf K F H v d → RfK K F H kvs es → RfK K F H ((k, v) :: kvs) ((kd k, d) :: es)
end
/-- what frozen things were, they are -/
def Kp (F : Fz) (H H' : Hp) : Prop := ∀ a o, F a → H a = some o → H' a = some o
section
variable {K : PySem.W.Frag} {F F' : Fz} {H H' : Hp}
theorem Kp.rd {a : Addr} {u : HO} (k : Kp F H H') (f : F a) (r : Rd H a u) : Rd H' a u := by
  rcases r with r | ⟨o, r⟩
  · exact .inl (k _ _ f r)
  · exact .inr ⟨o, k _ _ f r⟩
mutual
theorem Rf.mono (hF : ∀ a, F a → F' a) (k : Kp F H H') : ∀ (d : D) {v : V}, Rf K F H v d → Rf K F' H' v d
  | .none, _, h => by cases h; exact .non
  | .bool _, _, h => by cases h; exact .bl _
  | .int _, _, h => by cases h; exact .int _
  | .str _, _, h => by cases h; exact .str _
  | .list ds, _, h => by
    cases h with
    | lst f e z r => exact .lst (hF _ f) (k _ _ f e) z (RfA.mono hF k ds r)
  | .tuple ds, _, h => by
    cases h with
    | tup f e z r => exact .tup (hF _ f) (k _ _ f e) z (RfA.mono hF k ds r)
  | .dict es, _, h => by
    cases h with
    | dct f e r => exact .dct (hF _ f) (k.rd f e) (RfK.mono hF k es r)
theorem RfA.mono (hF : ∀ a, F a → F' a) (k : Kp F H H') : ∀ (ds : List D) {vs : List V}, RfA K F H vs ds → RfA K F' H' vs ds
  | [], _, h => by cases h; exact .nil
  | d :: ds, _, h => by
    cases h with
    | cons a b => exact .cons (Rf.mono hF k d a) (RfA.mono hF k ds b)
theorem RfK.mono (hF : ∀ a, F a → F' a) (k : Kp F H H') : ∀ (es : List (D × D)) {kvs : List (Key × V)}, RfK K F H kvs es → RfK K F' H' kvs es
  | [], _, h => by cases h; exact .nil
  | (_, d) :: es, _, h => by
    cases h with
    | cons a b => exact .cons (Rf.mono hF k d a) (RfK.mono hF k es b)
end
theorem RfA.length : ∀ {vs : List V} {ds : List D}, RfA K F H vs ds → vs.length = ds.length
  | _, _, .nil => rfl
  | _, _, .cons _ r => by simp [RfA.length r]
theorem RfA.append : ∀ {vs ws : List V} {ds es : List D}, RfA K F H vs ds → RfA K F H ws es → RfA K F H (vs ++ ws) (ds ++ es)
  | _, _, _, _, .nil, s => s
  | _, _, _, _, .cons a r, s => .cons a (RfA.append r s)
theorem RfA.get : ∀ {vs : List V} {ds : List D} {i : Nat} {d : D}, RfA K F H vs ds → ds[i]? = some d → ∃ v, vs[i]? = some v ∧ Rf K F H v d
  | _, _, _, _, .nil, e => by simp at e
  | _, _, 0, _, .cons a _, e => by simp at e; subst e; exact ⟨_, rfl, a⟩
  | _, _, i + 1, d, .cons _ r, e => by
    obtain ⟨v, h1, h2⟩ := RfA.get (i := i) (d := d) r (by simpa using e)
    exact ⟨v, by simpa using h1, h2⟩
theorem RfA.take : ∀ {vs : List V} {ds : List D} (n : Nat), RfA K F H vs ds → RfA K F H (vs.take n) (ds.take n)
  | _, _, 0, _ => by simp; exact .nil
  | _, _, _ + 1, .nil => .nil
  | _, _, n + 1, .cons a r => .cons a (RfA.take n r)
theorem RfA.drop : ∀ {vs : List V} {ds : List D} (n : Nat), RfA K F H vs ds → RfA K F H (vs.drop n) (ds.drop n)
  | _, _, 0, r => r
  | _, _, _ + 1, .nil => .nil
  | _, _, n + 1, .cons _ r => RfA.drop n r
theorem RfA.reverse : ∀ {vs : List V} {ds : List D}, RfA K F H vs ds → RfA K F H vs.reverse ds.reverse
  | _, _, .nil => .nil
  | _, _, .cons a r => by
    rw [List.reverse_cons, List.reverse_cons]
    exact (RfA.reverse r).append (.cons a .nil)
theorem RfA.eraseIdx : ∀ {vs : List V} {ds : List D} (n : Nat), RfA K F H vs ds → RfA K F H (vs.eraseIdx n) (ds.eraseIdx n)
  | _, _, _, .nil => .nil
  | _, _, 0, .cons _ r => r
  | _, _, n + 1, .cons a r => .cons a (RfA.eraseIdx n r)
theorem RfA.strs : ∀ (ss : List Str), RfA K F H (ss.map V.str) (ss.map .str)
  | [] => .nil
  | _ :: r => .cons (.str _) (RfA.strs r)
theorem RfA.ints : ∀ (ss : List Int), RfA K F H (ss.map V.int) (ss.map .int)
  | [] => .nil
  | _ :: r => .cons (.int _) (RfA.ints r)
theorem RfA.of_strs : ∀ {ds : List D} {ss : List Str} {vs : List V}, strsOf ds = some ss → RfA K F H vs ds → vs = ss.map V.str ∧ ds = ss.map .str
  | [], ss, _, e, r => by
    cases r
    simp [strsOf] at e; subst e; exact ⟨rfl, rfl⟩
  | .str x :: ds, ss, _, e, r => by
    cases r with
    | cons a b =>
      cases a
      simp only [strsOf, Option.map_eq_some_iff] at e
      obtain ⟨s2, e1, rfl⟩ := e
      obtain ⟨e2, e3⟩ := RfA.of_strs e1 b
      exact ⟨by rw [e2]; rfl, by rw [e3]; rfl⟩
  | .none :: _, _, _, e, _ => by simp [strsOf] at e
  | .bool _ :: _, _, _, e, _ => by simp [strsOf] at e
  | .int _ :: _, _, _, e, _ => by simp [strsOf] at e
  | .list _ :: _, _, _, e, _ => by simp [strsOf] at e
  | .tuple _ :: _, _, _, e, _ => by simp [strsOf] at e
  | .dict _ :: _, _, _, e, _ => by simp [strsOf] at e
mutual
/-- data without dicts, as the layer reads them -/
theorem Rf.dp : ∀ (d : D) {v : V}, d.canLay0 = true → Rf K F H v d → Dp K H v d
  | .none, _, _, h => by cases h; exact .non
  | .bool _, _, _, h => by cases h; exact .bl _
  | .int _, _, _, h => by cases h; exact .int _
  | .str _, _, _, h => by cases h; exact .str _
  | .list ds, _, c, h => by
    cases h with
    | lst f e z r => exact .lst (SqL.of e) (RfA.dp ds (by simpa only [PyData.canLay0] using c) r)
  | .tuple ds, _, c, h => by
    cases h with
    | tup f e z r => exact .tup (SqT.of e) (RfA.dp ds (by simpa only [PyData.canLay0] using c) r)
  | .dict _, _, c, _ => by simp [PyData.canLay0] at c
theorem RfA.dp : ∀ (ds : List D) {vs : List V}, PyData.canLayAll0 ds = true → RfA K F H vs ds → DpAll K H vs ds
  | [], _, _, h => by cases h; exact .nil
  | d :: ds, _, c, h => by
    cases h with
    | cons a b =>
      simp only [PyData.canLayAll0, Bool.and_eq_true] at c
      exact .cons (Rf.dp d c.1 a) (RfA.dp ds c.2 b)
end
end

/-- a list or dict of one's own -/
def Cell (K : PySem.W.Frag) (F : Fz) (H : Hp) (a : Addr) : D → Prop
  | .list ds => ∃ xs, H a = some (.lst xs) ∧ xs.length ≤ sizeLine ∧ RfA K F H xs ds
  | .dict es => ∃ kvs, H a = some (.dK kvs) ∧ RfK K F H kvs es
  | _ => False
theorem Cell.mono {K : PySem.W.Frag} {F F' : Fz} {H H' : Hp} {a : Addr} {d : D} (hF : ∀ a, F a → F' a) (k : Kp F H H') (ka : ∀ o, H a = some o → H' a = some o) (c : Cell K F H a d) : Cell K F' H' a d := by
  cases d with
  | list ds => obtain ⟨xs, e, z, r⟩ := c; exact ⟨xs, ka _ e, z, r.mono hF k⟩
  | dict es => obtain ⟨kvs, e, r⟩ := c; exact ⟨kvs, ka _ e, r.mono hF k⟩
  | none => exact c.elim
  | bool _ => exact c.elim
  | int _ => exact c.elim
  | str _ => exact c.elim
  | tuple _ => exact c.elim
theorem Cell.there {K : PySem.W.Frag} {F : Fz} {H : Hp} {a : Addr} {d : D} (c : Cell K F H a d) : ∃ o, H a = some o := by
  cases d with
  | list ds => obtain ⟨xs, e, _⟩ := c; exact ⟨_, e⟩
  | dict es => obtain ⟨kvs, e, r⟩ := c; exact ⟨_, e⟩
  | none => exact c.elim
  | bool _ => exact c.elim
  | int _ => exact c.elim
  | str _ => exact c.elim
  | tuple _ => exact c.elim
/-- a cell that is frozen -/
theorem Cell.rf {K : PySem.W.Frag} {F : Fz} {H : Hp} {a : Addr} {d : D} (c : Cell K F H a d) (f : F a) : Rf K F H (.ref a) d := by
  cases d with
  | list ds => obtain ⟨xs, e, z, r⟩ := c; exact .lst f e z r
  | dict es => obtain ⟨kvs, e, r⟩ := c; exact .dct f (.inl e) r
  | none => exact c.elim
  | bool _ => exact c.elim
  | int _ => exact c.elim
  | str _ => exact c.elim
  | tuple _ => exact c.elim

/-- from one moment to a later one: F frozen, M may change -/
structure Grow (F M : Fz) (H : Hp) (F' M' : Fz) (H' : Hp) : Prop where
  keep : ∀ a o, H a = some o → ¬ M a → H' a = some o
  dom : ∀ a o, H a = some o → ∃ o', H' a = some o'
  fmono : ∀ a, F a → F' a
  fnew : ∀ a, F' a → F a ∨ M a ∨ H a = none
  mnew : ∀ a, M' a → M a ∨ H a = none
theorem Grow.refl (F M : Fz) (H : Hp) : Grow F M H F M H := ⟨fun _ _ e _ => e, fun _ o e => ⟨o, e⟩, fun _ f => f, fun _ f => .inl f, fun _ m => .inl m⟩
section
variable {F M F1 M1 F2 M2 : Fz} {H H1 H2 : Hp}
theorem Grow.none (g : Grow F M H F1 M1 H1) {a : Addr} (h : H1 a = none) : H a = none := by
  cases e : H a with
  | none => rfl
  | some o =>
    obtain ⟨o', e'⟩ := g.dom a o e
    rw [h] at e'; cases e'
theorem Grow.trans (g : Grow F M H F1 M1 H1) (k : Grow F1 M1 H1 F2 M2 H2) : Grow F M H F2 M2 H2 where
  keep := fun a o e nm => k.keep a o (g.keep a o e nm) fun m1 => by
    rcases g.mnew a m1 with m | n
    · exact nm m
    · rw [n] at e; cases e
  dom := fun a o e => let ⟨o', e'⟩ := g.dom a o e; k.dom a o' e'
  fmono := fun a f => k.fmono a (g.fmono a f)
  fnew := fun a f => by
    rcases k.fnew a f with f | m | n
    · exact g.fnew a f
    · rcases g.mnew a m with m | n
      · exact .inr (.inl m)
      · exact .inr (.inr n)
    · exact .inr (.inr (g.none n))
  mnew := fun a m => by
    rcases k.mnew a m with m | n
    · exact g.mnew a m
    · exact .inr (g.none n)
theorem Grow.weakM {M' : Fz} (g : Grow F M H F1 M1 H1) (h : ∀ a, M' a → M1 a) : Grow F M H F1 M' H1 := ⟨g.keep, g.dom, g.fmono, g.fnew, fun a m => g.mnew a (h a m)⟩
theorem Grow.kp (g : Grow F M H F1 M1 H1) (dj : ∀ a, F a → ¬ M a) : Kp F H H1 := fun a o f e => g.keep a o e (dj a f)
end

/-- the script, as it was handed in -/
def Scr (K : PySem.W.Frag) (H : Hp) (a : Addr) (ns : List Int) : Prop := (∃ o, H a = some (.frz o (.lst (ns.map V.int)))) ∨ SqL K (fun _ => none) a (ns.map V.int)
theorem Scr.seq {K : PySem.W.Frag} {H : Hp} {a : Addr} {ns : List Int} (h : Scr K H a ns) : SqL K H a (ns.map V.int) := by
  rcases h with ⟨o, e⟩ | h
  · exact .inl (.inr ⟨o, e⟩)
  · rcases h with (h | ⟨o, h⟩) | h
    · cases h
    · cases h
    · exact .inr h
theorem Cell.nofrz {K : PySem.W.Frag} {F : Fz} {H : Hp} {a : Addr} {d : D} (c : Cell K F H a d) {o : Obj} {u : HO} (e : H a = some (.frz o u)) : False := by
  cases d with
  | list ds => obtain ⟨xs, e', _⟩ := c; rw [e] at e'; cases e'
  | dict es => obtain ⟨kvs, e', r⟩ := c; rw [e] at e'; cases e'
  | none => exact c.elim
  | bool _ => exact c.elim
  | int _ => exact c.elim
  | str _ => exact c.elim
  | tuple _ => exact c.elim
/-- the addresses that slots own -/
def Ow (ρ : List (Option Val)) (σ : St) (a : Addr) : Prop := ∃ (i : Nat) (d : D), ρ[i]? = some (some (Val.own d)) ∧ σ[i]? = some (some (V.ref a))
def Mu (ρ : List (Option Val)) (σ : St) (ex : List Addr) (a : Addr) : Prop := a ∈ ex ∨ Ow ρ σ a
/-- the addresses that slots only hold as lent -/
def Bo (ρ : List (Option Val)) (σ : St) (a : Addr) : Prop := ∃ (i : Nat) (d : D), ρ[i]? = some (some (Val.bor d)) ∧ σ[i]? = some (some (V.ref a))

def SlotOk (K : PySem.W.Frag) (F : Fz) (ex : List Addr) (H : Hp) (x : V) : Val → Prop
  | .dat d => Rf K F H x d
  | .own d => ∃ a, x = .ref a ∧ Cell K F H a d ∧ ¬ F a ∧ a ∉ ex
  | .ext k => ∃ a, ex[k]? = some a ∧ x = .ref a
  | .bor d => ∃ a, x = .ref a ∧ Cell K F H a d ∧ a ∉ ex
  | .loc _ => False
  | .scr ns => ∃ a, x = .ref a ∧ Scr K H a ns
structure Rel (K : PySem.W.Frag) (F : Fz) (ex : List Addr) (s : S) (σ : St) (H : Hp) : Prop where
  len : s.ρ.length = σ.length
  slot : ∀ (i : Nat) (v : Val), s.ρ[i]? = some (some v) → ∃ x, σ[i]? = some (some x) ∧ SlotOk K F ex H x v
  sep : ∀ (i j : Nat) (d d' : D) (a : Addr), s.ρ[i]? = some (some (.own d)) → s.ρ[j]? = some (some (.own d')) → σ[i]? = some (some (.ref a)) → σ[j]? = some (some (.ref a)) → i = j
  lent : ∀ (i : Nat) (d : D) (a : Addr), s.ρ[i]? = some (some (.bor d)) → σ[i]? = some (some (.ref a)) → ¬ Ow s.ρ σ a
  exl : s.μ.length = ex.length
  exd : ex.Nodup
  cel : ∀ (k : Nat) (d : D), s.μ[k]? = some d → ∃ a, ex[k]? = some a ∧ ¬ F a ∧ Cell K F H a d
  fdom : ∀ a, F a → ∃ o, H a = some o
section
variable {K : PySem.W.Frag} {F F' : Fz} {ex ex' : List Addr} {s s' : S} {σ : St} {H H' : Hp}
theorem Rel.ow {a : Addr} (r : Rel K F ex s σ H) (o : Ow s.ρ σ a) : ¬ F a ∧ a ∉ ex ∧ ∃ o, H a = some o := by
  obtain ⟨i, d, e1, e2⟩ := o
  obtain ⟨x, e3, h⟩ := r.slot i _ e1
  obtain ⟨b, rfl, c, nf, nx⟩ := h
  rw [e2] at e3; cases e3
  exact ⟨nf, nx, c.there⟩
theorem Rel.exm {a : Addr} (r : Rel K F ex s σ H) (m : a ∈ ex) : ¬ F a ∧ ∃ o, H a = some o := by
  obtain ⟨k, hk, e⟩ := List.mem_iff_getElem.mp m
  have hk' : k < s.μ.length := by rw [r.exl]; exact hk
  obtain ⟨b, e1, nf, c⟩ := r.cel k _ (List.getElem?_eq_getElem hk')
  rw [List.getElem?_eq_getElem hk, e] at e1
  cases e1
  exact ⟨nf, c.there⟩
theorem Rel.dj (r : Rel K F ex s σ H) : ∀ a, F a → ¬ Mu s.ρ σ ex a := fun a f m => by
  rcases m with m | m
  · exact (r.exm m).1 f
  · exact (r.ow m).1 f
theorem Rel.bo {a : Addr} (r : Rel K F ex s σ H) (o : Bo s.ρ σ a) : ∃ o, H a = some o := by
  obtain ⟨i, d, e1, e2⟩ := o
  obtain ⟨x, e3, b, rfl, c, _⟩ := r.slot i _ e1
  rw [e2] at e3; cases e3
  exact c.there
/-- what nobody holds is frozen -/
theorem Rel.freeze {a : Addr} (r : Rel K F ex s σ H) (c : ∃ o, H a = some o) (nm : ¬ Mu s.ρ σ ex a) : Rel K (fun b => F b ∨ b = a) ex s σ H := by
  have hF : ∀ b, F b → (fun b => F b ∨ b = a) b := fun b f => .inl f
  have kp : Kp F H H := fun _ _ _ e => e
  refine ⟨r.len, fun i v e => ?_, r.sep, r.lent, r.exl, r.exd, fun k d e => ?_, fun b f => f.elim (r.fdom b) fun e => by subst e; exact c⟩
  · obtain ⟨x, e1, h⟩ := r.slot i v e
    refine ⟨x, e1, ?_⟩
    cases v with
    | dat d => exact Rf.mono hF kp d h
    | own d =>
      obtain ⟨b, rfl, c, nf, nx⟩ := h
      exact ⟨b, rfl, c.mono hF kp fun _ e => e, fun f => f.elim nf fun z => nm (.inr ⟨i, d, e, by rw [← z]; exact e1⟩), nx⟩
    | ext k => exact h
    | bor d =>
      obtain ⟨b, rfl, c, nx⟩ := h
      exact ⟨b, rfl, c.mono hF kp fun _ e => e, nx⟩
    | loc _ => exact h.elim
    | scr ns => exact h
  · obtain ⟨b, e1, nf, c⟩ := r.cel k d e
    exact ⟨b, e1, fun f => f.elim nf fun z => nm (.inl (by rw [← z]; exact List.mem_of_getElem? e1)), c.mono hF kp fun _ e => e⟩
theorem Rel.mdom {a : Addr} (r : Rel K F ex s σ H) (m : Mu s.ρ σ ex a) : ∃ o, H a = some o := by
  rcases m with m | m
  · exact (r.exm m).2
  · exact (r.ow m).2.2
end

/-- new frozen things come, nothing else changes -/
structure New (F : Fz) (H : Hp) (F' : Fz) (H' : Hp) : Prop where
  same : ∀ a o, H a = some o → H' a = some o
  fmono : ∀ a, F a → F' a
  fnew : ∀ a, F' a → F a ∨ H a = none
  fdom : ∀ a, F' a → ∃ o, H' a = some o
section
variable {K : PySem.W.Frag} {F F' : Fz} {ex ex' : List Addr} {s s' : S} {σ : St} {H H' : Hp}
theorem New.refl (h : ∀ a, F a → ∃ o, H a = some o) : New F H F H := ⟨fun _ _ e => e, fun _ f => f, fun _ f => .inl f, h⟩
theorem New.kp (n : New F H F' H') : Kp F H H' := fun a o _ e => n.same a o e
theorem New.grow (n : New F H F' H') (M : Fz) : Grow F M H F' M H' :=
  ⟨fun a o e _ => n.same a o e, fun a o e => ⟨o, n.same a o e⟩, n.fmono, fun a f => (n.fnew a f).elim .inl fun z => .inr (.inr z), fun a m => .inl m⟩
/-- a new object at p, frozen from the start -/
theorem New.frz (h : ∀ a, F a → ∃ o, H a = some o) {p : Addr} (hp : H p = none) (o : HO) : New F H (fun a => F a ∨ a = p) (upd H p o) where
  same := fun a u e => by rw [upd_ne (ne_of_none e hp)]; exact e
  fmono := fun a f => .inl f
  fnew := fun a f => f.elim .inl fun e => .inr (by rw [e]; exact hp)
  fdom := fun a f => by
    by_cases e : a = p
    · subst e; exact ⟨o, upd_same⟩
    · rw [upd_ne e]; exact f.elim (h a) fun z => absurd z e
/-- a new object at p -/
theorem New.own (h : ∀ a, F a → ∃ o, H a = some o) {p : Addr} (hp : H p = none) (o : HO) : New F H F (upd H p o) where
  same := fun a u e => by rw [upd_ne (ne_of_none e hp)]; exact e
  fmono := fun a f => f
  fnew := fun a f => .inl f
  fdom := fun a f => by
    obtain ⟨u, e⟩ := h a f
    exact ⟨u, by rw [upd_ne (ne_of_none e hp)]; exact e⟩
theorem New.trans {F1 F2 : Fz} {H1 H2 : Hp} (n : New F H F1 H1) (m : New F1 H1 F2 H2) : New F H F2 H2 where
  same := fun a o e => m.same a o (n.same a o e)
  fmono := fun a f => m.fmono a (n.fmono a f)
  fnew := fun a f => by
    rcases m.fnew a f with f | z
    · exact n.fnew a f
    · refine .inr ?_
      cases e : H a with
      | none => rfl
      | some o => rw [n.same a o e] at z; cases z
  fdom := m.fdom
/-- what a slot held, it holds later -/
theorem SlotOk.grow {M M' : Fz} (g : Grow F M H F' M' H') (dj : ∀ a, F a → ¬ M a) (nfz : ∀ a o u, M a → H a = some (.frz o u) → False) (px : ∀ (k : Nat) (a : Addr), ex[k]? = some a → ex'[k]? = some a) (hx : ∀ a, a ∈ ex' → a ∈ ex ∨ M a ∨ H a = none) {x : V} {v : Val} (h : SlotOk K F ex H x v)
    (hm : ∀ a d, x = .ref a → (v = .own d ∨ v = .bor d) → ¬ M a) : SlotOk K F' ex' H' x v := by
  have cellOk : ∀ {a : Addr} {d : D}, Cell K F H a d → a ∉ ex → ¬ M a → Cell K F' H' a d ∧ a ∉ ex' := fun {a d} c nx nm => by
    obtain ⟨u, e⟩ := c.there
    refine ⟨c.mono g.fmono (g.kp dj) (fun o e => g.keep a o e nm), fun m => ?_⟩
    rcases hx a m with m | m | z
    · exact nx m
    · exact nm m
    · rw [z] at e; cases e
  cases v with
  | dat d => exact Rf.mono g.fmono (g.kp dj) d h
  | own d =>
    obtain ⟨a, rfl, c, nf, nx⟩ := h
    have nm := hm a d rfl (.inl rfl)
    obtain ⟨c', nx'⟩ := cellOk c nx nm
    refine ⟨a, rfl, c', fun f => ?_, nx'⟩
    obtain ⟨u, e⟩ := c.there
    rcases g.fnew a f with f | m | z
    · exact nf f
    · exact nm m
    · rw [z] at e; cases e
  | ext k => obtain ⟨a, e, rfl⟩ := h; exact ⟨a, px k a e, rfl⟩
  | bor d =>
    obtain ⟨a, rfl, c, nx⟩ := h
    exact ⟨a, rfl, cellOk c nx (hm a d rfl (.inr rfl))⟩
  | loc _ => exact h.elim
  | scr ns =>
    obtain ⟨a, rfl, c⟩ := h
    refine ⟨a, rfl, ?_⟩
    rcases c with ⟨o, e⟩ | c
    · exact .inl ⟨o, g.keep a _ e fun m => nfz a _ _ m e⟩
    · exact .inr c
theorem Rel.nfz (r : Rel K F ex s σ H) : ∀ a o u, Mu s.ρ σ ex a → H a = some (.frz o u) → False := fun a o u m e => by
  rcases m with m | ⟨i, d, e1, e2⟩
  · obtain ⟨k, hk, ek⟩ := List.mem_iff_getElem.mp m
    have hk' : k < s.μ.length := by rw [r.exl]; exact hk
    obtain ⟨b, e1, nf, c⟩ := r.cel k _ (List.getElem?_eq_getElem hk')
    rw [List.getElem?_eq_getElem hk, ek] at e1
    cases e1
    exact c.nofrz e
  · obtain ⟨x, e3, b, rfl, c, _⟩ := r.slot i _ e1
    rw [e2] at e3; cases e3
    exact c.nofrz e
/-- new frozen things come: all stays -/
theorem Rel.new (r : Rel K F ex s σ H) (n : New F H F' H') : Rel K F' ex s σ H' where
  len := r.len
  slot := fun i v e => by
    obtain ⟨x, e1, h⟩ := r.slot i v e
    refine ⟨x, e1, ?_⟩
    refine h.grow (n.grow fun _ => False) (fun _ _ z => z) (fun _ _ _ z => z.elim) (fun _ _ e => e) (fun a m => .inl m) fun _ _ _ _ z => z
  sep := r.sep
  lent := r.lent
  exl := r.exl
  exd := r.exd
  cel := fun k d e => by
    obtain ⟨a, e1, nf, c⟩ := r.cel k d e
    obtain ⟨u, eu⟩ := c.there
    refine ⟨a, e1, fun f => ?_, c.mono n.fmono n.kp fun o => n.same a o⟩
    rcases n.fnew a f with f | z
    · exact nf f
    · rw [z] at eu; cases eu
  fdom := n.fdom
/-- a list or dict of one's own is changed -/
theorem Rel.setOwn {i : Nat} {d d' : D} {a : Addr} {o : HO} (r : Rel K F ex s σ H) (e : s.ρ[i]? = some (some (.own d))) (hx : σ[i]? = some (some (V.ref a))) (c : Cell K F (upd H a o) a d') :
    Rel K F ex (setSlot s i (.own d')) σ (upd H a o) ∧ Grow F (Mu s.ρ σ ex) H F (Mu (setSlot s i (.own d')).ρ σ ex) (upd H a o) := by
  have hm : Ow s.ρ σ a := ⟨i, d, e, hx⟩
  obtain ⟨nf, nx, o0, eo⟩ := r.ow hm
  have kp : Kp F H (upd H a o) := fun b u f z => by
    rw [upd_ne (fun q => nf (by rw [← q]; exact f))]; exact z
  have hne : ∀ {b u}, b ≠ a → H b = some u → upd H a o b = some u := fun n z => by rw [upd_ne n]; exact z
  have hi : i < s.ρ.length := (List.getElem?_eq_some_iff.mp e).1
  have gs : ∀ {j : Nat} {v : Val}, (s.ρ.set i (some (Val.own d')))[j]? = some (some v) → (i = j ∧ v = .own d') ∨ (i ≠ j ∧ s.ρ[j]? = some (some v)) := fun {j v} z => by
    by_cases h : i = j
    · subst h
      rw [List.getElem?_set_self hi] at z
      cases z; exact .inl ⟨rfl, rfl⟩
    · rw [List.getElem?_set_ne h] at z; exact .inr ⟨h, z⟩
  have ow : ∀ b, Ow (setSlot s i (.own d')).ρ σ b → Ow s.ρ σ b := fun b ⟨j, d1, e3, e4⟩ => by
    rcases gs e3 with ⟨rfl, _⟩ | ⟨_, z⟩
    · rw [hx] at e4; cases e4; exact hm
    · exact ⟨j, d1, z, e4⟩
  refine ⟨⟨by simp [setSlot, r.len], fun j v e3 => ?_, fun j k d1 d2 b e3 e4 h1 h2 => ?_, fun j d1 b e3 e4 o => ?_, r.exl, r.exd, fun k d1 e3 => ?_, fun b f => ?_⟩, ⟨fun b u z nm => hne (fun q => nm (.inr (by rw [q]; exact hm))) z, fun b u z => ?_, fun _ f => f, fun _ f => .inl f, fun b m => m.elim (fun m => .inl (.inl m)) fun m => .inl (.inr (ow b m))⟩⟩
  · rcases gs e3 with ⟨rfl, rfl⟩ | ⟨hj, z⟩
    · exact ⟨_, hx, a, rfl, c, nf, nx⟩
    · obtain ⟨x, e4, h⟩ := r.slot j v z
      refine ⟨x, e4, ?_⟩
      cases v with
      | dat d => exact Rf.mono (fun _ f => f) kp d h
      | own d2 =>
        obtain ⟨b, rfl, c2, nf2, nx2⟩ := h
        have hb : b ≠ a := fun q => hj (r.sep i j d d2 a e z hx (by rw [← q]; exact e4))
        exact ⟨b, rfl, c2.mono (fun _ f => f) kp fun u => hne hb, nf2, nx2⟩
      | ext k => exact h
      | bor d2 =>
        obtain ⟨b, rfl, c2, nx2⟩ := h
        have hb : b ≠ a := fun q => r.lent j d2 b z e4 (by rw [q]; exact hm)
        exact ⟨b, rfl, c2.mono (fun _ f => f) kp fun u => hne hb, nx2⟩
      | loc _ => exact h.elim
      | scr ns =>
        obtain ⟨b, rfl, c2⟩ := h
        refine ⟨b, rfl, ?_⟩
        rcases c2 with ⟨ob, z2⟩ | c2
        · exact .inl ⟨ob, hne (fun q => r.nfz a ob _ (.inr hm) (by rw [← q]; exact z2)) z2⟩
        · exact .inr c2
  · rcases gs e3 with ⟨rfl, q1⟩ | ⟨n1, z1⟩
    · rcases gs e4 with ⟨rfl, q2⟩ | ⟨n2, z2⟩
      · rfl
      · exact r.sep i k d d2 b e z2 h1 h2
    · rcases gs e4 with ⟨rfl, q2⟩ | ⟨n2, z2⟩
      · exact r.sep j i d1 d b z1 e h1 h2
      · exact r.sep j k d1 d2 b z1 z2 h1 h2
  · rcases gs e3 with ⟨_, z⟩ | ⟨_, z⟩
    · cases z
    · exact r.lent j d1 b z e4 (ow b o)
  · obtain ⟨b, e4, nf2, c2⟩ := r.cel k d1 e3
    have hb : b ≠ a := fun q => nx (by rw [← q]; exact List.mem_of_getElem? e4)
    exact ⟨b, e4, nf2, c2.mono (fun _ f => f) kp fun u => hne hb⟩
  · obtain ⟨u, z⟩ := r.fdom b f
    exact ⟨u, kp b u f z⟩
  · by_cases hb : b = a
    · subst hb; exact ⟨o, upd_same⟩
    · exact ⟨u, hne hb z⟩
/-- an object that others hold too is changed -/
theorem Rel.setExt {k : Nat} {d d' : D} {a : Addr} {o : HO} (r : Rel K F ex s σ H) (e : s.μ[k]? = some d) (hx : ex[k]? = some a) (c : Cell K F (upd H a o) a d') :
    Rel K F ex { s with μ := s.μ.set k d' } σ (upd H a o) ∧ Grow F (Mu s.ρ σ ex) H F (Mu s.ρ σ ex) (upd H a o) := by
  have hm : a ∈ ex := List.mem_of_getElem? hx
  obtain ⟨nf, o0, eo⟩ := r.exm hm
  have kp : Kp F H (upd H a o) := fun b u f z => by
    rw [upd_ne (fun q => nf (by rw [← q]; exact f))]; exact z
  have hne : ∀ {b u}, b ≠ a → H b = some u → upd H a o b = some u := fun n z => by rw [upd_ne n]; exact z
  have hk : k < s.μ.length := (List.getElem?_eq_some_iff.mp e).1
  refine ⟨⟨r.len, fun j v e3 => ?_, r.sep, r.lent, by simp [r.exl], r.exd, fun j d1 e3 => ?_, fun b f => ?_⟩, ⟨fun b u z nm => hne (fun q => nm (.inl (by rw [q]; exact hm))) z, fun b u z => ?_, fun _ f => f, fun _ f => .inl f, fun b m => .inl m⟩⟩
  · obtain ⟨x, e4, h⟩ := r.slot j v e3
    refine ⟨x, e4, ?_⟩
    cases v with
    | dat d => exact Rf.mono (fun _ f => f) kp d h
    | own d2 =>
      obtain ⟨b, rfl, c2, nf2, nx2⟩ := h
      exact ⟨b, rfl, c2.mono (fun _ f => f) kp fun u => hne (fun q => nx2 (by rw [q]; exact hm)), nf2, nx2⟩
    | ext k => exact h
    | bor d2 =>
      obtain ⟨b, rfl, c2, nx2⟩ := h
      exact ⟨b, rfl, c2.mono (fun _ f => f) kp fun u => hne (fun q => nx2 (by rw [q]; exact hm)), nx2⟩
    | loc _ => exact h.elim
    | scr ns =>
      obtain ⟨b, rfl, c2⟩ := h
      refine ⟨b, rfl, ?_⟩
      rcases c2 with ⟨ob, z2⟩ | c2
      · exact .inl ⟨ob, hne (fun q => r.nfz a ob _ (.inl hm) (by rw [← q]; exact z2)) z2⟩
      · exact .inr c2
  · by_cases h : k = j
    · subst h
      have e3 : (s.μ.set k d')[k]? = some d1 := e3
      rw [List.getElem?_set_self hk] at e3
      cases e3
      exact ⟨a, hx, nf, c⟩
    · have e3 : (s.μ.set k d')[j]? = some d1 := e3
      rw [List.getElem?_set_ne h] at e3
      obtain ⟨b, e4, nf2, c2⟩ := r.cel j d1 e3
      have hb : b ≠ a := fun q => h (by
        obtain ⟨l1, g1⟩ := List.getElem?_eq_some_iff.mp hx
        obtain ⟨l2, g2⟩ := List.getElem?_eq_some_iff.mp e4
        exact (List.getElem_inj r.exd).mp (g1.trans (q.symm.trans g2.symm)))
      exact ⟨b, e4, nf2, c2.mono (fun _ f => f) kp fun u => hne hb⟩
  · obtain ⟨u, z⟩ := r.fdom b f
    exact ⟨u, kp b u f z⟩
  · by_cases hb : b = a
    · subst hb; exact ⟨o, upd_same⟩
    · exact ⟨u, hne hb z⟩
end
end Ded
end

section
set_option Elab.async false
set_option linter.all false
set_option maxRecDepth 100000
/-! What an expression's reading is, by the pure evaluator. -/
namespace Ded
open PySem L2

/-- where a def's body began -/
structure Entry where
  F : Fz
  H : Hp
  ex : List Addr
  M : Fz
/-- how a raised exception lies: its class by number, its fields -/
abbrev Xc := Nat → List D → Fz → List Addr → List D → Hp → Value → Option Addr → Prop
structure From (en : Entry) (F : Fz) (ex : List Addr) (s : S) (σ : L2.St) (H : Hp) : Prop where
  grow : Grow en.F en.M en.H F (Mu s.ρ σ ex) H
  pre : en.ex <+: ex
/-- no slot becomes one that is only lent -/
def NB (s s' : S) : Prop := ∀ (i : Nat) (d : D), s'.ρ[i]? = some (some (.bor d)) → ∃ d', s.ρ[i]? = some (some (Val.bor d'))
theorem NB.refl {s : S} : NB s s := fun _ d e => ⟨d, e⟩
theorem NB.trans {s s1 s2 : S} (a : NB s s1) (b : NB s1 s2) : NB s s2 := fun i d e => let ⟨d', e'⟩ := b i d e; a i d' e'
theorem NB.set {s : S} {i : Nat} {v : Val} (h : ∀ d, v ≠ .bor d) : NB s (setSlot s i v) := fun j d e => by
  have e : (s.ρ.set i (some v))[j]? = some (some (.bor d)) := e
  by_cases q : i = j
  · subst q
    by_cases hl : i < s.ρ.length
    · rw [List.getElem?_set_self hl] at e; cases e; exact absurd rfl (h d)
    · rw [List.getElem?_eq_none (by simpa using hl)] at e; cases e
  · rw [List.getElem?_set_ne q] at e; exact ⟨d, e⟩
structure Step (F : Fz) (ex : List Addr) (s : S) (σ : L2.St) (H : Hp) (F' : Fz) (ex' : List Addr) (s' : S) (H' : Hp) : Prop where
  grow : Grow F (Mu s.ρ σ ex) H F' (Mu s'.ρ σ ex') H'
  pre : ex <+: ex'
  bo : NB s s'
theorem Step.refl {F : Fz} {ex : List Addr} {s : S} {σ : L2.St} {H : Hp} : Step F ex s σ H F ex s H := ⟨Grow.refl _ _ _, List.prefix_refl _, .refl⟩
theorem Step.trans {F F1 F2 : Fz} {ex ex1 ex2 : List Addr} {s s1 s2 : S} {σ : L2.St} {H H1 H2 : Hp} (a : Step F ex s σ H F1 ex1 s1 H1) (b : Step F1 ex1 s1 σ H1 F2 ex2 s2 H2) : Step F ex s σ H F2 ex2 s2 H2 :=
  ⟨a.grow.trans b.grow, a.pre.trans b.pre, a.bo.trans b.bo⟩
theorem From.step {en : Entry} {F F1 : Fz} {ex ex1 : List Addr} {s s1 : S} {σ : L2.St} {H H1 : Hp} (f : From en F ex s σ H) (b : Step F ex s σ H F1 ex1 s1 H1) : From en F1 ex1 s1 σ H1 := ⟨f.grow.trans b.grow, f.pre.trans b.pre⟩

/-- what is held where an exception has come: every list, dict that was handed in is told anew -/
structure XRel (K : PySem.W.Frag) (en : Entry) (F : Fz) (ex : List Addr) (μ : List D) (H : Hp) : Prop where
  grow : ∃ M, Grow en.F en.M en.H F M H
  pre : en.ex <+: ex
  exl : μ.length = ex.length
  exd : ex.Nodup
  cel : ∀ (k : Nat) (d : D), μ[k]? = some d → ∃ a, ex[k]? = some a ∧ ¬ F a ∧ Cell K F H a d
  fdom : ∀ a, F a → ∃ o, H a = some o
  new : ∀ a, a ∈ ex → en.M a ∨ en.H a = none

/-- a value at hand; H0: the heap where its expression began -/
def RV (K : PySem.W.Frag) (F : Fz) (ex : List Addr) (s : S) (σ : L2.St) (H0 H : Hp) (x : V) : Val → Prop
  | .dat d => Rf K F H x d
  | .own d => ∃ a, x = .ref a ∧ Cell K F H a d ∧ ¬ F a ∧ ¬ Mu s.ρ σ ex a ∧ ¬ Bo s.ρ σ a ∧ H0 a = none
  | .ext k => ∃ a, ex[k]? = some a ∧ x = .ref a
  | .bor d => ∃ a, x = .ref a ∧ Cell K F H a d ∧ a ∉ ex
  | .loc i => σ[i]? = some (some x)
  | .scr ns => ∃ a, x = .ref a ∧ Scr K H a ns

section
variable (K : PySem.W.Frag) (en : Entry) (xc : Xc) (Wi : XK)
def Ends_ {α : Type} (r : R α) (F : Fz) (ex : List Addr) (s : S) (σ : L2.St) (H : Hp) (Pk : Fz → List Addr → Hp → S → α → Prop) : Prop :=
  match r with
  | .ok a s' => ∀ F' ex' H', Rel K F' ex' s' σ H' → Step F ex s σ H F' ex' s' H' → Pk F' ex' H' s' a
  | .exc c fs s' => ∀ F' ex' H' cls od, XRel K en F' ex' s'.μ H' → xc c fs F' ex' s'.μ H' cls od → Wi cls od H'
  | .bad => False
def TE' (m : M Val) : TE := fun σ H Q => ∃ F ex s, Rel K F ex s σ H ∧ From en F ex s σ H ∧ Ends_ K en xc Wi (m s) F ex s σ H fun F' ex' H' s' v => ∀ x, RV K F' ex' s' σ H H' x v → Q x H'
def TT' (m : M Bool) : TT := fun σ H Q => ∃ F ex s, Rel K F ex s σ H ∧ From en F ex s σ H ∧ Ends_ K en xc Wi (m s) F ex s σ H fun F' ex' H' s' b => Q b H'
end

section
variable {K : PySem.W.Frag} {en : Entry} {xc : Xc} {Wi : XK} {α β : Type} {F F' : Fz} {ex ex' : List Addr} {s s' : S} {σ : L2.St} {H H' : Hp}
theorem Ends_.imp {r : R α} {P P' : Fz → List Addr → Hp → S → α → Prop} (h : Ends_ K en xc Wi r F ex s σ H P)
    (q : ∀ F' ex' H' s' a, r = .ok a s' → Rel K F' ex' s' σ H' → Step F ex s σ H F' ex' s' H' → P F' ex' H' s' a → P' F' ex' H' s' a) : Ends_ K en xc Wi r F ex s σ H P' := by
  cases r with
  | ok a t => exact fun F' ex' H' r st => q F' ex' H' t a rfl r st (h F' ex' H' r st)
  | exc c fs t => exact h
  | bad => exact h
/-- seen from a later moment -/
theorem Ends_.later {r : R α} {P : Fz → List Addr → Hp → S → α → Prop} {F1 : Fz} {ex1 : List Addr} {s1 : S} {H1 : Hp} (h : Ends_ K en xc Wi r F ex s σ H P) (st : Step F ex s σ H F1 ex1 s1 H1) : Ends_ K en xc Wi r F1 ex1 s1 σ H1 P := by
  cases r with
  | ok a t => exact fun F2 ex2 H2 r2 st2 => h F2 ex2 H2 r2 (st.trans st2)
  | exc c fs t => exact h
  | bad => exact h
/-- the first of two -/
theorem Ends_.bind {m : M α} {f : α → M β} {t : S} {P : Fz → List Addr → Hp → S → β → Prop} (h : Ends_ K en xc Wi (M.bind m f t) F ex s σ H P) :
    Ends_ K en xc Wi (m t) F ex s σ H fun F1 ex1 H1 s1 a => Ends_ K en xc Wi (f a s1) F ex s σ H P := by
  unfold M.bind at h
  cases e : m t with
  | ok a t =>
    rw [e] at h
    intro F1 ex1 H1 r st
    exact h
  | exc c fs t => rw [e] at h; exact h
  | bad => rw [e] at h; exact h
/-- .. with new frozen things -/
theorem Ends_.new {a : α} {P : Fz → List Addr → Hp → S → α → Prop} {F0 : Fz} {ex0 : List Addr} {s0 : S} {H0 : Hp} (h : Ends_ K en xc Wi (.ok a s) F0 ex0 s0 σ H0 P) (st : Step F0 ex0 s0 σ H0 F ex s H) (r : Rel K F ex s σ H) (n : New F H F' H') : P F' ex H' s a :=
  h F' ex H' (r.new n) (st.trans ⟨n.grow _, List.prefix_refl _, .refl⟩)

theorem pre_get {α : Type} {l l' : List α} (p : l <+: l') {k : Nat} {a : α} (e : l[k]? = some a) : l'[k]? = some a := by
  obtain ⟨t, rfl⟩ := p
  rw [List.getElem?_append_left (List.getElem?_eq_some_iff.mp e).1]
  exact e
/-- an operand's value: it stays while others are made -/
def OV (K : PySem.W.Frag) (F : Fz) (ex : List Addr) (σ : L2.St) (H : Hp) (x : V) : Val → Prop
  | .dat d => Rf K F H x d
  | .ext k => ∃ a, ex[k]? = some a ∧ x = .ref a
  | .loc i => σ[i]? = some (some x)
  | _ => False
theorem OV.step {x : V} {u : Val} (r : Rel K F ex s σ H) (st : Step F ex s σ H F' ex' s' H') (h : OV K F ex σ H x u) : OV K F' ex' σ H' x u := by
  cases u with
  | dat d => exact Rf.mono st.grow.fmono (st.grow.kp r.dj) d h
  | ext k => obtain ⟨a, e, rfl⟩ := h; exact ⟨a, pre_get st.pre e, rfl⟩
  | loc i => exact h
  | own _ => exact h.elim
  | bor _ => exact h.elim
  | scr _ => exact h.elim
/-- read as it stands now: frozen, or somebody's own -/
def RT (K : PySem.W.Frag) (F : Fz) (H : Hp) (x : V) (d : D) : Prop := Rf K F H x d ∨ ∃ a, x = .ref a ∧ Cell K F H a d
theorem OV.peek {x : V} {u : Val} {d : D} (r : Rel K F ex s σ H) (h : OV K F ex σ H x u) (e : peek u s = some d) : RT K F H x d := by
  cases u with
  | dat d' => cases e; exact .inl h
  | ext k =>
    obtain ⟨a, e1, rfl⟩ := h
    obtain ⟨b, e2, _, c⟩ := r.cel k d e
    rw [e1] at e2; cases e2
    exact .inr ⟨a, rfl, c⟩
  | loc i =>
    have h : σ[i]? = some (some x) := h
    have e : (match slot s i with | some (.own d) => some d | some (.bor d) => some d | _ => none) = some d := e
    unfold slot at e
    cases e1 : s.ρ[i]? with
    | none => rw [e1] at e; cases e
    | some o =>
      cases o with
      | none => rw [e1] at e; cases e
      | some v =>
        rw [e1] at e
        obtain ⟨y, e2, so⟩ := r.slot i v e1
        rw [h] at e2; cases e2
        cases v with
        | own d' => cases e; obtain ⟨a, rfl, c, _⟩ := so; exact .inr ⟨a, rfl, c⟩
        | bor d' => cases e; obtain ⟨a, rfl, c, _⟩ := so; exact .inr ⟨a, rfl, c⟩
        | dat _ => cases e
        | ext _ => cases e
        | loc _ => cases e
        | scr _ => cases e
  | own _ => exact h.elim
  | bor _ => exact h.elim
  | scr _ => exact h.elim
end

section
variable {K : PySem.W.Frag} {en : Entry} {xc : Xc} {Wi : XK} {F F' : Fz} {ex ex' : List Addr} {s s' : S} {σ : L2.St} {H H0 H' : Hp}
/-- a fresh thing is frozen -/
theorem RV.freezes {x : V} {d : D} (r : Rel K F ex s σ H) (h : RV K F ex s σ H0 H x (.own d)) (st : Step F' ex' s' σ H0 F ex s H) :
    ∃ F2, Rel K F2 ex s σ H ∧ Rf K F2 H x d ∧ Step F' ex' s' σ H0 F2 ex s H ∧ ∀ a, F a → F2 a := by
  obtain ⟨a, rfl, c, nf, nm, _, n0⟩ := h
  refine ⟨fun b => F b ∨ b = a, r.freeze c.there nm, (c.mono (fun b f => .inl f) (fun _ _ _ e => e) fun _ e => e).rf (.inr rfl), ⟨⟨st.grow.keep, st.grow.dom, fun b f => .inl (st.grow.fmono b f), fun b f => ?_, st.grow.mnew⟩, st.pre, st.bo⟩, fun b f => .inl f⟩
  rcases f with f | rfl
  · exact st.grow.fnew b f
  · exact .inr (.inr n0)
/-- an operand -/
theorem TE'.opd {m : M Val} {Q : VK} (h : TE' K en xc Wi (mOpd m) σ H Q) : TE' K en xc Wi m σ H Q := by
  obtain ⟨F, ex, s, r, f, h⟩ := h
  refine ⟨F, ex, s, r, f, ?_⟩
  refine (Ends_.bind (m := m) (f := Ded.opd) h).imp fun F1 ex1 H1 s1 v _ r1 st q x rv => ?_
  cases v with
  | dat d => exact q F1 ex1 H1 r1 st x rv
  | own d =>
    obtain ⟨F2, r2, rf, st2, _⟩ := RV.freezes r1 rv st
    exact q F2 ex1 H1 r2 st2 x rf
  | ext k => exact q F1 ex1 H1 r1 st x rv
  | bor d => exact q.elim
  | loc i => exact q F1 ex1 H1 r1 st x rv
  | scr ns => exact q.elim
/-- an operand's value -/
theorem RV.ov {x : V} {v : Val} {m : M Val} {t : S} {s : S} (e : mOpd m t = .ok v s') (h : RV K F ex s σ H0 H x v) : OV K F ex σ H x v := by
  unfold mOpd M.bind at e
  cases e1 : m t with
  | exc _ _ _ => rw [e1] at e; cases e
  | bad => rw [e1] at e; cases e
  | ok u s2 =>
    rw [e1] at e
    have e : Ded.opd u s2 = .ok v s' := e
    cases u <;> simp only [Ded.opd, M.ret, M.bad] at e <;> first | (cases e; exact h) | cases e
theorem bind_ok {α β : Type} {m : M α} {f : α → M β} {b : β} (e : M.bind m f s = .ok b s') : ∃ a t, m s = .ok a t ∧ f a t = .ok b s' := by
  unfold M.bind at e
  cases e1 : m s with
  | exc _ _ _ => rw [e1] at e; cases e
  | bad => rw [e1] at e; cases e
  | ok a t => rw [e1] at e; exact ⟨a, t, rfl, e⟩
theorem slot_eq {i : Nat} {v : Val} : Ded.slot s i = some v ↔ s.ρ[i]? = some (some v) := by
  unfold Ded.slot
  cases e : s.ρ[i]? with
  | none => simp
  | some o => cases o <;> simp
theorem get_set {α : Type} {l : List α} {i j : Nat} {a b : α} (e : (l.set i a)[j]? = some b) : (i = j ∧ a = b) ∨ (i ≠ j ∧ l[j]? = some b) := by
  by_cases h : i = j
  · subst h
    by_cases hl : i < l.length
    · rw [List.getElem?_set_self hl] at e; cases e; exact .inl ⟨rfl, rfl⟩
    · rw [List.getElem?_eq_none (by simpa using hl)] at e; cases e
  · rw [List.getElem?_set_ne h] at e; exact .inr ⟨h, e⟩
/-- one's own slot is frozen -/
theorem frz_slot {i : Nat} {d : D} {x : V} (r : Rel K F ex s σ H) (e : Ded.slot s i = some (.own d)) (hx : σ[i]? = some (some x)) :
    ∃ F2, Rel K F2 ex (setSlot s i (.dat d)) σ H ∧ Rf K F2 H x d ∧ Step F ex s σ H F2 ex (setSlot s i (.dat d)) H := by
  have e' := slot_eq.mp e
  obtain ⟨y, e2, a, rfl, c, nf, nx⟩ := r.slot i _ e'
  rw [hx] at e2; cases e2
  have hF : ∀ b, F b → (fun b => F b ∨ b = a) b := fun b f => .inl f
  have kp : Kp F H H := fun _ _ _ e => e
  have rf : Rf K (fun b => F b ∨ b = a) H (.ref a) d := (c.mono hF kp fun _ e => e).rf (.inr rfl)
  have ow : ∀ b, Ow (setSlot s i (.dat d)).ρ σ b → Ow s.ρ σ b := fun b ⟨j, d', e3, e4⟩ => by
    rcases get_set e3 with ⟨_, z⟩ | ⟨_, z⟩
    · cases z
    · exact ⟨j, d', z, e4⟩
  refine ⟨fun b => F b ∨ b = a, ⟨by simp [setSlot, r.len], fun j v e3 => ?_, fun j k d1 d2 b e3 e4 => ?_, fun j d1 b e3 e4 o => ?_, r.exl, r.exd, fun k d1 e3 => ?_, fun b f => f.elim (r.fdom b) fun z => by subst z; exact c.there⟩, rf, ⟨⟨fun _ _ e _ => e, fun _ o e => ⟨o, e⟩, hF, fun b f => f.elim .inl fun z => .inr (.inl (.inr ⟨i, d, e', by rw [z]; exact hx⟩)), fun b m => m.elim (fun m => .inl (.inl m)) fun m => .inl (.inr (ow b m))⟩, List.prefix_refl _, .set fun _ => by simp⟩⟩
  · rcases get_set e3 with ⟨rfl, z⟩ | ⟨hne, z⟩
    · cases z
      exact ⟨_, hx, rf⟩
    · obtain ⟨x, e4, h⟩ := r.slot j v z
      refine ⟨x, e4, ?_⟩
      cases v with
      | dat d => exact Rf.mono hF kp d h
      | own d' =>
        obtain ⟨b, rfl, c, nf, nx⟩ := h
        exact ⟨b, rfl, c.mono hF kp fun _ e => e, fun f => f.elim nf fun q => hne (r.sep i j d d' a e' z hx (by rw [← q]; exact e4)), nx⟩
      | ext k => exact h
      | bor d =>
        obtain ⟨b, rfl, c, nx⟩ := h
        exact ⟨b, rfl, c.mono hF kp fun _ e => e, nx⟩
      | loc _ => exact h.elim
      | scr ns => exact h
  · rcases get_set e3 with ⟨_, z⟩ | ⟨_, z⟩
    · cases z
    · rcases get_set e4 with ⟨_, z'⟩ | ⟨_, z'⟩
      · cases z'
      · exact r.sep j k d1 d2 b z z'
  · rcases get_set e3 with ⟨_, z⟩ | ⟨_, z⟩
    · cases z
    · exact r.lent j d1 b z e4 (ow b o)
  · obtain ⟨b, e4, nf, c⟩ := r.cel k d1 e3
    exact ⟨b, e4, fun f => f.elim nf fun q => nx (by rw [← q]; exact List.mem_of_getElem? e4), c.mono hF kp fun _ e => e⟩
/-- frozen -/
theorem TE'.frz {m : M Val} {Q : VK} (h : TE' K en xc Wi (M.bind (mFrz m) fun d => M.ret (.dat d)) σ H Q) : TE' K en xc Wi m σ H Q := by
  obtain ⟨F, ex, s, r, f, h⟩ := h
  refine ⟨F, ex, s, r, f, ?_⟩
  have h := Ends_.bind (m := mFrz m) h
  refine (Ends_.bind (m := m) (f := Ded.freeze) h).imp fun F1 ex1 H1 s1 v _ r1 st q x rv => ?_
  cases v with
  | dat d => exact q F1 ex1 H1 r1 st F1 ex1 H1 r1 st x rv
  | own d =>
    obtain ⟨F2, r2, rf, st2, _⟩ := RV.freezes r1 rv st
    exact q F2 ex1 H1 r2 st2 F2 ex1 H1 r2 st2 x rf
  | ext k => exact q.elim
  | bor d => exact q.elim
  | loc i =>
    have q : Ends_ K en xc Wi (match Ded.slot s1 i with | some (.own d) => R.ok d (setSlot s1 i (.dat d)) | _ => .bad) F ex s σ H _ := q
    cases e : Ded.slot s1 i with
    | none => rw [e] at q; exact q.elim
    | some w =>
      rw [e] at q
      cases w <;> first | exact q.elim | skip
      rename_i d
      obtain ⟨F2, r2, rf, st2⟩ := frz_slot r1 e rv
      exact q F2 ex1 H1 r2 (st.trans st2) F2 ex1 H1 r2 (st.trans st2) x rf
  | scr ns => exact q.elim
/-- what an operation hands on: all else is as it was -/
def ResOk (K : PySem.W.Frag) (F : Fz) (H : Hp) (res : Val) (x : V) (F' : Fz) (H' : Hp) : Prop := New F H F' H' ∧ match res with
  | .dat d => Rf K F' H' x d
  | .own d => ∃ p, x = .ref p ∧ H p = none ∧ ¬ F' p ∧ Cell K F' H' p d
  | _ => False
theorem ResOk.rv {F0 : Fz} {ex0 : List Addr} {s0 : S} {res : Val} {x : V} (r : Rel K F ex s σ H) (st : Step F0 ex0 s0 σ H0 F ex s H) (h : ResOk K F H res x F' H') : RV K F' ex s σ H0 H' x res := by
  obtain ⟨n, h⟩ := h
  cases res with
  | dat d => exact h
  | own d =>
    obtain ⟨p, rfl, hp, nf, c⟩ := h
    refine ⟨p, rfl, c, nf, fun m => ?_, fun m => ?_, st.grow.none hp⟩
    · obtain ⟨o, e⟩ := r.mdom m
      rw [hp] at e; cases e
    · obtain ⟨o, e⟩ := r.bo m
      rw [hp] at e; cases e
  | ext _ => exact h.elim
  | bor _ => exact h.elim
  | loc _ => exact h.elim
  | scr _ => exact h.elim
/-- what is known where an operation is done -/
def rOp2 (K : PySem.W.Frag) (g : D → D → Option Val) : R2 := fun x y H Q => ∃ F dx dy res, (∀ a, F a → ∃ o, H a = some o) ∧ RT K F H x dx ∧ RT K F H y dy ∧ g dx dy = some res ∧ ∀ x' F' H', ResOk K F H res x' F' H' → Q x' H'
def rOp1 (K : PySem.W.Frag) (g : D → Option Val) : V → Hp → VK → Prop := fun x H Q => ∃ F dx res, (∀ a, F a → ∃ o, H a = some o) ∧ RT K F H x dx ∧ g dx = some res ∧ ∀ x' F' H', ResOk K F H res x' F' H' → Q x' H'
theorem Ends_.peek' {β : Type} {u : Val} {f : D → M β} {F0 : Fz} {ex0 : List Addr} {s0 : S} {H0 : Hp} {P : Fz → List Addr → Hp → S → β → Prop} (h : Ends_ K en xc Wi (M.bind (peekM u) f s) F0 ex0 s0 σ H0 P) : ∃ d, Ded.peek u s = some d ∧ Ends_ K en xc Wi (f d s) F0 ex0 s0 σ H0 P := by
  unfold M.bind Ded.peekM at h
  cases e : Ded.peek u s with
  | none => rw [e] at h; exact h.elim
  | some d => rw [e] at h; exact ⟨d, rfl, h⟩
theorem Ends_.opt {β : Type} {o : Option β} {F0 : Fz} {ex0 : List Addr} {s0 : S} {H0 : Hp} {P : Fz → List Addr → Hp → S → β → Prop} (h : Ends_ K en xc Wi (M.opt o s) F0 ex0 s0 σ H0 P) : ∃ d, o = some d ∧ Ends_ K en xc Wi (.ok d s) F0 ex0 s0 σ H0 P := by
  cases o with
  | none => exact h.elim
  | some d => exact ⟨d, rfl, h⟩
theorem Ends_.optb {α β : Type} {o : Option α} {f : α → M β} {F0 : Fz} {ex0 : List Addr} {s0 : S} {H0 : Hp} {P : Fz → List Addr → Hp → S → β → Prop} (h : Ends_ K en xc Wi (M.bind (M.opt o) f s) F0 ex0 s0 σ H0 P) : ∃ d, o = some d ∧ Ends_ K en xc Wi (f d s) F0 ex0 s0 σ H0 P := by
  cases o with
  | none => exact h.elim
  | some d => exact ⟨d, rfl, h⟩
/-- an operation's end -/
theorem Ends_.res {res : Val} {Q : VK} {F0 : Fz} {ex0 : List Addr} {s0 : S} {H0 H00 : Hp} (h : Ends_ K en xc Wi (.ok res s) F0 ex0 s0 σ H0 fun F' ex' H' s' v => ∀ x, RV K F' ex' s' σ H00 H' x v → Q x H') (r : Rel K F ex s σ H) (st : Step F0 ex0 s0 σ H0 F ex s H)
    (h00 : ∀ a, H0 a = none → H00 a = none) : ∀ x' F' H', ResOk K F H res x' F' H' → Q x' H' := fun x' F' H' q => by
  refine h.new st r q.1 x' ?_
  have rv := q.rv r st
  cases res with
  | own d => obtain ⟨p, e, c, a, b, c', z⟩ := rv; exact ⟨p, e, c, a, b, c', h00 p z⟩
  | _ => exact rv
/-- two operands -/
theorem TE'.two {m n : M Val} {g : D → D → Option Val} {Q : VK} (h : TE' K en xc Wi (mTwo m n g) σ H Q) : TE' K en xc Wi m σ H fun x H1 => TE' K en xc Wi n σ H1 fun y H2 => rOp2 K g x y H2 Q := by
  refine TE'.opd ?_
  obtain ⟨F, ex, s, r, fr, h⟩ := h
  refine ⟨F, ex, s, r, fr, ?_⟩
  refine (Ends_.bind (m := mOpd m) h).imp fun F1 ex1 H1 s1 u e1 r1 st1 q x rv => ?_
  have ov : OV K F1 ex1 σ H1 x u := RV.ov e1 rv
  refine TE'.opd ⟨F1, ex1, s1, r1, fr.step st1, ?_⟩
  refine ((Ends_.bind (m := mOpd n) (s := s1) (F := F1) (ex := ex1) (H := H1) (q.later st1))).imp fun F2 ex2 H2 s2 v e2 r2 st2 q2 y rv2 => ?_
  have ov2 : OV K F2 ex2 σ H2 y v := RV.ov e2 rv2
  have ov1 := ov.step r1 st2
  obtain ⟨dx, p1, q2⟩ := q2.peek'
  obtain ⟨dy, p2, q2⟩ := q2.peek'
  obtain ⟨res, p3, q2⟩ := q2.opt
  exact ⟨F2, dx, dy, res, r2.fdom, ov1.peek r2 p1, ov2.peek r2 p2, p3, q2.res r2 st2 fun a z => st1.grow.none z⟩
theorem TE'.one {m : M Val} {g : D → Option Val} {Q : VK} (h : TE' K en xc Wi (mOne m g) σ H Q) : TE' K en xc Wi m σ H fun x H1 => rOp1 K g x H1 Q := by
  refine TE'.opd ?_
  obtain ⟨F, ex, s, r, fr, h⟩ := h
  refine ⟨F, ex, s, r, fr, ?_⟩
  refine (Ends_.bind (m := mOpd m) h).imp fun F1 ex1 H1 s1 u e1 r1 st1 q x rv => ?_
  have ov : OV K F1 ex1 σ H1 x u := RV.ov e1 rv
  obtain ⟨dx, p1, q2⟩ := q.peek'
  obtain ⟨res, p3, q2⟩ := q2.opt
  exact ⟨F1, dx, res, r1.fdom, ov.peek r1 p1, p3, q2.res r1 st1 fun a z => z⟩
end
end Ded
end

section
set_option Elab.async false
set_option linter.all false
set_option maxRecDepth 100000
/-! The operations do what the evaluator says. -/
namespace Ded
open PySem L2
section
variable {K : PySem.W.Frag} {F F' : Fz} {H H' : Hp} {x y : V}
theorem rt_int {i : Int} (h : RT K F H x (.int i)) : x = .int i := by
  rcases h with h | ⟨a, _, c⟩
  · cases h; rfl
  · exact c.elim
theorem rt_bool {i : Bool} (h : RT K F H x (.bool i)) : x = .bl i := by
  rcases h with h | ⟨a, _, c⟩
  · cases h; rfl
  · exact c.elim
theorem rt_none (h : RT K F H x .none) : x = .non := by
  rcases h with h | ⟨a, _, c⟩
  · cases h; rfl
  · exact c.elim
theorem rt_str {i : Str} (h : RT K F H x (.str i)) : x = .str i := by
  rcases h with h | ⟨a, _, c⟩
  · cases h; rfl
  · exact c.elim
theorem rt_list {ds : List D} (h : RT K F H x (.list ds)) : ∃ a xs, x = .ref a ∧ H a = some (.lst xs) ∧ xs.length ≤ sizeLine ∧ RfA K F H xs ds := by
  rcases h with h | ⟨a, e, c⟩
  · cases h with
    | lst f e z r => exact ⟨_, _, rfl, e, z, r⟩
  · obtain ⟨xs, e1, z, r⟩ := c
    exact ⟨a, xs, e, e1, z, r⟩
theorem rt_tup {ds : List D} (h : RT K F H x (.tuple ds)) : ∃ a xs, x = .ref a ∧ F a ∧ H a = some (.tup xs) ∧ xs.length ≤ sizeLine ∧ RfA K F H xs ds := by
  rcases h with h | ⟨a, e, c⟩
  · cases h with
    | tup f e z r => exact ⟨_, _, rfl, f, e, z, r⟩
  · exact c.elim
theorem rt_dict {es : List (D × D)} (h : RT K F H x (.dict es)) : ∃ a kvs, x = .ref a ∧ Rd H a (.dK kvs) ∧ RfK K F H kvs es := by
  rcases h with h | ⟨a, e, c⟩
  · cases h with
    | dct f e r => exact ⟨_, _, rfl, e, r⟩
  · obtain ⟨kvs, e1, r⟩ := c
    exact ⟨a, kvs, e, .inl e1, r⟩
theorem rt_dp {d : D} (c : d.canLay0 = true) (h : RT K F H x d) : Dp K H x d := by
  rcases h with h | ⟨a, rfl, q⟩
  · exact Rf.dp d c h
  · cases d with
    | list ds =>
      obtain ⟨xs, e, z, r⟩ := q
      exact .lst (SqL.of e) (RfA.dp ds (by simpa only [PyData.canLay0] using c) r)
    | dict es => simp [PyData.canLay0] at c
    | none => exact q.elim
    | bool _ => exact q.elim
    | int _ => exact q.elim
    | str _ => exact q.elim
    | tuple _ => exact q.elim
/-- results that are no objects -/
theorem ResOk.atom {d : D} {v : V} (hF : ∀ a, F a → ∃ o, H a = some o) (h : ∀ F H, Rf K F H v d) : ResOk K F H (.dat d) v F H := ⟨New.refl hF, h F H⟩
theorem ResOk.old {d : D} {v : V} (hF : ∀ a, F a → ∃ o, H a = some o) (h : Rf K F H v d) : ResOk K F H (.dat d) v F H := ⟨New.refl hF, h⟩
theorem ResOk.lst {xs : List V} {ds : List D} {p : Addr} (hF : ∀ a, F a → ∃ o, H a = some o) (hp : H p = none) (z : xs.length ≤ sizeLine) (r : RfA K F H xs ds) : ResOk K F H (.own (.list ds)) (.ref p) F (upd H p (.lst xs)) := by
  have n := New.own hF hp (.lst xs)
  refine ⟨n, p, rfl, hp, fun f => ?_, xs, upd_same, z, RfA.mono (fun _ f => f) n.kp ds r⟩
  obtain ⟨o, e⟩ := hF p f
  rw [hp] at e; cases e
theorem ResOk.tup {xs : List V} {ds : List D} {p : Addr} (hF : ∀ a, F a → ∃ o, H a = some o) (hp : H p = none) (z : xs.length ≤ sizeLine) (r : RfA K F H xs ds) : ResOk K F H (.dat (.tuple ds)) (.ref p) (fun a => F a ∨ a = p) (upd H p (.tup xs)) := by
  have n := New.frz hF hp (.tup xs)
  exact ⟨n, .tup (.inr rfl) upd_same z (RfA.mono n.fmono n.kp ds r)⟩
theorem ResOk.dK {kvs : List (Key × V)} {es : List (D × D)} {p : Addr} (hF : ∀ a, F a → ∃ o, H a = some o) (hp : H p = none) (r : RfK K F H kvs es) : ResOk K F H (.own (.dict es)) (.ref p) F (upd H p (.dK kvs)) := by
  have n := New.own hF hp (.dK kvs)
  refine ⟨n, p, rfl, hp, fun f => ?_, kvs, upd_same, RfK.mono (fun _ f => f) n.kp es r⟩
  obtain ⟨o, e⟩ := hF p f
  rw [hp] at e; cases e
end

def Bop.op : Bop → Operator
  | .add => .Add | .sub => .Sub | .mul => .Mult | .fdiv => .FloorDiv | .mod => .Mod | .pow => .Pow
section
variable {X : Cx}
theorem op_bin (o : Bop) : OpR X (binaryOp o.op) (rOp2 X.K (binD o)) := by
  intro pins s σ H x y v u Q I rx ry h
  obtain ⟨F, dx, dy, res, hF, hx, hy, e, q⟩ := h
  unfold binD at e
  split at e
  · cases rt_int hx; cases rt_int hy; cases e
    exact op_add pins s σ H _ _ v u Q I rx ry ⟨_, _, rfl, rfl, q _ _ _ (ResOk.atom hF fun _ _ => .int _)⟩
  · cases rt_str hx; cases rt_str hy
    split at e <;> cases e
    exact op_add_str pins s σ H _ _ v u Q I rx ry ⟨_, _, rfl, rfl, by assumption, q _ _ _ (ResOk.atom hF fun _ _ => .str _)⟩
  · split at e <;> cases e
    rename_i hz
    obtain ⟨a, xs, rfl, ea, za, ra⟩ := rt_list hx
    obtain ⟨b, ys, rfl, eb, zb, rb⟩ := rt_list hy
    have hz2 : xs.length + ys.length ≤ sizeLine := by rw [ra.length, rb.length]; exact hz
    exact op_cat pins s σ H _ _ v u Q I rx ry ⟨_, _, xs, ys, rfl, rfl, ea, eb, hz2, fun p hp => q _ _ _ (ResOk.lst hF hp (by rw [List.length_append]; exact hz2) (ra.append rb))⟩
  · split at e <;> cases e
    rename_i hz
    obtain ⟨a, xs, rfl, fa, ea, za, ra⟩ := rt_tup hx
    obtain ⟨b, ys, rfl, fb, eb, zb, rb⟩ := rt_tup hy
    have hz2 : xs.length + ys.length ≤ sizeLine := by rw [ra.length, rb.length]; exact hz
    refine op_catA pins s σ H _ _ v u Q I rx ry ⟨_, _, xs, ys, rfl, rfl, SqT.of ea, SqT.of eb, hz2, fun e => ?_, fun _ e => ?_, fun _ _ p hp => q _ _ _ (ResOk.tup hF hp (by rw [List.length_append]; exact hz2) (ra.append rb))⟩
    · subst e
      cases ra
      exact q _ _ _ (ResOk.old hF (.tup fb eb zb rb))
    · subst e
      cases rb
      exact q _ _ _ (ResOk.old hF (by rw [List.append_nil]; exact .tup fa ea za ra))
  · cases rt_int hx; cases rt_int hy; cases e
    exact op_sub pins s σ H _ _ v u Q I rx ry ⟨_, _, rfl, rfl, q _ _ _ (ResOk.atom hF fun _ _ => .int _)⟩
  · cases rt_int hx; cases rt_int hy
    split at e <;> cases e
    rename_i hm
    exact op_mul pins s σ H _ _ v u Q I rx ry ⟨_, _, rfl, rfl, by unfold fitsMul at hm; unfold CMul; exact of_decide_eq_true hm, q _ _ _ (ResOk.atom hF fun _ _ => .int _)⟩
  · cases rt_int hx; cases rt_int hy
    split at e <;> cases e
    rename_i hm
    exact op_fdiv pins s σ H _ _ v u Q I rx ry ⟨_, _, rfl, rfl, hm, q _ _ _ (ResOk.atom hF fun _ _ => .int _)⟩
  · cases rt_int hx; cases rt_int hy
    split at e <;> cases e
    rename_i hm
    exact op_mod pins s σ H _ _ v u Q I rx ry ⟨_, _, rfl, rfl, hm, q _ _ _ (ResOk.atom hF fun _ _ => .int _)⟩
  · cases rt_int hx; cases rt_int hy
    split at e <;> cases e
    rename_i hm
    exact op_pow pins s σ H _ _ v u Q I rx ry ⟨_, _, rfl, rfl, hm, q _ _ _ (ResOk.atom hF fun _ _ => .int _)⟩
  · cases e

theorem kd_inj {k k' : Key} : sameKey (kd k') (kd k) = decide (k' = k) := by
  cases k <;> cases k' <;> simp [kd, sameKey]
theorem RfK.look {K : PySem.W.Frag} {F : Fz} {H : Hp} : ∀ {kvs : List (Key × V)} {es : List (D × D)} (k : Key), RfK K F H kvs es →
    (valV kvs k = none ∧ keyIn es (kd k) = none) ∨ ∃ v d, valV kvs k = some v ∧ keyIn es (kd k) = some d ∧ Rf K F H v d
  | _, _, k, .nil => .inl ⟨rfl, rfl⟩
  | (k', v) :: kvs, (_, d) :: es, k, .cons a r => by
    unfold valV keyIn
    rw [List.find?_cons, List.find?_cons]
    dsimp only
    rw [kd_inj]
    by_cases h : k' = k
    · rw [decide_eq_true h]
      exact .inr ⟨v, d, rfl, rfl, a⟩
    · rw [decide_eq_false h]
      exact RfK.look k r
theorem dict_in {K : PySem.W.Frag} {F : Fz} {H : Hp} {a : Addr} {kvs : List (Key × V)} {es : List (D × D)} (k : Key) (er : Rd H a (.dK kvs)) (rk : RfK K F H kvs es) : DGet H a (kV k) (valV kvs k) ∧ (valV kvs k).isSome = (keyIn es (kd k)).isSome := by
  refine ⟨.inl ⟨kvs, k, er, rfl, rfl⟩, ?_⟩
  rcases rk.look k with ⟨e1, e2⟩ | ⟨v, d, e1, e2, _⟩
  · simp [e1, e2]
  · simp [e1, e2]
theorem key_of {K : PySem.W.Frag} {F : Fz} {H : Hp} {x : V} {d : D} (hk : isKey d = true) (h : RT K F H x d) : ∃ k : Key, d = kd k ∧ x = kV k := by
  cases d <;> simp [isKey] at hk
  · exact ⟨.inl _, rfl, rt_int h⟩
  · exact ⟨.inr _, rfl, rt_str h⟩
def Cop.op : Cop → CmpOp
  | .eq => .Eq | .ne => .NotEq | .lt => .Lt | .le => .LtE | .gt => .Gt | .ge => .GtE | .is_ => .Is | .isnot => .IsNot | .in_ => .In | .notin => .NotIn
theorem scal_eqv {K : PySem.W.Frag} {F : Fz} {H : Hp} {x y : V} {dx dy : D} (h : scalD dx dy = true) (hx : RT K F H x dx) (hy : RT K F H y dy) : scal x y = true ∧ decide (x = y) = PyData.eqv dx dy := by
  cases dx <;> cases dy <;> simp only [scalD, Bool.false_eq_true] at h <;>
    (first | cases rt_none hx | cases rt_int hx | cases rt_bool hx | cases rt_str hx) <;> (first | cases rt_none hy | cases rt_int hy | cases rt_bool hy | cases rt_str hy) <;>
    refine ⟨rfl, ?_⟩ <;> simp [PyData.eqv, Bool.beq_eq_decide_eq]
theorem rt_isN {K : PySem.W.Frag} {F : Fz} {H : Hp} {x : V} {d : D} (h : RT K F H x d) : isNoneD d = decide (x = V.non) := by
  cases d with
  | none => cases rt_none h; rfl
  | bool _ => cases rt_bool h; rfl
  | int _ => cases rt_int h; rfl
  | str _ => cases rt_str h; rfl
  | list _ => obtain ⟨a, _, rfl, _⟩ := rt_list h; rfl
  | tuple _ => obtain ⟨a, _, rfl, _⟩ := rt_tup h; rfl
  | dict _ => obtain ⟨a, _, rfl, _⟩ := rt_dict h; rfl
theorem inStr_cases (x z : Str) : (∃ c, x = ⟨#[c]⟩) ∨ inStr x z = !(Builtin.Str.occurrences z x 0 z.length 1).isEmpty := by
  unfold inStr
  split
  · rename_i c hc
    refine .inl ⟨c, ?_⟩
    obtain ⟨cps⟩ := x
    congr 1
    exact Array.toList_inj.mp hc
  · exact .inr rfl
theorem op_cmpG (o : Cop) (hu : X.A.units + 65 < cLine) : OpR X (compareOp o.op) (rOp2 X.K (gCmp o)) := by
  intro pins s σ H x y v u Q I rx ry h
  obtain ⟨F, dx, dy, res, hF, hx, hy, e, q⟩ := h
  unfold gCmp at e
  obtain ⟨b, eb, rfl⟩ := Option.map_eq_some_iff.mp e
  clear e
  have q := q _ _ _ (ResOk.atom (d := .bool b) hF fun _ _ => .bl b)
  have eqCase : ∀ {b : Bool}, eqD dx dy = some b → (scalD dx dy = true ∧ b = PyData.eqv dx dy) ∨ (SeqAt.shaped dx = true ∧ SeqAt.shaped dy = true ∧ b = PyData.eqv dx dy) := fun {b} e => by
    unfold eqD at e
    split at e <;> cases e
    rename_i hc
    rcases Bool.or_eq_true_iff.mp hc with h | h
    · exact .inl ⟨h, rfl⟩
    · exact .inr ⟨(Bool.and_eq_true_iff.mp h).1, (Bool.and_eq_true_iff.mp h).2, rfl⟩
  have inCase : ∀ {b : Bool}, inD dx dy = some b → (Q (.bl b) H → wpAny (model X.prog X.w) X.A (compareOp .In v u) (EP X pins σ Q) X.xe s) ∧ (Q (.bl (!b)) H → wpAny (model X.prog X.w) X.A (compareOp .NotIn v u) (EP X pins σ Q) X.xe s) := fun {b} e => by
    unfold inD at e
    split at e
    · rename_i xa za
      cases rt_str hx; cases rt_str hy; cases e
      rcases inStr_cases xa za with ⟨c, rfl⟩ | e'
      · exact ⟨fun q => op_in_sign pins s σ H _ _ v u Q I rx ry ⟨c, _, rfl, rfl, q⟩, fun q => op_notIn_sign pins s σ H _ _ v u Q I rx ry ⟨c, _, rfl, rfl, q⟩⟩
      · rw [e']
        exact ⟨fun q => op_in_str pins s σ H _ _ v u Q I rx ry ⟨_, _, rfl, rfl, q⟩, fun q => op_notIn_str pins s σ H _ _ v u Q I rx ry ⟨_, _, rfl, rfl, q⟩⟩
    · split at e <;> cases e
      rename_i hs
      obtain ⟨h1, h2⟩ := Bool.and_eq_true_iff.mp hs
      have d1 := rt_dp (SeqAt.canLay_of_shaped h1) hx
      have d2 := rt_dp (SeqAt.canLay_of_shaped h2) hy
      exact ⟨fun q => op_inD hu pins s σ H _ _ v u Q I rx ry ⟨_, _, d1, d2, h1, h2, q⟩, fun q => op_notInD hu pins s σ H _ _ v u Q I rx ry ⟨_, _, d1, d2, h1, h2, q⟩⟩
    · split at e <;> cases e
      rename_i hs
      obtain ⟨h1, h2⟩ := Bool.and_eq_true_iff.mp hs
      have d1 := rt_dp (SeqAt.canLay_of_shaped h1) hx
      have d2 := rt_dp (SeqAt.canLay_of_shaped h2) hy
      obtain ⟨as, r1⟩ := Dp.reads I _ x v d1 rx
      obtain ⟨bs, r2⟩ := Dp.reads I _ y u d2 ry
      exact ⟨fun q => SeqAt.in_tuple_reads r2 r1 (SeqAt.canLay_of_shaped h2) (SeqAt.canLay_of_shaped h1) (by have h3 := SeqAt.depth_of_shaped h1; omega) ⟨.bl _, H, I, rfl, q⟩,
        fun q => SeqAt.notIn_tuple_reads r2 r1 (SeqAt.canLay_of_shaped h2) (SeqAt.canLay_of_shaped h1) (by have h3 := SeqAt.depth_of_shaped h1; omega) ⟨.bl _, H, I, rfl, q⟩⟩
    · rename_i xa esa
      cases e
      obtain ⟨a, kvs, rfl, er, rk⟩ := rt_dict hy
      cases rt_str hx
      obtain rfl : u = Value.ref a := ry
      obtain ⟨g, hb⟩ := dict_in (.inr xa) er rk
      exact ⟨fun q => d_in (by omega) I g rx fun s3 I3 => ⟨.bl _, H, I3, rfl, by rw [hb]; exact q⟩, fun q => d_notIn (by omega) I g rx fun s3 I3 => ⟨.bl _, H, I3, rfl, by rw [hb]; exact q⟩⟩
    · rename_i xa esa
      cases e
      obtain ⟨a, kvs, rfl, er, rk⟩ := rt_dict hy
      cases rt_int hx
      obtain rfl : u = Value.ref a := ry
      obtain ⟨g, hb⟩ := dict_in (.inl xa) er rk
      exact ⟨fun q => d_in (by omega) I g rx fun s3 I3 => ⟨.bl _, H, I3, rfl, by rw [hb]; exact q⟩, fun q => d_notIn (by omega) I g rx fun s3 I3 => ⟨.bl _, H, I3, rfl, by rw [hb]; exact q⟩⟩
    · cases e
  have e := eb
  unfold cmpD at e
  split at e
  · rcases eqCase e with ⟨h, rfl⟩ | ⟨h1, h2, rfl⟩
    · obtain ⟨e1, e2⟩ := scal_eqv h hx hy
      exact op_eq pins s σ H _ _ v u Q I rx ry ⟨e1, by rw [e2]; exact q⟩
    · exact op_eqD (by omega) pins s σ H _ _ v u Q I rx ry ⟨_, _, rt_dp (SeqAt.canLay_of_shaped h1) hx, rt_dp (SeqAt.canLay_of_shaped h2) hy, h1, h2, q⟩
  · obtain ⟨b, e2, rfl⟩ := Option.map_eq_some_iff.mp e
    rcases eqCase e2 with ⟨h, rfl⟩ | ⟨h1, h2, rfl⟩
    · obtain ⟨e1, e2⟩ := scal_eqv h hx hy
      exact op_ne pins s σ H _ _ v u Q I rx ry ⟨e1, by rw [e2]; exact q⟩
    · exact op_neD (by omega) pins s σ H _ _ v u Q I rx ry ⟨_, _, rt_dp (SeqAt.canLay_of_shaped h1) hx, rt_dp (SeqAt.canLay_of_shaped h2) hy, h1, h2, q⟩
  · cases rt_int hx; cases rt_int hy; cases e
    exact op_lt pins s σ H _ _ v u Q I rx ry ⟨_, _, rfl, rfl, q⟩
  · cases rt_int hx; cases rt_int hy; cases e
    exact op_le pins s σ H _ _ v u Q I rx ry ⟨_, _, rfl, rfl, q⟩
  · cases rt_int hx; cases rt_int hy; cases e
    exact op_gt pins s σ H _ _ v u Q I rx ry ⟨_, _, rfl, rfl, q⟩
  · cases rt_int hx; cases rt_int hy; cases e
    exact op_ge pins s σ H _ _ v u Q I rx ry ⟨_, _, rfl, rfl, q⟩
  · cases rt_str hx; cases rt_str hy; cases e
    exact op_lt_str pins s σ H _ _ v u Q I rx ry ⟨_, _, rfl, rfl, q⟩
  · cases rt_str hx; cases rt_str hy; cases e
    exact op_le_str pins s σ H _ _ v u Q I rx ry ⟨_, _, rfl, rfl, q⟩
  · cases rt_str hx; cases rt_str hy; cases e
    exact op_gt_str pins s σ H _ _ v u Q I rx ry ⟨_, _, rfl, rfl, q⟩
  · cases rt_str hx; cases rt_str hy; cases e
    exact op_ge_str pins s σ H _ _ v u Q I rx ry ⟨_, _, rfl, rfl, q⟩
  · cases rt_none hy
    refine op_isN pins s σ H _ _ v u Q I rx ry ⟨rfl, ?_⟩
    have hb : decide (x = V.non) = b := by
      rw [← Option.some.inj e]
      exact (rt_isN hx).symm
    rw [hb]; exact q
  · cases rt_none hy
    refine op_notN pins s σ H _ _ v u Q I rx ry ⟨rfl, ?_⟩
    have hb : (!decide (x = V.non)) = b := by
      rw [← Option.some.inj e, ← rt_isN hx]
    rw [hb]; exact q
  · exact (inCase e).1 q
  · obtain ⟨b, e2, rfl⟩ := Option.map_eq_some_iff.mp e
    exact (inCase e2).2 q
  · cases e
end
end Ded
end

section
set_option Elab.async false
set_option linter.all false
set_option maxRecDepth 100000
namespace Ded
open PySem L2
section
variable {K : PySem.W.Frag} {F : Fz} {H : Hp} {x : V}
theorem RfA.atI {xs : List V} {ds : List D} {i : Int} {d : D} (r : RfA K F H xs ds) (e : L2.atI ds i = some d) : ∃ v, L2.atI xs i = some v ∧ Rf K F H v d := by
  unfold L2.atI at e ⊢
  rw [r.length]
  cases h : ixN ds.length i with
  | none => rw [h] at e; cases e
  | some j =>
    rw [h] at e
    exact r.get (i := j) e
theorem tru_of {d : D} {b : Bool} (h : RT K F H x d) (e : truD d = some b) : TruV K x H b := by
  cases d with
  | none => cases rt_none h; cases e; rfl
  | bool _ => cases rt_bool h; cases e; rfl
  | int i =>
    cases rt_int h; cases e
    show decide (i ≠ 0) = (i != 0)
    by_cases h : i = 0 <;> simp [h]
  | str y =>
    cases rt_str h
    simp only [truD] at e
    split at e <;> cases e
    rename_i hz
    refine ⟨hz, ?_⟩
    by_cases h0 : y.length = 0
    · simp [h0]
    · have : ((y.length : Int) ≠ 0) := by omega
      simp [h0, this]
  | list ds =>
    obtain ⟨a, xs, rfl, ea, z, r⟩ := rt_list h
    cases e
    refine .inl ⟨xs, SqL.of ea, ?_⟩
    cases r <;> rfl
  | tuple ds =>
    obtain ⟨a, xs, rfl, fa, ea, z, r⟩ := rt_tup h
    cases e
    refine .inr (.inl ⟨xs, SqT.of ea, ?_⟩)
    cases r <;> rfl
  | dict _ => cases e
theorem len_of {d : D} {n : Nat} (h : RT K F H x d) (e : lenD d = some n) : LenV K x H n := by
  cases d with
  | none => cases e
  | bool _ => cases e
  | int i => cases e
  | str y =>
    cases rt_str h
    simp only [lenD] at e
    split at e <;> cases e
    exact ⟨by assumption, rfl⟩
  | list ds =>
    obtain ⟨a, xs, rfl, ea, z, r⟩ := rt_list h
    cases e
    exact .inl ⟨xs, SqL.of ea, r.length.symm⟩
  | tuple ds =>
    obtain ⟨a, xs, rfl, fa, ea, z, r⟩ := rt_tup h
    cases e
    exact .inr ⟨xs, SqT.of ea, r.length.symm⟩
  | dict _ => cases e
end
section
variable {X : Cx}
theorem ix_den (hu : X.A.units + 1 < cLine) : IxR X (rOp2 X.K gIdx) := by
  intro value slice pins s σ H x y v u Q I rx ry h hs
  obtain ⟨F, dx, dy, res, hF, hx, hy, e, q⟩ := h
  obtain ⟨d, e2, rfl⟩ := Option.map_eq_some_iff.mp e
  clear e
  have e := e2
  clear e2
  unfold idxD at e
  split at e
  · obtain ⟨a, xs, rfl, ea, z, r⟩ := rt_list hx
    cases rt_int hy
    obtain ⟨w, e1, rw'⟩ := r.atI e
    exact ix_list value slice pins s σ H _ _ v u Q I rx ry ⟨a, xs, _, w, rfl, rfl, SqL.of ea, e1, q _ _ _ (ResOk.old hF rw')⟩ hs
  · obtain ⟨a, xs, rfl, fa, ea, z, r⟩ := rt_tup hx
    cases rt_int hy
    obtain ⟨w, e1, rw'⟩ := r.atI e
    exact ix_tup value slice pins s σ H _ _ v u Q I rx ry ⟨a, xs, _, w, rfl, rfl, SqT.of ea, e1, q _ _ _ (ResOk.old hF rw')⟩ hs
  · cases rt_str hx; cases rt_int hy
    split at e
    · rename_i hz
      obtain ⟨c, e1, rfl⟩ := Option.map_eq_some_iff.mp e
      exact ix_str value slice pins s σ H _ _ v u Q I rx ry ⟨_, _, c, rfl, rfl, hz, e1, q _ _ _ (ResOk.atom hF fun _ _ => .str _)⟩ hs
    · cases e
  · split at e
    · rename_i hk
      obtain ⟨a, kvs, rfl, er, rk⟩ := rt_dict hx
      obtain ⟨k, rfl, rfl⟩ := key_of hk hy
      obtain rfl : v = Value.ref a := rx
      rcases rk.look k with ⟨e1, e2⟩ | ⟨w, d', e1, e2, rw'⟩
      · rw [e2] at e; cases e
      · rw [e2] at e; cases e
        have g : DGet H a (kV k) (some w) := .inl ⟨kvs, k, er, rfl, e1.symm⟩
        exact PyProof.Rows.tail_any (dict_typeIs I g) PySem.F.slot_dict_getitem.lookup (d_getItem hu I g ry fun w' s3 I3 rw2 => ⟨w, H, I3, rw2, q _ _ _ (ResOk.old hF rw')⟩) hs
    · cases e
  · cases e
/-- slices -/
def rSli (K : PySem.W.Frag) : V → Option Int → Option Int → Hp → VK → Prop := fun x lo hi H Q => ∃ F dx res, (∀ a, F a → ∃ o, H a = some o) ∧ RT K F H x dx ∧ sliD dx lo hi = some res ∧ ∀ x' F' H', ResOk K F H res x' F' H' → Q x' H'
theorem RfA.cut {K : PySem.W.Frag} {F : Fz} {H : Hp} {xs : List V} {ds : List D} (r : RfA K F H xs ds) (lo hi : Option Int) : RfA K F H (cutV xs lo hi) (cutL ds lo hi) := by
  unfold cutV cutL
  rw [r.length]
  exact (r.drop _).take _
theorem sl_den : SlR X (rSli X.K) := by
  intro pins s σ H x v vl vu lo hi sl Q I rx hs pl pu h
  obtain ⟨F, dx, res, hF, hx, e, q⟩ := h
  unfold sliD at e
  split at e
  · obtain ⟨a, xs, rfl, ea, z, r⟩ := rt_list hx
    cases e
    exact sl_list pins s σ H _ v vl vu lo hi sl Q I rx hs pl pu ⟨a, xs, rfl, SqL.of ea, fun p hp => q _ _ _ (ResOk.lst hF hp (Nat.le_trans (cutV_length xs lo hi) z) (r.cut lo hi))⟩
  · obtain ⟨a, xs, rfl, fa, ea, z, r⟩ := rt_tup hx
    cases e
    refine sl_tupA pins s σ H _ v vl vu lo hi sl Q I rx hs pl pu ⟨a, xs, rfl, SqT.of ea, fun hw => q _ _ _ (ResOk.old hF ?_), fun _ p hp => q _ _ _ (ResOk.tup hF hp (Nat.le_trans (cutV_length xs lo hi) z) (r.cut lo hi))⟩
    refine .tup fa ea z ?_
    have hc := r.cut lo hi
    have e2 : cutV xs lo hi = xs := by
      unfold cutV
      rw [hw.1, hw.2]
      simp
    rw [e2] at hc
    exact hc
  · cases rt_str hx
    split at e <;> cases e
    rename_i hz
    exact sl_str pins s σ H _ v vl vu lo hi sl Q I rx hs pl pu ⟨_, rfl, hz, q _ _ _ (ResOk.atom hF fun _ _ => .str _)⟩
  · cases e
theorem un_den : UnR X (unaryOp .USub) (rOp1 X.K gNeg) := by
  intro pins s σ H x v Q I rx h
  obtain ⟨F, dx, res, hF, hx, e, q⟩ := h
  unfold gNeg at e
  split at e <;> cases e
  cases rt_int hx
  exact un_neg pins s σ H _ v Q I rx ⟨_, rfl, q _ _ _ (ResOk.atom hF fun _ _ => .int _)⟩
/-! ### isinstance -/
def Ty.name : Ty → String
  | .int => "int" | .bool => "bool" | .str => "str" | .tuple => "tuple" | .list => "list" | .dict => "dict"
theorem isi_ok {K : PySem.W.Frag} {F : Fz} {H : Hp} {x : V} {d : D} (t : Ty) (h : RT K F H x d) : ∃ ty, TyX K H x (.type ty) ∧ PySem.W.kitOne K (.type ty) (.type t.name) = some (isTy t d) := by
  cases d with
  | none => cases rt_none h; exact ⟨_, .base .non, by cases t <;> first | exact kit_ty (r := true) (by decide +kernel) | exact kit_ty (r := false) (by decide +kernel)⟩
  | bool _ => cases rt_bool h; exact ⟨_, .base (.bl _), by cases t <;> first | exact kit_ty (r := true) (by decide +kernel) | exact kit_ty (r := false) (by decide +kernel)⟩
  | int i => cases rt_int h; exact ⟨_, .base (.int _), by cases t <;> first | exact kit_ty (r := true) (by decide +kernel) | exact kit_ty (r := false) (by decide +kernel)⟩
  | str y => cases rt_str h; exact ⟨_, .base (.str _), by cases t <;> first | exact kit_ty (r := true) (by decide +kernel) | exact kit_ty (r := false) (by decide +kernel)⟩
  | list ds =>
    obtain ⟨a, xs, rfl, ea, z, r⟩ := rt_list h
    exact ⟨_, .base (.lst ea), by cases t <;> first | exact kit_ty (r := true) (by decide +kernel) | exact kit_ty (r := false) (by decide +kernel)⟩
  | tuple ds =>
    obtain ⟨a, xs, rfl, fa, ea, z, r⟩ := rt_tup h
    exact ⟨_, .base (.tup ea), by cases t <;> first | exact kit_ty (r := true) (by decide +kernel) | exact kit_ty (r := false) (by decide +kernel)⟩
  | dict es =>
    obtain ⟨a, kvs, rfl, er, rk⟩ := rt_dict h
    rcases er with e | ⟨o, e⟩
    · exact ⟨_, .base (.dK e), by cases t <;> first | exact kit_ty (r := true) (by decide +kernel) | exact kit_ty (r := false) (by decide +kernel)⟩
    · exact ⟨_, .fDict e, by cases t <;> first | exact kit_ty (r := true) (by decide +kernel) | exact kit_ty (r := false) (by decide +kernel)⟩
end
end Ded
end

section
set_option Elab.async false
set_option linter.all false
set_option maxRecDepth 100000
namespace Ded
open PySem L2
inductive RTA (K : PySem.W.Frag) (F : Fz) (H : Hp) : List V → List D → Prop
  | nil : RTA K F H [] []
  | cons {x : V} {d : D} {xs : List V} {ds : List D} : RT K F H x d → RTA K F H xs ds → RTA K F H (x :: xs) (d :: ds)
section
variable {K : PySem.W.Frag} {F : Fz} {H : Hp} {x : V}
theorem RTA.one {xs : List V} {d : D} (h : RTA K F H xs [d]) : ∃ x, xs = [x] ∧ RT K F H x d := by
  cases h with
  | cons a b => cases b; exact ⟨_, rfl, a⟩
theorem RTA.two {xs : List V} {d e : D} (h : RTA K F H xs [d, e]) : ∃ x y, xs = [x, y] ∧ RT K F H x d ∧ RT K F H y e := by
  cases h with
  | cons a b =>
    cases b with
    | cons c z => cases z; exact ⟨_, _, rfl, a, c⟩
theorem RfA.of_bools : ∀ {ds : List D} {bs : List Bool} {vs : List V}, boolsOf ds = some bs → RfA K F H vs ds → vs = bs.map V.bl
  | [], bs, _, e, r => by
    cases r
    simp [boolsOf] at e; subst e; rfl
  | .bool x :: ds, bs, _, e, r => by
    cases r with
    | cons a b =>
      cases a
      simp only [boolsOf, Option.map_eq_some_iff] at e
      obtain ⟨s2, e1, rfl⟩ := e
      rw [RfA.of_bools e1 b]; rfl
  | .none :: _, _, _, e, _ => by simp [boolsOf] at e
  | .str _ :: _, _, _, e, _ => by simp [boolsOf] at e
  | .int _ :: _, _, _, e, _ => by simp [boolsOf] at e
  | .list _ :: _, _, _, e, _ => by simp [boolsOf] at e
  | .tuple _ :: _, _, _, e, _ => by simp [boolsOf] at e
  | .dict _ :: _, _, _, e, _ => by simp [boolsOf] at e
theorem RfA.signs : ∀ (cs : List Nat), RfA K F H (cs.map fun c => V.str ⟨#[c]⟩) (cs.map fun c => .str ⟨#[c]⟩)
  | [] => .nil
  | _ :: r => .cons (.str _) (RfA.signs r)
end
def rBlt (K : PySem.W.Frag) (f : Blt) : List V → Hp → VK → Prop := fun xs H Q => ∃ F ds res, (∀ a, F a → ∃ o, H a = some o) ∧ RTA K F H xs ds ∧ bltD f ds = some res ∧ ∀ x' F' H', ResOk K F H res x' F' H' → Q x' H'
/-- as HandS's rule for all calls, from rules for each kind of argument -/
def Blt.val : Blt → Value
  | .len => .builtin "len" | .int => .type "int" | .list => .type "list" | .tuple => .type "tuple" | .repr => .builtin "repr" | .all => .builtin "all" | .any => .builtin "any" | .sorted => .builtin "sorted"
  | .sum => .builtin "sum" | .min => .builtin "min" | .max => .builtin "max" | .dict => .type "dict" | .str => .type "str" | .set => .type "set"
section
variable {X : Cx}
theorem vals_signs {z : Str} : ∀ {l : List Value} {k : Nat}, (∀ j v, l[j]? = some v → SignAt z (k + j) v) → k + l.length ≤ z.cps.size → Vals ((((z.cps.toList).drop k).take l.length).map fun c => V.str ⟨#[c]⟩) l
  | [], k, _, _ => by simp; exact .nil
  | v :: l, k, h, hk => by
    obtain ⟨c, u, e1, rfl⟩ := h 0 v rfl
    have hk' : k < z.cps.toList.length := by rw [Array.length_toList]; simp at hk; omega
    have e2 : z.cps.toList[k] = c := by
      have : z.cps.toList[k]? = some c := by rw [Array.getElem?_toList]; exact e1
      rw [List.getElem?_eq_getElem hk'] at this
      exact Option.some.inj this
    rw [List.drop_eq_getElem_cons hk', List.length_cons, List.take_succ_cons, List.map_cons, e2]
    refine .cons ⟨u, rfl⟩ (vals_signs (k := k + 1) (fun j v e => ?_) (by simp at hk; omega))
    have := h (j + 1) v (by simpa using e)
    rwa [show k + 1 + j = k + (j + 1) by omega]
theorem ltN_irrefl (a : List Nat) : ¬ a < a := List.lt_irrefl a
theorem strLe_iff {a b : Str} : strLe a b = true ↔ a.cps.toList ≤ b.cps.toList := by
  unfold strLe
  rw [Bool.not_eq_true', decide_eq_false_iff_not]
  rfl
theorem str_ext {a b : Str} (h : a.cps.toList = b.cps.toList) : a = b := by
  cases a; cases b
  exact congrArg _ (Array.toList_inj.mp h)
theorem le_t {a b c : Str} (h : strLe a b = true) (k : strLe b c = true) : strLe a c = true := strLe_iff.mpr (List.le_trans (strLe_iff.mp h) (strLe_iff.mp k))
theorem le_a {a b : Str} (h : strLe a b = true) (k : strLe b a = true) : a = b := str_ext (List.le_antisymm (strLe_iff.mp h) (strLe_iff.mp k))
theorem le_tot (a b : Str) : (strLe a b || strLe b a) = true := by
  rw [Bool.or_eq_true]
  rcases List.le_total a.cps.toList b.cps.toList with h | h
  · exact .inl (strLe_iff.mpr h)
  · exact .inr (strLe_iff.mpr h)
theorem rising_pw : ∀ {ys : List Str} {p : Str}, PyProof.Rows.risingS p ys = true → (∀ y ∈ ys, strLe p y = true) ∧ ys.Pairwise fun a b => strLe a b = true
  | [], _, _ => ⟨(fun _ h => nomatch h), .nil⟩
  | x :: r, p, h => by
    have h : (!Spec.ltCps x.cps.toList p.cps.toList && PyProof.Rows.risingS x r) = true := by
      unfold PyProof.Rows.risingS at h
      exact h
    rw [Bool.and_eq_true] at h
    obtain ⟨h1, h2⟩ := h
    have hp : strLe p x = true := by
      unfold strLe
      rw [← PyProof.Rows.ltCps_eq]
      exact h1
    obtain ⟨a, b⟩ := rising_pw h2
    refine ⟨fun y hy => ?_, List.pairwise_cons.mpr ⟨a, b⟩⟩
    rcases List.mem_cons.mp hy with rfl | hy
    · exact hp
    · exact le_t hp (a y hy)
theorem strs_sorted {xs ys : List Str} (p : ys.Perm xs) (h : PyProof.Rows.sortedS ys = true) : ys = xs.mergeSort strLe := by
  have pw : ys.Pairwise fun a b => strLe a b = true := by
    cases ys with
    | nil => exact .nil
    | cons y r =>
      obtain ⟨a, b⟩ := rising_pw (p := y) (ys := r) h
      exact List.pairwise_cons.mpr ⟨a, b⟩
  have q : (xs.mergeSort strLe).Pairwise fun a b => strLe a b = true := List.pairwise_mergeSort (le := strLe) (fun a b c => le_t) le_tot xs
  exact List.Perm.eq_of_pairwise (fun a b _ _ h k => le_a h k) pw q (p.trans (List.mergeSort_perm xs strLe).symm)
theorem repr_den (hu : X.A.units + 65 < cLine) (hg : X.A.guards = some []) : CallR X (.builtin "repr") (fun xs H Q => ∃ F d, RTA X.K F H xs [d] ∧ canRepr d = true ∧ Q (.str d.shown) H) := by
  intro pins s σ H xs us Q I r h
  obtain ⟨F, d, ra, hc, q⟩ := h
  obtain ⟨x, rfl, hx⟩ := ra.one
  simp only [canRepr, Bool.and_eq_true, decide_eq_true_eq] at hc
  obtain ⟨⟨⟨hl, hs⟩, hz⟩, hd⟩ := hc
  obtain ⟨u, rfl, ru⟩ := vals1 r
  have dp := rt_dp hl hx
  cases d with
  | none =>
    cases rt_none hx
    cases ru
    exact PySem.P.repr_of_none ⟨.str _, H, I.tok _, ⟨_, rfl⟩, q⟩
  | bool b =>
    cases rt_bool hx
    cases ru
    exact PySem.P.repr_of_bool ⟨.str _, H, I.tok _, ⟨_, rfl⟩, by simpa only [PyData.shown] using q⟩
  | int i =>
    cases rt_int hx
    obtain ⟨t, rfl⟩ := ru
    exact PySem.P.repr_of_int (by simpa [PyData.showable] using hs) ⟨.str _, H, I.tok _, ⟨_, rfl⟩, by simpa only [PyData.shown] using q⟩
  | str y =>
    cases rt_str hx
    obtain ⟨t, rfl⟩ := ru
    exact PySem.P.repr_of_str ⟨.str _, H, I.tok _, ⟨_, rfl⟩, by simpa only [PyData.shown] using q⟩ (by simpa only [PyData.shown] using hz)
  | list ds =>
    obtain ⟨a, _, rfl, _⟩ := rt_list hx
    cases ru
    obtain ⟨as, rd⟩ := Dp.reads I _ _ _ dp rfl
    refine repr_of_reads' rd hs (PyData.noDict_hsm (PyData.hasDict_of_canLay _ hl)) hg (by omega) (fun _ _ e => e) (fun h' u tk hk => ⟨.str _, H, I.kept (t' := tk) hk, ⟨_, rfl⟩, q⟩) hz
  | tuple ds =>
    obtain ⟨a, _, rfl, _⟩ := rt_tup hx
    cases ru
    obtain ⟨as, rd⟩ := Dp.reads I _ _ _ dp rfl
    refine repr_of_reads' rd hs (PyData.noDict_hsm (PyData.hasDict_of_canLay _ hl)) hg (by omega) (fun _ _ e => e) (fun h' u tk hk => ⟨.str _, H, I.kept (t' := tk) hk, ⟨_, rfl⟩, q⟩) hz
  | dict _ => simp [PyData.canLay0] at hl
/-- list(text) -/
theorem list_str (hc : X.calm = true) : CallR X (.type "list") (fun xs H Q => ∃ z : Str, xs = [.str z] ∧ z.length ≤ sizeLine ∧ ∀ p, H p = none → Q (.ref p) (upd H p (.lst (z.cps.toList.map fun c => V.str ⟨#[c]⟩)))) := by
  intro pins s σ H xs us Q I r h
  obtain ⟨z, rfl, hz, q⟩ := h
  obtain ⟨u, rfl, ru⟩ := vals1 r
  obtain ⟨t, rfl⟩ := ru
  refine call_list_str (I.ok.hd hc) z t (fun h' tk acc' c' hk hS hi => ?_) hz
  have hv := vals_signs (z := z) (l := acc'.toList) (k := 0) (fun j v e => by rw [Nat.zero_add]; exact hi.2 j v (by rw [← Array.getElem?_toList]; exact e)) (by rw [Array.length_toList, hi.1]; omega)
  rw [Array.length_toList, hi.1, List.drop_zero, List.take_of_length_le (by rw [Array.length_toList]; exact Nat.le_refl _)] at hv
  exact ⟨.ref _, _, I.laid (t' := tk) (o := .lst (z.cps.toList.map fun c => V.str ⟨#[c]⟩)) hk (Nat.le_refl _) ⟨by rw [List.length_map, Array.length_toList]; exact hz, acc'.toList, c', hv, by simpa using hS⟩, rfl, q _ I.fresh⟩
theorem blt_den (f : Blt) (hcalm : X.calm = true) (hu : X.A.units + 65 < cLine) (hg : X.A.guards = some []) : CallR X f.val (rBlt X.K f) := by
  intro pins s σ H xs us Q I r h
  obtain ⟨F, ds, res, hF, ra, e, q⟩ := h
  unfold bltD at e
  split at e
  · obtain ⟨x, rfl, hx⟩ := ra.one
    obtain ⟨n, e1, rfl⟩ := Option.map_eq_some_iff.mp e
    exact call_len pins s σ H _ us Q I r ⟨x, n, rfl, len_of hx e1, q _ _ _ (ResOk.atom hF fun _ _ => .int _)⟩
  · obtain ⟨x, rfl, hx⟩ := ra.one
    cases rt_int hx; cases e
    exact call_int1 pins s σ H _ us Q I r (.inl ⟨_, rfl, q _ _ _ (ResOk.atom hF fun _ _ => .int _)⟩)
  · obtain ⟨x, rfl, hx⟩ := ra.one
    cases rt_bool hx; cases e
    exact call_int1 pins s σ H _ us Q I r (.inr ⟨_, rfl, q _ _ _ (ResOk.atom hF fun _ _ => .int _)⟩)
  · obtain ⟨x, rfl, hx⟩ := ra.one
    obtain ⟨a, xs, rfl, ea, z, rr⟩ := rt_list hx
    cases e
    exact call_list_of pins s σ H _ us Q I r ⟨a, xs, rfl, .inl (SqL.of ea), fun p hp => q _ _ _ (ResOk.lst hF hp z rr)⟩
  · obtain ⟨x, rfl, hx⟩ := ra.one
    obtain ⟨a, xs, rfl, fa, ea, z, rr⟩ := rt_tup hx
    cases e
    exact call_list_of pins s σ H _ us Q I r ⟨a, xs, rfl, .inr (SqT.of ea), fun p hp => q _ _ _ (ResOk.lst hF hp z rr)⟩
  · obtain ⟨x, rfl, hx⟩ := ra.one
    cases rt_str hx
    split at e <;> cases e
    rename_i hz
    exact list_str hcalm pins s σ H _ us Q I r ⟨_, rfl, hz, fun p hp => q _ _ _ (ResOk.lst hF hp (by rw [List.length_map, Array.length_toList]; exact hz) (RfA.signs _))⟩
  · obtain ⟨x, rfl, hx⟩ := ra.one
    obtain ⟨a, xs, rfl, ea, z, rr⟩ := rt_list hx
    cases e
    exact call_tuple_of pins s σ H _ us Q I r ⟨a, xs, rfl, .inl ⟨SqL.of ea, fun p hp => q _ _ _ (ResOk.tup hF hp z rr)⟩⟩
  · obtain ⟨x, rfl, hx⟩ := ra.one
    obtain ⟨a, xs, rfl, fa, ea, z, rr⟩ := rt_tup hx
    cases e
    exact call_tuple_of pins s σ H _ us Q I r ⟨a, xs, rfl, .inr ⟨SqT.of ea, q _ _ _ (ResOk.old hF (.tup fa ea z rr))⟩⟩
  · split at e <;> cases e
    rename_i hc
    exact repr_den hu hg pins s σ H _ us Q I r ⟨F, _, ra, hc, q _ _ _ (ResOk.atom hF fun _ _ => .str _)⟩
  · obtain ⟨x, rfl, hx⟩ := ra.one
    obtain ⟨a, xs, rfl, ea, z, rr⟩ := rt_list hx
    obtain ⟨bs, e1, rfl⟩ := Option.map_eq_some_iff.mp e
    cases rr.of_bools e1
    exact cr_all hcalm pins s σ H _ us Q I r ⟨a, bs, rfl, SqL.of ea, q _ _ _ (ResOk.atom hF fun _ _ => .bl _)⟩
  · obtain ⟨x, rfl, hx⟩ := ra.one
    obtain ⟨a, xs, rfl, ea, z, rr⟩ := rt_list hx
    obtain ⟨bs, e1, rfl⟩ := Option.map_eq_some_iff.mp e
    cases rr.of_bools e1
    exact cr_any hcalm pins s σ H _ us Q I r ⟨a, bs, rfl, SqL.of ea, q _ _ _ (ResOk.atom hF fun _ _ => .bl _)⟩
  · obtain ⟨x, rfl, hx⟩ := ra.one
    obtain ⟨a, xs, rfl, ea, z, rr⟩ := rt_list hx
    obtain ⟨ss, e1, e⟩ := Option.bind_eq_some_iff.mp e
    split at e <;> cases e
    rename_i h64
    obtain ⟨rfl, _⟩ := RfA.of_strs e1 rr
    refine cr_sortedS pins s σ H _ us Q I r ⟨a, ss, rfl, SqL.of ea, h64, fun ys p hp hs hn => ?_⟩
    cases strs_sorted hp hs
    exact q _ _ _ (ResOk.lst hF hn (by rw [List.length_map, hp.length_eq]; exact small64 h64) (RfA.strs _))
  · cases e
end
end Ded
end

section
set_option Elab.async false
set_option linter.all false
set_option maxRecDepth 100000
/-! The rules: an expression's reading from its parts' readings. -/
namespace Ded
open PySem L2
theorem PE.imp {X : Cx} {e : Expr} {t t' : TE} (h : PE X e t) (q : ∀ σ H Q, t' σ H Q → t σ H Q) : PE X e t' := ⟨fun pins s σ H Q I z => h.run pins s σ H Q I (q σ H Q z)⟩
theorem PT.imp {X : Cx} {e : Expr} {t t' : TT} (h : PT X e t) (q : ∀ σ H Q, t' σ H Q → t σ H Q) : PT X e t' := ⟨fun pins s σ H Q I z => h.run pins s σ H Q I (q σ H Q z)⟩
theorem PW.imp {X : Cx} {e : Expr} {t t' : TT} (h : PW X e t) (q : ∀ σ H Q, t' σ H Q → t σ H Q) : PW X e t' := ⟨fun w pins s σ H Q I z => h.run w pins s σ H Q I (q σ H Q z)⟩
theorem PA.imp {X : Cx} {e : List Expr} {t t' : TA} (h : PA X e t) (q : ∀ σ H Q, t' σ H Q → t σ H Q) : PA X e t' := ⟨fun p pins s σ H Q I z => h.run p pins s σ H Q I (q σ H Q z)⟩
section
variable {K : PySem.W.Frag} {en : Entry} {xc : Xc} {Wi : XK} {F F1 : Fz} {ex ex1 : List Addr} {s s1 : S} {σ : L2.St} {H H1 H' : Hp}
theorem RV.weak {x : V} {v : Val} (h : RV K F ex s σ H1 H' x v) (q : ∀ a, H1 a = none → H a = none) : RV K F ex s σ H H' x v := by
  cases v with
  | own d => obtain ⟨p, e, c, a, b, c', z⟩ := h; exact ⟨p, e, c, a, b, c', q p z⟩
  | _ => exact h
/-- what follows, seen from where it begins -/
theorem TE'.tail {m : M Val} {Q : VK} (q : Ends_ K en xc Wi (m s1) F ex s σ H fun F' ex' H' s' v => ∀ x, RV K F' ex' s' σ H H' x v → Q x H') (st : Step F ex s σ H F1 ex1 s1 H1) (r1 : Rel K F1 ex1 s1 σ H1) (fr : From en F1 ex1 s1 σ H1) : TE' K en xc Wi m σ H1 Q :=
  ⟨F1, ex1, s1, r1, fr, (q.later st).imp fun F' ex' H' s' v _ _ _ z x rv => z x (rv.weak fun a e => st.grow.none e)⟩
theorem TT'.tail {m : M Bool} {Q : Bool → Hp → Prop} (q : Ends_ K en xc Wi (m s1) F ex s σ H fun F' ex' H' s' b => Q b H') (st : Step F ex s σ H F1 ex1 s1 H1) (r1 : Rel K F1 ex1 s1 σ H1) (fr : From en F1 ex1 s1 σ H1) : TT' K en xc Wi m σ H1 Q :=
  ⟨F1, ex1, s1, r1, fr, q.later st⟩
end
section
variable {X : Cx} {en : Entry} {xc : Xc} {Wi : XK} {pos : Pos} {a b c : Expr} {m n l : M Val}
abbrev PEd (X : Cx) (en : Entry) (xc : Xc) (Wi : XK) (e : Expr) (m : M Val) : Prop := PE X e (TE' X.K en xc Wi m)
abbrev PTd (X : Cx) (en : Entry) (xc : Xc) (Wi : XK) (e : Expr) (m : M Bool) : Prop := PT X e (TT' X.K en xc Wi m)
theorem d_var {i : Nat} {x : Str} (hN : X.N[i]? = some x) (hv : Vis X.env.scope x) (hd : (x == ("__debug__" : Str)) = false) (hcd : (x == ("__classdict__" : Str)) = false) : PEd X en xc Wi (.Name x pos) (mVar i) := by
  refine PE.imp (pe_var hN hv hd hcd) fun σ H Q h => ?_
  obtain ⟨F, ex, s, r, f, h⟩ := h
  unfold mVar at h
  cases e : slot s i with
  | none => rw [e] at h; exact h.elim
  | some v =>
    rw [e] at h
    obtain ⟨x, ex1, so⟩ := r.slot i v (slot_eq.mp e)
    refine ⟨x, ex1, ?_⟩
    cases v with
    | dat d => exact h F ex H r Step.refl x so
    | own d => exact h F ex H r Step.refl x ex1
    | ext k => exact h F ex H r Step.refl x so
    | bor d => exact h F ex H r Step.refl x ex1
    | loc _ => exact h.elim
    | scr _ => exact h.elim
/-- a value that is no object -/
theorem d_atom {e : Expr} {v : V} {d : D} (h : PE X e (tC v)) (hv : ∀ F H, Rf X.K F H v d) : PEd X en xc Wi e (M.ret (.dat d)) := by
  refine PE.imp h fun σ H Q h => ?_
  obtain ⟨F, ex, s, r, f, h⟩ := h
  exact h F ex H r Step.refl v (hv F H)
theorem d_bin {o : Bop} (ha : PEd X en xc Wi a m) (hb : PEd X en xc Wi b n) : PEd X en xc Wi (.BinOp a o.op b pos) (mBin o m n) := PE.imp (pe_op (op_bin o) ha hb) fun _ _ _ h => TE'.two h
theorem d_neg (ha : PEd X en xc Wi a m) : PEd X en xc Wi (.UnaryOp .USub a pos) (mNeg m) := PE.imp (pe_un un_den ha) fun _ _ _ h => TE'.one h
theorem d_cmp {o : Cop} (hu : X.A.units + 65 < cLine) (ha : PEd X en xc Wi a m) (hb : PEd X en xc Wi b n) (hm : behindInMarks o.op b = false) : PEd X en xc Wi (.Compare a [o.op] [b] pos) (mCmp o m n) :=
  PE.imp (pe_cmpR (op_cmpG o hu) ha hb hm) fun _ _ _ h => TE'.two h
theorem d_idx (hu : X.A.units + 1 < cLine) (ha : PEd X en xc Wi a m) (hb : PEd X en xc Wi b n) (hs : PlainIx b) : PEd X en xc Wi (.Subscript a b pos) (mIdx m n) := PE.imp (pe_ix (ix_den hu) ha hb hs) fun _ _ _ h => TE'.two h
theorem d_not (ha : PEd X en xc Wi a m) : PEd X en xc Wi (.UnaryOp .Not a pos) (mNot m) := by
  refine PE.imp (pe_notT ha) fun σ H Q h => ?_
  have h := TE'.one h
  refine (?_ : TE' X.K en xc Wi m σ H fun x H1 => ∃ k, TruV X.K x H1 k ∧ Q (.bl (!k)) H1)
  obtain ⟨F, ex, s, r, f, h⟩ := h
  refine ⟨F, ex, s, r, f, h.imp fun F1 ex1 H1 s1 v _ _ _ q x rv => ?_⟩
  obtain ⟨F2, dx, res, hF, hx, e, q⟩ := q x rv
  obtain ⟨k, e1, rfl⟩ := Option.map_eq_some_iff.mp e
  exact ⟨k, tru_of hx e1, q _ _ _ (ResOk.atom hF fun _ _ => .bl _)⟩
/-- as a test, by its value -/
theorem d_tru (ha : PEd X en xc Wi a m) (he : ∀ whole, isTrue a X.env whole = (do let v ← whole; standAt a.pos; holding [v] (truthy v))) : PTd X en xc Wi a (tTru m) := by
  refine PT.imp (pt_truth ha he) fun σ H Q h => ?_
  obtain ⟨F, ex, s, r, fr, h⟩ := h
  refine TE'.opd ⟨F, ex, s, r, fr, ?_⟩
  refine (Ends_.bind (m := mOpd m) h).imp fun F1 ex1 H1 s1 u e1 r1 st1 q x rv => ?_
  have ov : OV X.K F1 ex1 σ H1 x u := RV.ov e1 rv
  obtain ⟨dx, p1, q2⟩ := q.peek'
  obtain ⟨b, p2, q2⟩ := q2.opt
  exact ⟨b, tru_of (ov.peek r1 p1) p2, q2 F1 ex1 H1 r1 st1⟩
theorem cmp_bool {o : Cop} {s s' : S} {v : Val} (e : mCmp o m n s = .ok v s') : ∃ b, v = .dat (.bool b) := by
  obtain ⟨u, s1, _, e⟩ := bind_ok e
  obtain ⟨w, s2, _, e⟩ := bind_ok e
  obtain ⟨x, s3, _, e⟩ := bind_ok e
  obtain ⟨y, s4, _, e⟩ := bind_ok e
  cases h : gCmp o x y with
  | none => rw [h] at e; cases e
  | some r =>
    rw [h] at e
    obtain ⟨b, _, rfl⟩ := Option.map_eq_some_iff.mp h
    cases e
    exact ⟨b, rfl⟩
/-- a comparison as a test -/
theorem d_tcmp {o : Cop} (hu : X.A.units + 65 < cLine) (ha : PEd X en xc Wi a m) (hb : PEd X en xc Wi b n) (hm : behindInMarks o.op b = false) : PTd X en xc Wi (.Compare a [o.op] [b] pos) (tTru (mCmp o m n)) := by
  refine PT.imp (pt_cmpR (op_cmpG o hu) ha hb hm) fun σ H Q h => ?_
  obtain ⟨F, ex, s, r, fr, h⟩ := h
  have h := Ends_.bind (m := mOpd (mCmp o m n)) h
  refine TE'.two (Q := fun x H' => ∃ k, x = .bl k ∧ Q k H') ⟨F, ex, s, r, fr, ?_⟩
  refine (Ends_.bind (m := mCmp o m n) (f := opd) h).imp fun F1 ex1 H1 s1 v e r1 st q x rv => ?_
  obtain ⟨b, rfl⟩ := cmp_bool e
  cases rv
  exact ⟨b, rfl, q F1 ex1 H1 r1 st F1 ex1 H1 r1 st⟩
theorem d_tand {p : Pos} {rest : List Expr} {s t : M Bool} (ha : PTd X en xc Wi a s) (hb : PW X (.BoolOp .And (b :: rest) p) (TT' X.K en xc Wi t)) : PW X (.BoolOp .And (a :: b :: rest) p) (TT' X.K en xc Wi (tAnd' s t)) := by
  refine PW.imp (pw_and ha hb) fun σ H Q h => ?_
  obtain ⟨F, ex, st, r, fr, h⟩ := h
  refine ⟨F, ex, st, r, fr, (Ends_.bind (m := s) h).imp fun F1 ex1 H1 s1 c e1 r1 st1 q => ?_⟩
  cases c with
  | true => exact ⟨F1, ex1, s1, r1, fr.step st1, q.later st1⟩
  | false => exact q F1 ex1 H1 r1 st1
theorem d_tor {p : Pos} {rest : List Expr} {s t : M Bool} (ha : PTd X en xc Wi a s) (hb : PW X (.BoolOp .Or (b :: rest) p) (TT' X.K en xc Wi t)) : PW X (.BoolOp .Or (a :: b :: rest) p) (TT' X.K en xc Wi (tOr' s t)) := by
  refine PW.imp (pw_or ha hb) fun σ H Q h => ?_
  obtain ⟨F, ex, st, r, fr, h⟩ := h
  refine ⟨F, ex, st, r, fr, (Ends_.bind (m := s) h).imp fun F1 ex1 H1 s1 c e1 r1 st1 q => ?_⟩
  cases c with
  | false => exact ⟨F1, ex1, s1, r1, fr.step st1, q.later st1⟩
  | true => exact q F1 ex1 H1 r1 st1
theorem d_tnot {t : M Bool} (ha : PTd X en xc Wi a t) : PTd X en xc Wi (.UnaryOp .Not a pos) (tNot' t) := by
  refine PT.imp (pt_not ha) fun σ H Q h => ?_
  obtain ⟨F, ex, st, r, fr, h⟩ := h
  exact ⟨F, ex, st, r, fr, (Ends_.bind (m := t) h).imp fun F1 ex1 H1 s1 c e1 r1 st1 q => q F1 ex1 H1 r1 st1⟩
theorem d_ite {t : M Bool} (hc : PTd X en xc Wi c t) (ha : PEd X en xc Wi a m) (hb : PEd X en xc Wi b n) : PEd X en xc Wi (.IfExp c a b pos) (mIte t m n) := by
  refine PE.imp (pe_ifExp hc ha hb) fun σ H Q h => ?_
  obtain ⟨F, ex, st, r, fr, h⟩ := h
  refine ⟨F, ex, st, r, fr, (Ends_.bind (m := t) h).imp fun F1 ex1 H1 s1 c e1 r1 st1 q => ?_⟩
  cases c with
  | true => exact TE'.tail q st1 r1 (fr.step st1)
  | false => exact TE'.tail q st1 r1 (fr.step st1)
theorem d_and {p : Pos} {rest : List Expr} (ha : PEd X en xc Wi a m) (hb : PEd X en xc Wi (.BoolOp .And (b :: rest) p) n) : PEd X en xc Wi (.BoolOp .And (a :: b :: rest) p) (mAnd m n) := by
  refine PE.imp (pe_andT ha hb) fun σ H Q h => ?_
  refine TE'.opd ?_
  obtain ⟨F, ex, s, r, fr, h⟩ := h
  refine ⟨F, ex, s, r, fr, (Ends_.bind (m := mOpd m) h).imp fun F1 ex1 H1 s1 u e1 r1 st1 q x rv => ?_⟩
  have ov : OV X.K F1 ex1 σ H1 x u := RV.ov e1 rv
  obtain ⟨dx, p1, q⟩ := q.peek'
  obtain ⟨k, p2, q⟩ := q.optb
  refine ⟨k, tru_of (ov.peek r1 p1) p2, ?_⟩
  cases k with
  | true => exact TE'.tail q st1 r1 (fr.step st1)
  | false => exact q F1 ex1 H1 r1 st1 x rv
theorem d_or {p : Pos} {rest : List Expr} (ha : PEd X en xc Wi a m) (hb : PEd X en xc Wi (.BoolOp .Or (b :: rest) p) n) : PEd X en xc Wi (.BoolOp .Or (a :: b :: rest) p) (mOr m n) := by
  refine PE.imp (pe_orT ha hb) fun σ H Q h => ?_
  refine TE'.opd ?_
  obtain ⟨F, ex, s, r, fr, h⟩ := h
  refine ⟨F, ex, s, r, fr, (Ends_.bind (m := mOpd m) h).imp fun F1 ex1 H1 s1 u e1 r1 st1 q x rv => ?_⟩
  have ov : OV X.K F1 ex1 σ H1 x u := RV.ov e1 rv
  obtain ⟨dx, p1, q⟩ := q.peek'
  obtain ⟨k, p2, q⟩ := q.optb
  refine ⟨k, tru_of (ov.peek r1 p1) p2, ?_⟩
  cases k with
  | true => exact q F1 ex1 H1 r1 st1 x rv
  | false => exact TE'.tail q st1 r1 (fr.step st1)
/-- a < b <= c -/
theorem chn_core {K : PySem.W.Frag} {o o' : Cop} {σ : L2.St} {H : Hp} {Q : VK} (h : TE' K en xc Wi (mChn o o' m n l) σ H Q) :
    tChain (rOp2 K (gCmp o)) (rOp2 K (gCmp o')) (TE' K en xc Wi m) (TE' K en xc Wi n) (TE' K en xc Wi l) σ H Q := by
  refine TE'.opd ?_
  obtain ⟨F, ex, s, r, fr, h⟩ := h
  refine ⟨F, ex, s, r, fr, (Ends_.bind (m := mOpd m) h).imp fun F1 ex1 H1 s1 u e1 r1 st1 q x rv => ?_⟩
  have ov : OV K F1 ex1 σ H1 x u := RV.ov e1 rv
  refine TE'.opd ⟨F1, ex1, s1, r1, fr.step st1, ?_⟩
  refine ((Ends_.bind (m := mOpd n) q).later st1).imp fun F2 ex2 H2 s2 v e2 r2 st2 q y rv2 => ?_
  have ov2 : OV K F2 ex2 σ H2 y v := RV.ov e2 rv2
  have ov1 := ov.step r1 st2
  obtain ⟨dx, p1, q⟩ := q.peek'
  obtain ⟨dy, p2, q⟩ := q.peek'
  obtain ⟨k, p3, q⟩ := q.optb
  refine ⟨F2, dx, dy, .dat (.bool k), r2.fdom, ov1.peek r2 p1, ov2.peek r2 p2, by unfold gCmp; rw [p3]; rfl, fun x' F' H' ⟨n, rk⟩ => ?_⟩
  cases rk
  refine ⟨k, rfl, ?_⟩
  have r3 := r2.new n
  have st3 : Step F2 ex2 s2 σ H2 F' ex2 s2 H' := ⟨n.grow _, List.prefix_refl _, .refl⟩
  have st := st1.trans (st2.trans st3)
  cases k with
  | false => exact q F' ex2 H' r3 st (.bl false) (.bl false)
  | true =>
    refine TE'.opd ⟨F', ex2, s2, r3, fr.step st, ?_⟩
    refine ((Ends_.bind (m := mOpd l) q).later st).imp fun F4 ex4 H4 s4 w e4 r4 st4 q z rv4 => ?_
    have ov4 : OV K F4 ex4 σ H4 z w := RV.ov e4 rv4
    have ov3 := (ov2.step r2 st3).step r3 st4
    obtain ⟨dy', p4, q⟩ := q.peek'
    obtain ⟨dz, p5, q⟩ := q.peek'
    obtain ⟨k', p6, q⟩ := q.optb
    refine ⟨F4, dy', dz, .dat (.bool k'), r4.fdom, ov3.peek r4 p4, ov4.peek r4 p5, by unfold gCmp; rw [p6]; rfl, fun x5 F5 H5 ⟨n5, rk5⟩ => ?_⟩
    exact q F5 ex4 H5 (r4.new n5) ((st.trans st4).trans ⟨n5.grow _, List.prefix_refl _, .refl⟩) x5 rk5
theorem d_chn {o o' : Cop} (hu : X.A.units + 65 < cLine) (ha : PEd X en xc Wi a m) (hb : PEd X en xc Wi b n) (hc : PEd X en xc Wi c l) (hm : lastMarks [o.op, o'.op] [b, c] = false) :
    PEd X en xc Wi (.Compare a [o.op, o'.op] [b, c] pos) (mChn o o' m n l) := PE.imp (pe_chain (op_cmpG o hu) (op_cmpG o' hu) ha hb hc hm) fun σ H Q h => chn_core h
theorem chn_bool {o o' : Cop} {s s' : S} {v : Val} (e : mChn o o' m n l s = .ok v s') : ∃ b, v = .dat (.bool b) := by
  obtain ⟨u, s1, _, e⟩ := bind_ok e
  obtain ⟨w, s2, _, e⟩ := bind_ok e
  obtain ⟨x, s3, _, e⟩ := bind_ok e
  obtain ⟨y, s4, _, e⟩ := bind_ok e
  obtain ⟨k, s5, _, e⟩ := bind_ok e
  cases k with
  | false => cases e; exact ⟨_, rfl⟩
  | true =>
    obtain ⟨u, s1, _, e⟩ := bind_ok e
    obtain ⟨w, s2, _, e⟩ := bind_ok e
    obtain ⟨x, s3, _, e⟩ := bind_ok e
    obtain ⟨k, s5, _, e⟩ := bind_ok e
    cases e; exact ⟨_, rfl⟩
/-- .. as a test -/
theorem d_tchn {o o' : Cop} (hu : X.A.units + 65 < cLine) (ha : PEd X en xc Wi a m) (hb : PEd X en xc Wi b n) (hc : PEd X en xc Wi c l) (hm : lastMarks [o.op, o'.op] [b, c] = false) :
    PTd X en xc Wi (.Compare a [o.op, o'.op] [b, c] pos) (tTru (mChn o o' m n l)) := by
  refine PT.imp (pt_chain (op_cmpG o hu) (op_cmpG o' hu) ha hb hc hm) fun σ H Q h => ?_
  obtain ⟨F, ex, s, r, fr, h⟩ := h
  have h := Ends_.bind (m := mOpd (mChn o o' m n l)) h
  refine chn_core (Q := fun x H' => ∃ k, x = .bl k ∧ Q k H') ⟨F, ex, s, r, fr, ?_⟩
  refine (Ends_.bind (m := mChn o o' m n l) (f := opd) h).imp fun F1 ex1 H1 s1 v e r1 st q x rv => ?_
  obtain ⟨b, rfl⟩ := chn_bool e
  cases rv
  exact ⟨b, rfl, q F1 ex1 H1 r1 st F1 ex1 H1 r1 st⟩
theorem d_one {op : BoolOp} (h : PEd X en xc Wi a m) : PEd X en xc Wi (.BoolOp op [a] pos) m := pe_one h
theorem d_and1 {t : M Bool} (h : PTd X en xc Wi a t) : PW X (.BoolOp .And [a] pos) (TT' X.K en xc Wi t) := pw_and1 h
theorem d_or1 {t : M Bool} (h : PTd X en xc Wi a t) : PW X (.BoolOp .Or [a] pos) (TT' X.K en xc Wi t) := pw_or1 h
end
end Ded
end

section
set_option Elab.async false
set_option linter.all false
set_option maxRecDepth 100000
/-! Lists of expressions, displays, calls of built-in things. -/
namespace Ded
open PySem L2
abbrev RVx (α : Type) := Fz → List Addr → S → L2.St → Hp → V → α → Prop
inductive All2 {α : Type} (R : V → α → Prop) : List V → List α → Prop
  | nil : All2 R [] []
  | cons {x : V} {a : α} {xs : List V} {as : List α} : R x a → All2 R xs as → All2 R (x :: xs) (a :: as)
theorem All2.imp {α : Type} {R R' : V → α → Prop} (h : ∀ x a, R x a → R' x a) : ∀ {xs : List V} {as : List α}, All2 R xs as → All2 R' xs as
  | _, _, .nil => .nil
  | _, _, .cons a r => .cons (h _ _ a) (All2.imp h r)
section
variable (K : PySem.W.Frag) (en : Entry) (xc : Xc) (Wi : XK) {α : Type} (R : RVx α)
def T1 (m : M α) : TE := fun σ H Q => ∃ F ex s, Rel K F ex s σ H ∧ From en F ex s σ H ∧ Ends_ K en xc Wi (m s) F ex s σ H fun F' ex' H' s' a => ∀ x, R F' ex' s' σ H' x a → Q x H'
def TL (m : M (List α)) : TA := fun σ H Q => ∃ F ex s, Rel K F ex s σ H ∧ From en F ex s σ H ∧ Ends_ K en xc Wi (m s) F ex s σ H fun F' ex' H' s' as => ∀ xs, All2 (R F' ex' s' σ H') xs as → Q xs H'
def Stable : Prop := ∀ {F ex s H F' ex' s' H' σ x a}, Rel K F ex s σ H → Step F ex s σ H F' ex' s' H' → R F ex s σ H x a → R F' ex' s' σ H' x a
end
section
variable {X : Cx} {en : Entry} {xc : Xc} {Wi : XK} {α : Type} {R : RVx α} {e : Expr} {es : List Expr}
theorem l_nil : PA X [] (TL X.K en xc Wi R lNil) := PA.imp pa_nil fun σ H Q ⟨F, ex, s, r, fr, h⟩ => h F ex H r Step.refl [] .nil
theorem l_cons {m : M α} {l : M (List α)} (hR : Stable X.K R) (ha : PE X e (T1 X.K en xc Wi R m)) (hl : PA X es (TL X.K en xc Wi R l)) (hs : starEach (e :: es) X.env = (false, eval e X.env) :: starEach es X.env) : PA X (e :: es) (TL X.K en xc Wi R (lCons m l)) := by
  refine PA.imp (pa_cons ha hl hs) fun σ H Q ⟨F, ex, s, r, fr, h⟩ => ?_
  refine ⟨F, ex, s, r, fr, (Ends_.bind (m := m) h).imp fun F1 ex1 H1 s1 a e1 r1 st1 q x rx => ?_⟩
  refine ⟨F1, ex1, s1, r1, fr.step st1, ((Ends_.bind (m := l) q).later st1).imp fun F2 ex2 H2 s2 as e2 r2 st2 q xs rs => ?_⟩
  exact q F2 ex2 H2 r2 (st1.trans st2) (x :: xs) (.cons (hR r1 st2 rx) rs)
end
/-- operands -/
abbrev ROp (K : PySem.W.Frag) : RVx Val := fun F ex s σ H x v => OV K F ex σ H x v
/-- frozen things -/
abbrev RFz (K : PySem.W.Frag) : RVx D := fun F ex s σ H x d => Rf K F H x d
/-- what a def is given -/
abbrev RAr (K : PySem.W.Frag) : RVx Val := fun F ex s σ H x v => match v with
  | .dat d => Rf K F H x d
  | .ext k => ∃ a, ex[k]? = some a ∧ x = .ref a
  | .loc i => σ[i]? = some (some x)
  | .scr ns => ∃ a, x = .ref a ∧ Scr K H a ns
  | _ => False
section
variable {K : PySem.W.Frag} {en : Entry} {xc : Xc} {Wi : XK} {m : M Val} {σ : L2.St} {H : Hp} {Q : VK}
theorem st_op : Stable K (ROp K) := fun r st h => OV.step r st h
theorem st_fz : Stable K (RFz K) := fun r st h => Rf.mono st.grow.fmono (st.grow.kp r.dj) _ h
theorem st_ar : Stable K (RAr K) := fun {F ex s H F' ex' s' H' σ x a} r st h => by
  cases a with
  | dat d => exact Rf.mono st.grow.fmono (st.grow.kp r.dj) _ h
  | ext k => obtain ⟨a, e, rfl⟩ := h; exact ⟨a, pre_get st.pre e, rfl⟩
  | loc i => exact h
  | scr ns =>
    obtain ⟨a, rfl, c⟩ := h
    refine ⟨a, rfl, ?_⟩
    rcases c with ⟨o, e⟩ | c
    · exact .inl ⟨o, st.grow.keep a _ e fun m => r.nfz a _ _ m e⟩
    · exact .inr c
  | own _ => exact h.elim
  | bor _ => exact h.elim
theorem T1.op (h : T1 K en xc Wi (ROp K) (mOpd m) σ H Q) : TE' K en xc Wi m σ H Q := by
  obtain ⟨F, ex, s, r, f, h⟩ := h
  refine ⟨F, ex, s, r, f, (Ends_.bind (m := m) (f := opd) h).imp fun F1 ex1 H1 s1 v _ r1 st q x rv => ?_⟩
  cases v with
  | dat d => exact q F1 ex1 H1 r1 st x rv
  | own d =>
    obtain ⟨F2, r2, rf, st2, _⟩ := RV.freezes r1 rv st
    exact q F2 ex1 H1 r2 st2 x rf
  | ext k => exact q F1 ex1 H1 r1 st x rv
  | bor d => exact q.elim
  | loc i => exact q F1 ex1 H1 r1 st x rv
  | scr ns => exact q.elim
theorem T1.fz (h : T1 K en xc Wi (RFz K) (mFrz m) σ H Q) : TE' K en xc Wi m σ H Q := by
  obtain ⟨F, ex, s, r, f, h⟩ := h
  refine ⟨F, ex, s, r, f, (Ends_.bind (m := m) (f := freeze) h).imp fun F1 ex1 H1 s1 v _ r1 st q x rv => ?_⟩
  cases v with
  | dat d => exact q F1 ex1 H1 r1 st x rv
  | own d =>
    obtain ⟨F2, r2, rf, st2, _⟩ := RV.freezes r1 rv st
    exact q F2 ex1 H1 r2 st2 x rf
  | ext k => exact q.elim
  | bor d => exact q.elim
  | loc i =>
    have q : Ends_ K en xc Wi (match Ded.slot s1 i with | some (.own d) => R.ok d (setSlot s1 i (.dat d)) | _ => .bad) F ex s σ H _ := q
    cases e : Ded.slot s1 i with
    | none => rw [e] at q; exact q.elim
    | some w =>
      rw [e] at q
      cases w <;> first | exact q.elim | skip
      rename_i d
      obtain ⟨F2, r2, rf, st2⟩ := frz_slot r1 e rv
      exact q F2 ex1 H1 r2 (st.trans st2) x rf
  | scr ns => exact q.elim
theorem T1.ar (h : T1 K en xc Wi (RAr K) (M.bind m argV) σ H Q) : TE' K en xc Wi m σ H Q := by
  obtain ⟨F, ex, s, r, f, h⟩ := h
  refine ⟨F, ex, s, r, f, (Ends_.bind (m := m) (f := argV) h).imp fun F1 ex1 H1 s1 v _ r1 st q x rv => ?_⟩
  cases v with
  | dat d => exact q F1 ex1 H1 r1 st x rv
  | own d =>
    obtain ⟨F2, r2, rf, st2, _⟩ := RV.freezes r1 rv st
    exact q F2 ex1 H1 r2 st2 x rf
  | ext k => exact q F1 ex1 H1 r1 st x rv
  | bor d => exact q.elim
  | loc i =>
    have q : Ends_ K en xc Wi (match Ded.slot s1 i with | some (.own d) => R.ok (Val.dat d) (setSlot s1 i (Val.dat d)) | _ => .bad) F ex s σ H _ := q
    cases e : Ded.slot s1 i with
    | none => rw [e] at q; exact q.elim
    | some w =>
      rw [e] at q
      cases w <;> first | exact q.elim | skip
      rename_i d
      obtain ⟨F2, r2, rf, st2⟩ := frz_slot r1 e rv
      exact q F2 ex1 H1 r2 (st.trans st2) x rf
  | scr ns => exact q F1 ex1 H1 r1 st x rv
end
section
variable {X : Cx} {en : Entry} {xc : Xc} {Wi : XK} {e : Expr} {es : List Expr} {pos : Pos} {m : M Val}
theorem d_opd (h : PEd X en xc Wi e m) : PE X e (T1 X.K en xc Wi (ROp X.K) (mOpd m)) := PE.imp h fun _ _ _ h => T1.op h
theorem d_frz (h : PEd X en xc Wi e m) : PE X e (T1 X.K en xc Wi (RFz X.K) (mFrz m)) := PE.imp h fun _ _ _ h => T1.fz h
theorem d_arg (h : PEd X en xc Wi e m) : PE X e (T1 X.K en xc Wi (RAr X.K) (M.bind m argV)) := PE.imp h fun _ _ _ h => T1.ar h
theorem rfa_of {K : PySem.W.Frag} {F : Fz} {H : Hp} : ∀ {xs : List V} {ds : List D}, All2 (fun x d => Rf K F H x d) xs ds → RfA K F H xs ds
  | _, _, .nil => .nil
  | _, _, .cons a r => .cons a (rfa_of r)
theorem d_tup {l : M (List D)} {k : Nat} (h : PA X es (TL X.K en xc Wi (RFz X.K) l)) : PEd X en xc Wi (.Tuple es k pos) (mTup l) := by
  refine PE.imp (pe_tup h) fun σ H Q ⟨F, ex, s, r, fr, h⟩ => ?_
  refine ⟨F, ex, s, r, fr, (Ends_.bind (m := l) h).imp fun F1 ex1 H1 s1 ds e1 r1 st1 q xs rs => ?_⟩
  have rf := rfa_of rs
  split at q
  · rename_i hz
    have hz' : xs.length ≤ sizeLine := by rw [rf.length]; exact hz
    exact ⟨hz', fun p hp => Ends_.res q r1 st1 (fun a z => z) _ _ _ (ResOk.tup r1.fdom hp hz' rf)⟩
  · exact q.elim
theorem d_lst {l : M (List D)} (h : PA X es (TL X.K en xc Wi (RFz X.K) l)) : PEd X en xc Wi (.List es pos) (mLst l) := by
  refine PE.imp (pe_lst h) fun σ H Q ⟨F, ex, s, r, fr, h⟩ => ?_
  refine ⟨F, ex, s, r, fr, (Ends_.bind (m := l) h).imp fun F1 ex1 H1 s1 ds e1 r1 st1 q xs rs => ?_⟩
  have rf := rfa_of rs
  split at q
  · rename_i hz
    have hz' : xs.length ≤ sizeLine := by rw [rf.length]; exact hz
    exact ⟨hz', fun p hp => Ends_.res q r1 st1 (fun a z => z) _ _ _ (ResOk.lst r1.fdom hp hz' rf)⟩
  · exact q.elim
end
end Ded
end

section
set_option Elab.async false
set_option linter.all false
set_option maxRecDepth 100000
/-! Calls of built-in things; methods; slices. -/
namespace Ded
open PySem L2
def Blt.name : Blt → Str
  | .len => "len" | .int => "int" | .list => "list" | .tuple => "tuple" | .repr => "repr" | .all => "all" | .any => "any" | .sorted => "sorted"
  | .sum => "sum" | .min => "min" | .max => "max" | .dict => "dict" | .str => "str" | .set => "set"
theorem blt_boot (f : Blt) : bootBuiltins f.name = some f.val := by cases f <;> decide +kernel
theorem blt_nn (f : Blt) : f.name ≠ "__name__" := by cases f <;> decide +kernel
theorem blt_nd (f : Blt) : (f.name == ("__debug__" : Str)) = false := by cases f <;> decide +kernel
def Ty.nm : Ty → Str
  | .int => "int" | .bool => "bool" | .str => "str" | .tuple => "tuple" | .list => "list" | .dict => "dict"
theorem ty_boot (t : Ty) : bootBuiltins t.nm = some (.type t.name) := by cases t <;> decide +kernel
theorem ty_nn (f : Ty) : f.nm ≠ "__name__" := by cases f <;> decide +kernel
theorem ty_nd (f : Ty) : (f.nm == ("__debug__" : Str)) = false := by cases f <;> decide +kernel
section
variable {K : PySem.W.Frag} {en : Entry} {xc : Xc} {Wi : XK} {m : M Val} {σ : L2.St} {F : Fz} {ex : List Addr} {s : S} {H : Hp} {Q : VK}
theorem bind_bind {α β γ : Type} (m : M α) (f : α → M β) (g : β → M γ) : M.bind (M.bind m f) g = M.bind m fun x => M.bind (f x) g := by
  funext s
  unfold M.bind
  cases m s <;> rfl
theorem peeks_all {β : Type} {F0 : Fz} {ex0 : List Addr} {s0 : S} {H0 : Hp} {P : Fz → List Addr → Hp → S → β → Prop} (r : Rel K F ex s σ H) : ∀ {vs : List Val} {xs : List V} {f : List D → M β}, All2 (fun x v => OV K F ex σ H x v) xs vs →
    Ends_ K en xc Wi (M.bind (peeks vs) f s) F0 ex0 s0 σ H0 P → ∃ ds, RTA K F H xs ds ∧ Ends_ K en xc Wi (f ds s) F0 ex0 s0 σ H0 P
  | [], _, f, .nil, h => ⟨[], .nil, h⟩
  | v :: vs, _, f, .cons a as, h => by
    have h' : Ends_ K en xc Wi (M.bind (peekM v) (fun x => M.bind (peeks vs) fun xs => f (x :: xs)) s) F0 ex0 s0 σ H0 P := by
      have e : M.bind (peeks (v :: vs)) f = M.bind (peekM v) (fun x => M.bind (peeks vs) fun xs => f (x :: xs)) := by
        show M.bind (M.bind (peekM v) fun x => M.bind (peeks vs) fun xs => M.ret (x :: xs)) f = _
        rw [bind_bind]
        congr 1
        funext x
        rw [bind_bind]
        rfl
      rw [← e]; exact h
    obtain ⟨d, p, h'⟩ := h'.peek'
    obtain ⟨ds, ra, h'⟩ := peeks_all r as h'
    exact ⟨d :: ds, .cons (a.peek r p) ra, h'⟩
end
section
variable {X : Cx} {en : Entry} {xc : Xc} {Wi : XK} {e e2 e3 : Expr} {es : List Expr} {pos p apos : Pos} {m n : M Val}
theorem blt_core {f : Blt} {l : M (List Val)} {σ : L2.St} {H : Hp} {Q : VK} (h : TE' X.K en xc Wi (mBlt f l) σ H Q) : TL X.K en xc Wi (ROp X.K) l σ H fun xs H1 => rBlt X.K f xs H1 Q := by
  obtain ⟨F, ex, s, r, fr, h⟩ := h
  refine ⟨F, ex, s, r, fr, (Ends_.bind (m := l) h).imp fun F1 ex1 H1 s1 vs e1 r1 st1 q xs rs => ?_⟩
  obtain ⟨ds, ra, q⟩ := peeks_all r1 rs q
  obtain ⟨res, p, q⟩ := q.opt
  exact ⟨F1, ds, res, r1.fdom, ra, p, q.res r1 st1 fun a z => z⟩
theorem d_blt (f : Blt) {l : M (List Val)} (hcalm : X.calm = true) (hu : X.A.units + 65 < cLine) (hgd : X.A.guards = some []) (hg : Gl X f.name) (hm : X.mg f.name = none) (h : PA X (e :: es) (TL X.K en xc Wi (ROp X.K) l))
    (he : starEach (e :: es) X.env = (false, eval e X.env) :: starEach es X.env) (hpl : (backTo pos (starEach es X.env)).any (·.1) = false) : PEd X en xc Wi (.Call (.Name f.name p) (e :: es) [] pos) (mBlt f l) := by
  have bd := blt_den (X := X) f hcalm hu hgd
  have bb := blt_boot f
  have nn := blt_nn f
  have nd := blt_nd f
  generalize f.val = v at bd bb
  have hv : (∃ i, v = .builtin i) ∨ ∃ t, v = .type t := by
    have := blt_boot f
    rw [bb] at this
    have e : v = f.val := Option.some.inj this
    subst e
    cases f <;> first | exact .inl ⟨_, rfl⟩ | exact .inr ⟨_, rfl⟩
  rcases hv with ⟨i, rfl⟩ | ⟨t, rfl⟩
  · exact PE.imp (pe_callB bd hg hm bb h nn nd he hpl) fun _ _ _ h => blt_core h
  · exact PE.imp (pe_callTy bd hg hm bb h nn nd he hpl) fun _ _ _ h => blt_core h
theorem d_isi {t : Ty} (ha : PEd X en xc Wi e m) (hg : Gl X "isinstance") (hm : X.mg "isinstance" = none) (hgT : Gl X t.nm) (hmT : X.mg t.nm = none)
    (hs : starEach [e, .Name t.nm p] X.env = (false, eval e X.env) :: starEach [.Name t.nm p] X.env) {p2 : Pos} : PEd X en xc Wi (.Call (.Name "isinstance" p2) [e, .Name t.nm p] [] pos) (mIsi m [t]) := by
  have hT : PE X (.Name t.nm p) (tC (.ty t.name)) := pe_bltn hgT hmT (ty_boot t) rfl (ty_nn t) (ty_nd t)
  refine PE.imp (pe_callB call_isi hg hm (by decide +kernel) (pa_cons ha (pa_cons hT pa_nil rfl) hs) (by decide +kernel) (by decide +kernel) hs rfl) fun σ H Q h => ?_
  have h := TE'.one h
  obtain ⟨F, ex, s, r, f, h⟩ := h
  refine ⟨F, ex, s, r, f, h.imp fun F1 ex1 H1 s1 v _ _ _ q x rv => ?_⟩
  obtain ⟨F2, dx, res, hF, hx, e, q⟩ := q x rv
  cases e
  obtain ⟨ty, h1, h2⟩ := isi_ok t hx
  refine ⟨x, .ty t.name, _, _, _, rfl, .ty _, h1, h2, q _ _ _ (ResOk.atom hF fun _ _ => ?_)⟩
  have : ([t].any fun t => isTy t dx) = isTy t dx := by simp
  rw [this]
  exact .bl _
/-! ### slices -/
theorem d_onone {σ : L2.St} : PO X none fun σ H Q => ∃ F ex s, Rel X.K F ex s σ H ∧ From en F ex s σ H ∧ Ends_ X.K en xc Wi ((M.ret none : M (Option Int)) s) F ex s σ H fun F' ex' H' s' o => Q o H' := by
  refine ⟨fun pins s σ H Q I h => ?_⟩
  obtain ⟨F, ex, st, r, fr, h⟩ := h
  exact po_none.run pins s σ H Q I (h F ex H r Step.refl)
abbrev TO' (X : Cx) (en : Entry) (xc : Xc) (Wi : XK) (o : M (Option Int)) : TO := fun σ H Q => ∃ F ex s, Rel X.K F ex s σ H ∧ From en F ex s σ H ∧ Ends_ X.K en xc Wi (o s) F ex s σ H fun F' ex' H' s' o => Q o H'
theorem d_oint (ha : PEd X en xc Wi e m) : PO X (some e) (TO' X en xc Wi (mOInt m)) := by
  refine ⟨fun pins s σ H Q I h => ?_⟩
  refine (po_some ha).run pins s σ H Q I ?_
  obtain ⟨F, ex, st, r, fr, h⟩ := h
  refine TE'.opd ⟨F, ex, st, r, fr, (Ends_.bind (m := mOpd m) h).imp fun F1 ex1 H1 s1 u e1 r1 st1 q x rv => ?_⟩
  have ov : OV X.K F1 ex1 σ H1 x u := RV.ov e1 rv
  obtain ⟨dx, p1, q⟩ := q.peek'
  split at q
  · have e := rt_int (ov.peek r1 p1)
    exact ⟨_, e, q F1 ex1 H1 r1 st1⟩
  · exact q.elim
theorem d_sli {lo hi : Option Expr} {ml mh : M (Option Int)} {p2 : Pos} (ha : PEd X en xc Wi e m) (hl : PO X lo (TO' X en xc Wi ml)) (hh : PO X hi (TO' X en xc Wi mh)) : PEd X en xc Wi (.Subscript e (.Slice lo hi none p2) pos) (mSli m ml mh) := by
  refine PE.imp (pe_slice sl_den ha hl hh) fun σ H Q h => ?_
  refine TE'.opd ?_
  obtain ⟨F, ex, s, r, fr, h⟩ := h
  refine ⟨F, ex, s, r, fr, (Ends_.bind (m := mOpd m) h).imp fun F1 ex1 H1 s1 u e1 r1 st1 q x rv => ?_⟩
  have ov : OV X.K F1 ex1 σ H1 x u := RV.ov e1 rv
  refine ⟨F1, ex1, s1, r1, fr.step st1, ((Ends_.bind (m := ml) q).later st1).imp fun F2 ex2 H2 s2 i e2 r2 st2 q => ?_⟩
  refine ⟨F2, ex2, s2, r2, (fr.step st1).step st2, ((Ends_.bind (m := mh) q).later (st1.trans st2)).imp fun F3 ex3 H3 s3 j e3 r3 st3 q => ?_⟩
  have ov3 := (ov.step r1 st2).step r2 st3
  obtain ⟨dx, p1, q⟩ := q.peek'
  obtain ⟨res, p2, q⟩ := q.opt
  exact ⟨F3, dx, res, r3.fdom, ov3.peek r3 p1, p2, q.res r3 ((st1.trans st2).trans st3) fun a z => z⟩
end
end Ded
end

section
set_option Elab.async false
set_option linter.all false
set_option maxRecDepth 100000
/-! What is seen of the text alone. -/
namespace Ded
open PySem L2
def isStar : Expr → Bool
  | .Starred .. => true
  | _ => false
def isSet : Expr → Bool
  | .Set .. => true
  | _ => false
def isSlice : Expr → Bool
  | .Slice .. => true
  | _ => false
/-- not a call of a name without arguments -/
def isBare : Expr → Bool
  | .Call (.Name ..) [] [] _ => true
  | _ => false
theorem star_cons {e : Expr} {es : List Expr} {env : Env} (h : isStar e = false) : starEach (e :: es) env = (false, eval e env) :: starEach es env := by
  cases e <;> first | rfl | cases h
theorem star_any {pos : Pos} {env : Env} : ∀ {es : List Expr}, es.all (fun e => !isStar e) = true → (backTo pos (starEach es env)).any (·.1) = false
  | [], _ => rfl
  | e :: es, h => by
    simp only [List.all_cons, Bool.and_eq_true, Bool.not_eq_true'] at h
    rw [star_cons h.1]
    exact star_any (es := es) h.2
theorem marks_not {o : Cop} {e : Expr} (h : isSet e = false) : behindInMarks o.op e = false := by
  cases e <;> first | rfl | cases h
theorem last_not {o o' : Cop} {b e : Expr} (h : isSet e = false) : lastMarks [o.op, o'.op] [b, e] = false := by
  show behindInMarks o'.op e = false
  exact marks_not h
theorem plain_ix {b : Expr} (h : isSlice b = false) : PlainIx b := by
  intro o i
  cases b <;> first | rfl | cases h
theorem attr_base {o : Expr} {m : Str} {env : Env} (h : isBare o = false) : attributeBase o m env (eval o env) = eval o env := by
  cases o with
  | Call f as ks pos =>
    cases f with
    | Name id p =>
      cases as with
      | nil =>
        cases ks with
        | nil => cases h
        | cons _ _ => rfl
      | cons _ _ => rfl
    | _ => rfl
  | _ => rfl
theorem few_one {cpos : Pos} {e : Expr} {env : Env} (h : isStar e = false) : ((backTo cpos (starEach (e :: []) env)).all (fun x => !x.1) && (backToKw cpos (keywordEach [] env)).all (fun x => x.1.isSome)
      && decide ((e :: []).length + ([] : List Keyword).length + (if ([] : List Keyword).isEmpty then 0 else 1) < 30)) = true := by
  rw [star_cons h]
  rfl
theorem m1_of {X : Cx} {o : Expr} {m : Str} {apos cpos : Pos} {e : Expr} (hb : isBare o = false) (he : isStar e = false) (hl : (apos.endLine == cpos.line) = true) : M1 X o m apos e cpos := by
  refine ⟨attr_base hb, few_one he, hl, ?_⟩
  rw [star_cons he]
  rfl
theorem m2_of {X : Cx} {o : Expr} {m : Str} {apos cpos : Pos} {e f : Expr} (hb : isBare o = false) (he : isStar e = false) (hf : isStar f = false) (hl : (apos.endLine == cpos.line) = true) : M2 X o m apos e f cpos := by
  refine ⟨attr_base hb, ?_, hl, ?_⟩
  · rw [star_cons he, star_cons hf]
    rfl
  · rw [star_cons he, star_cons hf]
    rfl
end Ded
end

section
set_option Elab.async false
set_option linter.all false
set_option maxRecDepth 100000
/-! The script's slice, join, get, lists changed in place, what is lent or given over. -/
namespace Ded
open PySem L2
section
variable {X : Cx} {en : Entry} {xc : Xc} {Wi : XK} {e e2 e3 : Expr} {es : List Expr} {pos p apos : Pos} {m n l : M Val}
theorem d_sls {i : Nat} {x : Str} {lo hi : Option Int} {plo phi : Option Expr} {p2 : Pos} (hN : X.N[i]? = some x) (hv : Vis X.env.scope x) (hd : (x == ("__debug__" : Str)) = false) (hcd : (x == ("__classdict__" : Str)) = false)
    (hl : PO X plo fun σ H Q => Q lo H) (hh : PO X phi fun σ H Q => Q hi H) : PEd X en xc Wi (.Subscript (.Name x p) (.Slice plo phi none p2) pos) (mSls i lo hi) := by
  refine PE.imp (pe_slice sl_list (pe_var hN hv hd hcd) hl hh) fun σ H Q h => ?_
  obtain ⟨F, ex, s, r, fr, h⟩ := h
  unfold mSls at h
  cases e : slot s i with
  | none => rw [e] at h; exact h.elim
  | some v =>
    rw [e] at h
    cases v with
    | scr ns =>
      obtain ⟨x, e1, a, rfl, c⟩ := r.slot i _ (slot_eq.mp e)
      have h : Ends_ X.K en xc Wi (if ns.length ≤ sizeLine then R.ok (Val.own (.list ((cutL ns lo hi).map .int))) s else .bad) F ex s σ H _ := h
      split at h
      rotate_left
      · exact h.elim
      rename_i hz'
      have hz : (ns.map V.int).length ≤ sizeLine := by rw [List.length_map]; exact hz'
      refine ⟨_, e1, a, ns.map V.int, rfl, c.seq, fun p hp => Ends_.res h r Step.refl (fun a z => z) _ F _ ?_⟩
      have hc : cutV (ns.map V.int) lo hi = (cutL ns lo hi).map V.int := by
        unfold cutV cutL
        rw [List.length_map, List.map_take, List.map_drop]
      exact ResOk.lst r.fdom hp (Nat.le_trans (cutV_length _ _ _) hz) (by rw [hc]; exact RfA.ints _)
    | dat _ => exact h.elim
    | own _ => exact h.elim
    | ext _ => exact h.elim
    | bor _ => exact h.elim
    | loc _ => exact h.elim
/-- ahead of a method's dot -/
theorem dot_core {k : D → Bool} {β : Type} {f : Val → M Val} {σ : L2.St} {H : Hp} {Q : VK} (h : TE' X.K en xc Wi (M.bind (mDot k m) f) σ H Q) : TE' X.K en xc Wi m σ H fun x H1 =>
    ∃ F ex s F1 ex1 s1 u d H0, Rel X.K F1 ex1 s1 σ H1 ∧ From en F1 ex1 s1 σ H1 ∧ Step F ex s σ H0 F1 ex1 s1 H1 ∧ OV X.K F1 ex1 σ H1 x u ∧ RT X.K F1 H1 x d ∧ k d = true ∧ H0 = H ∧ Ends_ X.K en xc Wi (f u s1) F ex s σ H0 fun F' ex' H' s' v => ∀ x, RV X.K F' ex' s' σ H H' x v → Q x H' := by
  refine TE'.opd ?_
  obtain ⟨F, ex, s, r, fr, h⟩ := h
  have h := Ends_.bind (m := mDot k m) h
  refine ⟨F, ex, s, r, fr, (Ends_.bind (m := mOpd m) h).imp fun F1 ex1 H1 s1 u e1 r1 st1 q x rv => ?_⟩
  have ov : OV X.K F1 ex1 σ H1 x u := RV.ov e1 rv
  obtain ⟨d, p1, q⟩ := q.peek'
  by_cases hk : k d = true
  · rw [if_pos hk] at q
    exact ⟨F, ex, s, F1, ex1, s1, u, d, H, r1, fr.step st1, st1, ov, ov.peek r1 p1, hk, rfl, q F1 ex1 H1 r1 st1⟩
  · rw [if_neg hk] at q
    exact q.elim
theorem d_join (ho : PEd X en xc Wi e m) (ha : PEd X en xc Wi e2 n) (hb : isBare e = false) (hs : isStar e2 = false) (hl : (apos.endLine == pos.line) = true) : PEd X en xc Wi (.Call (.Attribute e "join" apos) [e2] [] pos) (mJoin m n) := by
  refine PE.imp (pe_join ho ha (star_cons hs) (attr_base hb) hl) fun σ H Q h => ?_
  have h := dot_core (β := Unit) h
  obtain ⟨F, ex, s, r, fr, h⟩ := h
  refine ⟨F, ex, s, r, fr, h.imp fun F' ex' H' s' v _ _ _ q x rv => ?_⟩
  obtain ⟨F0, ex0, s0, F1, ex1, s1, u, d, H0, r1, fr1, st1, ov, rt, hk, rfl, q⟩ := q x rv
  cases d <;> first | cases hk | skip
  rename_i a
  cases rt_str rt
  refine ⟨⟨a, rfl⟩, TE'.opd ⟨F1, ex1, s1, r1, fr1, ((Ends_.bind (m := mOpd n) q).later st1).imp fun F2 ex2 H2 s2 v e2 r2 st2 q y rv2 => ?_⟩⟩
  have ov2 : OV X.K F2 ex2 σ H2 y v := RV.ov e2 rv2
  have ov1 := ov.step r1 st2
  obtain ⟨dx, p1, q⟩ := q.peek'
  obtain ⟨dy, p2, q⟩ := q.peek'
  obtain ⟨res, p3, q⟩ := q.opt
  have rx := ov1.peek r2 p1
  have ry := ov2.peek r2 p2
  unfold gJoin at p3
  split at p3
  · obtain ⟨ss, p4, p3⟩ := Option.bind_eq_some_iff.mp p3
    split at p3 <;> cases p3
    rename_i hz
    obtain ⟨b, xs, rfl, eb, z, rr⟩ := rt_list ry
    obtain ⟨rfl, _⟩ := RfA.of_strs p4 rr
    have ea := rt_str rx
    cases ea
    exact ⟨_, b, ss, rfl, rfl, .inl (SqL.of eb), hz, q.res r2 (st1.trans st2) (fun a z => z) _ _ _ (ResOk.atom r2.fdom fun _ _ => .str _)⟩
  · cases p3
theorem d_get1 (hu : X.A.units + 1 < cLine) (ho : PEd X en xc Wi e m) (ha : PEd X en xc Wi e2 n) (hb : isBare e = false) (hs : isStar e2 = false) (hl : (apos.endLine == pos.line) = true) : PEd X en xc Wi (.Call (.Attribute e "get" apos) [e2] [] pos) (mGet1 m n) := by
  refine PE.imp (pe_dget1 hu ho ha (m1_of hb hs hl)) fun σ H Q h => ?_
  have h := dot_core (β := Unit) h
  obtain ⟨F, ex, s, r, fr, h⟩ := h
  refine ⟨F, ex, s, r, fr, h.imp fun F' ex' H' s' v _ _ _ q x rv => ?_⟩
  obtain ⟨F0, ex0, s0, F1, ex1, s1, u, d, H0, r1, fr1, st1, ov, rt, hk, rfl, q⟩ := q x rv
  cases d <;> first | cases hk | skip
  obtain ⟨a, kvs, rfl, er, rk⟩ := rt_dict rt
  refine ⟨a, rfl, .inl ⟨kvs, er⟩, TE'.opd ⟨F1, ex1, s1, r1, fr1, ((Ends_.bind (m := mOpd n) q).later st1).imp fun F2 ex2 H2 s2 v e2 r2 st2 q y rv2 => ?_⟩⟩
  have ov2 : OV X.K F2 ex2 σ H2 y v := RV.ov e2 rv2
  have ov1 := ov.step r1 st2
  obtain ⟨dx, p1, q⟩ := q.peek'
  obtain ⟨dy, p2, q⟩ := q.peek'
  obtain ⟨res, p3, q⟩ := q.opt
  have rx := ov1.peek r2 p1
  have ry := ov2.peek r2 p2
  unfold gGet at p3
  split at p3
  · split at p3 <;> cases p3
    rename_i hk
    obtain ⟨b, kvs2, eb, er2, rk2⟩ := rt_dict rx
    cases eb
    obtain ⟨k, rfl, rfl⟩ := key_of hk ry
    refine ⟨valV kvs2 k, .inl ⟨kvs2, k, er2, rfl, rfl⟩, q.res r2 (st1.trans st2) (fun a z => z) _ F2 _ ?_⟩
    rcases rk2.look k with ⟨e1, e2⟩ | ⟨w, d', e1, e2, rw'⟩
    · rw [e1, e2]; exact ResOk.atom r2.fdom fun _ _ => .non
    · rw [e1, e2]; exact ResOk.old r2.fdom rw'
  · cases p3
theorem d_get2 (hu : X.A.units + 1 < cLine) (ho : PEd X en xc Wi e m) (ha : PEd X en xc Wi e2 n) (hf : PEd X en xc Wi e3 l) (hb : isBare e = false) (hs : isStar e2 = false) (hs3 : isStar e3 = false) (hl : (apos.endLine == pos.line) = true) :
    PEd X en xc Wi (.Call (.Attribute e "get" apos) [e2, e3] [] pos) (mGet2 m n l) := by
  refine PE.imp (pe_dget2 hu ho ha hf (m2_of hb hs hs3 hl)) fun σ H Q h => ?_
  have h := dot_core (β := Unit) h
  obtain ⟨F, ex, s, r, fr, h⟩ := h
  refine ⟨F, ex, s, r, fr, h.imp fun F' ex' H' s' v _ _ _ q x rv => ?_⟩
  obtain ⟨F0, ex0, s0, F1, ex1, s1, u, d, H0, r1, fr1, st1, ov, rt, hk, rfl, q⟩ := q x rv
  cases d <;> first | cases hk | skip
  obtain ⟨a, kvs, rfl, er, rk⟩ := rt_dict rt
  refine ⟨a, rfl, .inl ⟨kvs, er⟩, TE'.opd ⟨F1, ex1, s1, r1, fr1, ((Ends_.bind (m := mOpd n) q).later st1).imp fun F2 ex2 H2 s2 v e2 r2 st2 q y rv2 => ?_⟩⟩
  have ov2 : OV X.K F2 ex2 σ H2 y v := RV.ov e2 rv2
  have ov1 := ov.step r1 st2
  have st12 := st1.trans st2
  refine T1.fz ⟨F2, ex2, s2, r2, fr1.step st2, ((Ends_.bind (m := mFrz l) q).later st12).imp fun F3 ex3 H3 s3 z e3 r3 st3 q w rw' => ?_⟩
  have rw' : Rf X.K F3 H3 w z := rw'
  have ov1 := ov1.step r2 st3
  have ov2 := ov2.step r2 st3
  obtain ⟨dx, p1, q⟩ := q.peek'
  obtain ⟨dy, p2, q⟩ := q.peek'
  obtain ⟨res, p3, q⟩ := q.opt
  have rx := ov1.peek r3 p1
  have ry := ov2.peek r3 p2
  unfold gGet at p3
  split at p3
  · split at p3 <;> cases p3
    rename_i hk
    obtain ⟨b, kvs2, eb, er2, rk2⟩ := rt_dict rx
    cases eb
    obtain ⟨k, rfl, rfl⟩ := key_of hk ry
    refine ⟨valV kvs2 k, .inl ⟨kvs2, k, er2, rfl, rfl⟩, q.res r3 (st12.trans st3) (fun a z => z) _ F3 _ ?_⟩
    rcases rk2.look k with ⟨e1, e2⟩ | ⟨w2, d', e1, e2, rw2⟩
    · rw [e1, e2]; exact ResOk.old r3.fdom rw'
    · rw [e1, e2]; exact ResOk.old r3.fdom rw2
  · cases p3
end
end Ded
end

section
set_option Elab.async false
set_option linter.all false
set_option maxRecDepth 100000
/-! Lists changed in place, what is lent or given over, displays of dicts. -/
namespace Ded
open PySem L2
section
variable {K : PySem.W.Frag} {en : Entry} {xc : Xc} {Wi : XK} {σ : L2.St} {F F0 : Fz} {ex ex0 : List Addr} {s s0 : S} {H H0 H00 : Hp} {Q : VK} {i : Nat}
theorem chk_ok {β : Type} {f : Unit → M β} {P : Fz → List Addr → Hp → S → β → Prop} (r : Rel K F ex s σ H) (h : Ends_ K en xc Wi (M.bind (chkL i) f s) F0 ex0 s0 σ H0 P) :
    ∃ a xs, σ[i]? = some (some (.ref a)) ∧ H a = some (.lst xs) ∧ Ends_ K en xc Wi (f () s) F0 ex0 s0 σ H0 P := by
  unfold M.bind chkL at h
  cases e : slot s i with
  | none => rw [e] at h; exact h.elim
  | some v =>
    rw [e] at h
    obtain ⟨x, e1, so⟩ := r.slot i v (slot_eq.mp e)
    cases v with
    | own d =>
      cases d with
      | list ds =>
        obtain ⟨a, rfl, ⟨xs, ea, _⟩, _⟩ := so
        exact ⟨a, xs, e1, ea, h⟩
      | _ => exact h.elim
    | ext k =>
      obtain ⟨a, ek, rfl⟩ := so
      cases e2 : s.μ[k]? with
      | none => simp only [e2] at h; exact h.elim
      | some d =>
        simp only [e2] at h
        cases d with
        | list ds =>
          obtain ⟨b, eb, _, xs, ea, _⟩ := r.cel k _ e2
          rw [ek] at eb; cases eb
          exact ⟨a, xs, e1, ea, h⟩
        | _ => exact h.elim
    | dat _ => exact h.elim
    | bor _ => exact h.elim
    | loc _ => exact h.elim
    | scr _ => exact h.elim
theorem put_ok {f : List D → Option (List D × D)} {a : Addr} (r : Rel K F ex s σ H) (st : Step F0 ex0 s0 σ H0 F ex s H) (hx : σ[i]? = some (some (.ref a)))
    (h : Ends_ K en xc Wi (putL i f s) F0 ex0 s0 σ H0 fun F' ex' H' s' v => ∀ x, RV K F' ex' s' σ H00 H' x v → Q x H') :
    ∃ xs ds ys d, H a = some (.lst xs) ∧ xs.length ≤ sizeLine ∧ RfA K F H xs ds ∧ f ds = some (ys, d) ∧ ∀ xs' x, xs'.length ≤ sizeLine → RfA K F H xs' ys → Rf K F H x d → Q x (upd H a (.lst xs')) := by
  unfold putL at h
  cases e : slot s i with
  | none => rw [e] at h; exact h.elim
  | some v =>
    rw [e] at h
    have e' := slot_eq.mp e
    obtain ⟨x, e1, so⟩ := r.slot i v e'
    rw [hx] at e1; cases e1
    cases v with
    | own d =>
      cases d with
      | list ds =>
        obtain ⟨b, eb, ⟨xs, ea, z, ra⟩, nf, nx⟩ := so
        cases eb
        cases e3 : f ds with
        | none => simp only [e3] at h; exact h.elim
        | some yd =>
          obtain ⟨ys, d⟩ := yd
          simp only [e3] at h
          refine ⟨xs, ds, ys, d, ea, z, ra, e3, fun xs' x hz ra' rx => ?_⟩
          have kp : Kp F H (upd H a (.lst xs')) := fun b u f z => by
            rw [upd_ne (fun q => nf (by rw [← q]; exact f))]; exact z
          obtain ⟨r', g'⟩ := r.setOwn (o := .lst xs') (d' := .list ys) e' hx ⟨xs', upd_same, hz, RfA.mono (fun _ f => f) kp ys ra'⟩
          exact h F ex _ r' (st.trans ⟨g', List.prefix_refl _, .set fun _ => by simp⟩) x (Rf.mono (fun _ f => f) kp d rx)
      | _ => exact h.elim
    | ext k =>
      obtain ⟨b, ek, eb⟩ := so
      cases eb
      cases e2 : s.μ[k]? with
      | none => simp only [e2] at h; exact h.elim
      | some d =>
        simp only [e2] at h
        cases d with
        | list ds =>
          obtain ⟨b, eb, nf, xs, ea, z, ra⟩ := r.cel k _ e2
          rw [ek] at eb; cases eb
          cases e3 : f ds with
          | none => simp only [e3] at h; exact h.elim
          | some yd =>
            obtain ⟨ys, d⟩ := yd
            simp only [e3] at h
            refine ⟨xs, ds, ys, d, ea, z, ra, e3, fun xs' x hz ra' rx => ?_⟩
            have kp : Kp F H (upd H a (.lst xs')) := fun b u f z => by
              rw [upd_ne (fun q => nf (by rw [← q]; exact f))]; exact z
            obtain ⟨r', g'⟩ := r.setExt (o := .lst xs') (d' := .list ys) e2 ek ⟨xs', upd_same, hz, RfA.mono (fun _ f => f) kp ys ra'⟩
            exact h F ex _ r' (st.trans ⟨g', List.prefix_refl _, .refl⟩) x (Rf.mono (fun _ f => f) kp d rx)
        | _ => exact h.elim
    | dat _ => exact h.elim
    | bor _ => exact h.elim
    | loc _ => exact h.elim
    | scr _ => exact h.elim
theorem chk_of_put {f : List D → Option (List D × D)} {P : Fz → List Addr → Hp → S → Val → Prop} (r : Rel K F ex s σ H) (h : Ends_ K en xc Wi (putL i f s) F0 ex0 s0 σ H0 P) : ∃ a, σ[i]? = some (some (.ref a)) := by
  unfold putL at h
  cases e : slot s i with
  | none => rw [e] at h; exact h.elim
  | some v =>
    rw [e] at h
    obtain ⟨x, e1, so⟩ := r.slot i v (slot_eq.mp e)
    cases v with
    | own d => obtain ⟨a, rfl, _⟩ := so; exact ⟨a, e1⟩
    | ext k => obtain ⟨a, ek, rfl⟩ := so; exact ⟨a, e1⟩
    | dat _ => exact h.elim
    | bor _ => exact h.elim
    | loc _ => exact h.elim
    | scr _ => exact h.elim
end
section
variable {X : Cx} {en : Entry} {xc : Xc} {Wi : XK} {e e2 e3 : Expr} {es : List Expr} {pos p apos : Pos} {m n l : M Val} {i : Nat} {x : Str}
theorem d_app (hN : X.N[i]? = some x) (hv : Vis X.env.scope x) (hd : (x == ("__debug__" : Str)) = false) (hcd : (x == ("__classdict__" : Str)) = false) (ha : PEd X en xc Wi e m) (hs : isStar e = false) (hl : (apos.endLine == pos.line) = true) :
    PEd X en xc Wi (.Call (.Attribute (.Name x p) "append" apos) [e] [] pos) (mApp i m) := by
  refine PE.imp (pe_bm PySem.F.plainAttrs_list PySem.F.slot_list_append PySem.F.type_list_append mt_append (pe_var hN hv hd hcd) (pa_cons ha pa_nil (star_cons hs)) rfl (few_one hs) hl (star_cons hs) rfl) fun σ H Q h => ?_
  obtain ⟨F, ex, s, r, fr, h⟩ := h
  obtain ⟨a, xs, e1, ea, h⟩ := chk_ok r h
  refine ⟨_, e1, .inl ⟨rfl, xs, SqL.of ea⟩, ?_⟩
  refine T1.fz ⟨F, ex, s, r, fr, (Ends_.bind (m := mFrz m) h).imp fun F1 ex1 H1 s1 d e2 r1 st1 q y ry => ?_⟩
  obtain ⟨xs, ds, ys, d2, ea, z, ra, ef, q⟩ := put_ok r1 st1 e1 q
  unfold appF at ef
  split at ef <;> cases ef
  rename_i hz
  have hz' : xs.length < sizeLine := by rw [ra.length]; exact hz
  exact ⟨a, xs, y, rfl, rfl, ea, hz', q (xs ++ [y]) .non (by rw [List.length_append]; exact hz') (ra.append (.cons ry .nil)) .non⟩
theorem eraseIdx_len {α : Type} (xs : List α) (k : Nat) : (xs.eraseIdx k).length ≤ xs.length := by
  rw [List.length_eraseIdx]; split <;> omega
theorem d_pop1 (hN : X.N[i]? = some x) (hv : Vis X.env.scope x) (hd : (x == ("__debug__" : Str)) = false) (hcd : (x == ("__classdict__" : Str)) = false) (ha : PEd X en xc Wi e m) (hs : isStar e = false) (hl : (apos.endLine == pos.line) = true) :
    PEd X en xc Wi (.Call (.Attribute (.Name x p) "pop" apos) [e] [] pos) (mPop1 i m) := by
  refine PE.imp (pe_bm PySem.F.plainAttrs_list PySem.F.slot_list_pop PySem.F.type_list_pop mt_popAt (pe_var hN hv hd hcd) (pa_cons ha pa_nil (star_cons hs)) rfl (few_one hs) hl (star_cons hs) rfl) fun σ H Q h => ?_
  obtain ⟨F, ex, s, r, fr, h⟩ := h
  obtain ⟨a, xs, e1, ea, h⟩ := chk_ok r h
  refine ⟨_, e1, .inl ⟨rfl, xs, SqL.of ea⟩, ?_⟩
  refine TE'.opd ⟨F, ex, s, r, fr, (Ends_.bind (m := mOpd m) h).imp fun F1 ex1 H1 s1 v e2 r1 st1 q y rv => ?_⟩
  have ov : OV X.K F1 ex1 σ H1 y v := RV.ov e2 rv
  obtain ⟨dx, p1, q⟩ := q.peek'
  split at q
  · rename_i j
    cases rt_int (ov.peek r1 p1)
    obtain ⟨xs, ds, ys, d2, ea, z, ra, ef, q⟩ := put_ok r1 st1 e1 q
    unfold popF at ef
    split at ef
    · rename_i k hk
      split at ef <;> cases ef
      rename_i hd
      obtain ⟨w, hw, rw'⟩ := ra.get hd
      obtain ⟨h1, h2, h3, h4⟩ := ixN_seq hk
      have hl := line63
      rw [← ra.length] at h1 h3 h4
      exact ⟨a, xs, j, k, w, rfl, rfl, ea, by omega, by omega, h1, hw, q (xs.eraseIdx k) w (Nat.le_trans (eraseIdx_len xs k) z) (ra.eraseIdx k) rw'⟩
    · cases ef
  · exact q.elim
theorem ixN_last {n : Nat} {k : Nat} (h : ixN n (-1) = some k) : k = n - 1 ∧ 0 < n := by
  unfold ixN at h
  split at h
  · omega
  · split at h <;> cases h
    omega
theorem d_pop0 (hN : X.N[i]? = some x) (hv : Vis X.env.scope x) (hd : (x == ("__debug__" : Str)) = false) (hcd : (x == ("__classdict__" : Str)) = false) (hl : (apos.endLine == pos.line) = true) :
    PEd X en xc Wi (.Call (.Attribute (.Name x p) "pop" apos) [] [] pos) (mPop0 i) := by
  refine PE.imp (pe_bm0 PySem.F.plainAttrs_list PySem.F.slot_list_pop PySem.F.type_list_pop mt_pop (pe_var hN hv hd hcd) rfl hl) fun σ H Q h => ?_
  obtain ⟨F, ex, s, r, fr, h⟩ := h
  have h' := chk_of_put r h
  obtain ⟨a, e1⟩ := h'
  obtain ⟨xs, ds, ys, d2, ea, z, ra, ef, q⟩ := put_ok r Step.refl e1 h
  unfold popF at ef
  split at ef
  · rename_i k hk
    split at ef <;> cases ef
    rename_i hd
    obtain ⟨w, hw, rw'⟩ := ra.get hd
    obtain ⟨e2, h0⟩ := ixN_last hk
    have e3 : xs.eraseIdx k = xs.dropLast := by
      rw [e2, ← ra.length]
      exact List.eraseIdx_length_sub_one
    rw [e2, ← ra.length] at hw
    exact ⟨_, e1, .inl ⟨rfl, xs, SqL.of ea⟩, a, xs, w, rfl, rfl, ea, hw, by rw [← e3]; exact q (xs.eraseIdx k) w (Nat.le_trans (eraseIdx_len xs k) z) (ra.eraseIdx k) rw'⟩
  · cases ef
end
end Ded
end

section
set_option Elab.async false
set_option linter.all false
set_option maxRecDepth 100000
/-! Defs whose stack bears no guard, their calls, their bodies. -/
namespace Ded
open PySem L2
structure FnG (P : Program) (w : World) (K : PySem.W.Frag) (mg : Str → Option Value) (base : Heap) (k : Nat) (f : Addr) (fd : FuncData) (ps : List Str) (sp : Sp) : Prop where
  len : ∀ vs H Q E, sp vs H Q E → vs.length = ps.length
  go : ∀ (A : Around) (outer : List Env) (s : Shared) (H : Hp) (args : Args) (us : List Value) (vs : List V) (Q : VK) (E : XK), Room k A → A.guards = some [] → Env0 P w K mg base A outer s H →
    BindsTo s fd args (ps.zip us) → Vals vs us → sp vs H Q E → codeAny (model P w) A (.call (.ref f) args) (CR (L2.CX P w) outer P w H s Q E) s
section
variable {X : Cx} {k : Nat} {f : Addr} {fd : FuncData} {ps ks : List Str} {sp : Sp} {E : XK} {x : Str} {p pos : Pos} {e : Expr} {es : List Expr} {kws : List Keyword} {t tk : TA}
/-- what a call is to end in -/
def Back (Q : Value → Shared → Prop) (E : Value → Shared → Prop) : Result → Shared → Prop
  | .ok (.ret u), s' => Q u s'
  | .error e, s' => E e s'
  | _, _ => False
theorem callee_run {pins : List (Addr × Obj)} {σ : L2.St} {H : Hp} {s : Shared} {Q : VK} {us : List Value} {vs : List V} {args : Args} (F : FnG X.prog X.w X.K X.mg X.base k f fd ps sp) (hr : Room k X.A) (hg : X.A.guards = some [])
    (hx : Passes (L2.CX X.prog X.w) X E) (I : L2.Inv X pins σ H s) (hb : BindsTo s fd args (ps.zip us)) (r : Vals vs us) (h : sp vs H Q E) :
    codeAny (model X.prog X.w) X.A (.call (.ref f) args) (Back (EP X pins σ Q) X.xe) s := by
  refine codeAny_mono (F.go X.A X.stack s H args us vs Q E hr hg I.env0 hb r h) fun r s' q => ?_
  rcases r with e | fl
  · exact hx pins σ H s e s' I q
  · cases fl <;> first | exact I.after q | exact q
theorem call_back {M : Model} {A : Around} {f : Value} {us : List Value} {kw : List (Str × Value)} {Q : Value → Shared → Prop} {E : Value → Shared → Prop} {s : Shared}
    (h : codeAny M A (.call f ⟨us, kw⟩) (Back Q E) s) : wpAny M A (call f us kw) Q E s := by
  refine wpAny_call (codeAny_mono h fun r s' q => ?_)
  rcases r with e | fl
  · exact q
  · cases fl <;> first | exact q | exact False.elim q
theorem g_call (F : FnG X.prog X.w X.K X.mg X.base k f fd ps sp) (hr : Room k X.A) (hgd : X.A.guards = some []) (hg : Gl X x) (hm : X.mg x = some (.ref f)) (hk : PySem.W.keepIn X.K (.ref f) = true) (hb : Binds X.K fd ps [])
    (hx : Passes (L2.CX X.prog X.w) X E) (ha : PA X (e :: es) t) (hdb : (x == ("__debug__" : Str)) = false) (he : starEach (e :: es) X.env = (false, eval e X.env) :: starEach es X.env) (hpl : (backTo pos (starEach es X.env)).any (·.1) = false) :
    PE X (.Call (.Name x p) (e :: es) [] pos) (fun σ H Q => t σ H fun vs H1 => sp vs H1 Q E) := by
  constructor
  intro pins s σ H Q I h
  apply wpAny_Call_Name_kw
  apply ld_glob I hg hm _ hdb
  apply PySem.W.callWith_K (h₀ := X.base) I.ok.mod.kin hk _ he hpl
  refine thn (ha.run pos pins s σ H _ I h) ?_
  rintro us s1 ⟨vs, H1, I1, r, q⟩
  refine ⟨I1.kIn, call_back ?_⟩
  have hl : us.length = ps.length := by rw [← r.length]; exact F.len _ _ _ _ q
  have hbb := hb s1 us I1.kIn (by rw [List.append_nil]; exact hl)
  rw [List.append_nil] at hbb
  exact callee_run F hr hgd hx I1 hbb r q
theorem g_call0 (F : FnG X.prog X.w X.K X.mg X.base k f fd ps sp) (hr : Room k X.A) (hgd : X.A.guards = some []) (hg : Gl X x) (hm : X.mg x = some (.ref f)) (hk : PySem.W.keepIn X.K (.ref f) = true) (hb : Binds X.K fd ps [])
    (hx : Passes (L2.CX X.prog X.w) X E) (hdb : (x == ("__debug__" : Str)) = false) : PE X (.Call (.Name x p) [] [] pos) (fun σ H Q => sp [] H Q E) := by
  constructor
  intro pins s σ H Q I q
  apply wpAny_Call_Name_kw
  apply ld_glob I hg hm _ hdb
  apply PySem.W.callWith_K0 I.kIn hk
  refine call_back ?_
  have hl : ([] : List Value).length = ps.length := F.len _ _ _ _ q
  have hbb := hb s [] I.kIn hl
  exact callee_run (us := []) F hr hgd hx I hbb .nil q
/-- all arguments by keywords, in the parameters' order -/
theorem g_callk (F : FnG X.prog X.w X.K X.mg X.base k f fd ps sp) (hr : Room k X.A) (hgd : X.A.guards = some []) (hg : Gl X x) (hm : X.mg x = some (.ref f)) (hk : PySem.W.keepIn X.K (.ref f) = true)
    (hb : ∀ (s : Shared) (us : List Value), X.K.In s.heap → us.length = ps.length → BindsTo s fd ⟨[], ps.zip us⟩ (ps.zip us))
    (hx : Passes (L2.CX X.prog X.w) X E) (ha : PK X kws t) (hdb : (x == ("__debug__" : Str)) = false)
    (hall : (backToKw pos (keywordEach kws X.env)).all (·.1.isSome) = true) (hks : (backToKw pos (keywordEach kws X.env)).filterMap (·.1) = ps) (hn : (backToKw pos (keywordEach kws X.env)).any (·.1.isNone) = false) :
    PE X (.Call (.Name x p) [] kws pos) (fun σ H Q => t σ H fun vs H1 => sp vs H1 Q E) := by
  constructor
  intro pins s σ H Q I h
  apply wpAny_Call_Name_kw
  apply ld_glob I hg hm _ hdb
  refine PySem.W.callWith_KW0 (h₀ := X.base) I.ok.mod.kin hk hall ?_ hn
  refine thn (ha.run pos pins s σ H _ I h) ?_
  rintro us s1 ⟨vs, H1, I1, r, q⟩
  refine ⟨I1.kIn, ?_⟩
  rw [hks]
  refine call_back ?_
  have hl : us.length = ps.length := by rw [← r.length]; exact F.len _ _ _ _ q
  exact callee_run F hr hgd hx I1 (hb s1 us I1.kIn hl) r q
end
section
variable {P : Program} {w : World} {K : PySem.W.Frag} {mg : Str → Option Value} {base : Heap}
/-- a def of the text, by its body -/
theorem FnG.of {k : Nat} {x qual : Str} {st : Stmt} {f : Addr} {fd : FuncData} {N ps : List Str} {sp : Sp} (Fu : Fun K x qual st f fd) (S : FnScope N ps (defScope st)) (len : ∀ vs H Q E, sp vs H Q E → vs.length = ps.length)
    (hbody : ∀ (cdv : Value) (A : Around) (outer : List Env) (s : Shared) (H : Hp) (vs : List V) (Q : VK) (E : XK), Room k (A.deeper (PyProof.Rows.envOfC qual (defScope st) s.heap.objs.size f cdv)) → A.guards = some [] → sp vs H Q E →
      ∃ t, PSs (cxOf (L2.CX P w) P w K mg base N qual (defScope st) f cdv A outer s H E) (defBody st) t ∧ t { nx := fun _ H' => Q .non H', rt := Q } (start N vs) H) : FnG P w K mg base (k + 1) f fd ps sp := by
  obtain ⟨oc, od, kV, doc, pm, an, cdv, ct, osl, rfl, lk, hcd⟩ := Fu.ex
  constructor
  · exact len
  intro A outer s H args us vs Q E room grd e0 bnd rv hsp
  have lenv := len vs H Q E hsp
  have inK : K.In s.heap := e0.mod.kin.keeps fun b o z => (e0.bs b o z).1
  have nolim : s.heap.NoLimit := e0.mod.nolimit.keeps fun b o z => (e0.bs b o z).1
  apply codeAny_call_function room.depth (inK _ _ lk) rfl S.co S.gen rfl (PySem.W.codeRec_of inK hcd)
  apply bnd
  have kinds : ∀ y ∈ ps.zip us, (defScope st).names.lookup y.1 = some .local ∨ ((defScope st).names.lookup y.1 = some .cell ∧ ((cellsFrom (s.heap.objs.size + 1) (defScope st).names []).lookup y.1).isSome = true) := by
    rintro ⟨n, v⟩ hy
    exact (S.par n (List.of_mem_zip hy).1).elim .inl fun q => .inr ⟨q, PySem.W.cellsFrom_some _ _ _ (.inl q)⟩
  refine wpAny_newFunctionEnv_cells S.kind kinds fun env he s1 x => ?_
  cases he
  refine ⟨nolim.keeps x.toInCall.keep, codeAny_func ?_⟩
  obtain ⟨t, ht, hq⟩ := hbody cdv A outer s H vs Q E (room.deeper _) grd hsp
  have start_ok := inv_start (CX := L2.CX P w) (E := E) S room.hd e0 lenv rv x
  refine wpAny_mono (ht.run [] s1 (start N vs) H _ start_ok hq) ?_ fun e s' z => z
  intro fl s' hs
  have done : ∀ {σ' : L2.St} {H' : Hp} {v : V} {u : Value}, L2.Inv (cxOf (L2.CX P w) P w K mg base N qual (defScope st) f cdv A outer s H E) [] σ' H' s' → RelV v u → Q v H' → CE outer P w H s Q u s' := by
    intro σ' H' v u J rv q
    exact ⟨v, H', J.os, J.bare, J.base, J.hok, rv, q⟩
  cases fl with
  | ret u => exact let ⟨v, σ', H', J, rv, q⟩ := hs; done J rv q
  | next => exact let ⟨σ', H', J, q⟩ := hs; done (v := V.non) (u := Value.none) J rfl q
  | brk => exact let ⟨_, _, _, q⟩ := hs; q.elim
  | cont => exact let ⟨_, _, _, q⟩ := hs; q.elim
end
end Ded
end

section
set_option Elab.async false
set_option linter.all false
set_option maxRecDepth 100000
/-! What a def promises: what the evaluator says of it. -/
namespace Ded
open PySem L2
def ArgOk (K : PySem.W.Frag) (F : Fz) (ex : List Addr) (H : Hp) (x : V) : Val → Prop
  | .dat d => Rf K F H x d
  | .ext k => ∃ a, ex[k]? = some a ∧ x = .ref a
  | .bor d => ∃ a, x = .ref a ∧ Cell K F H a d ∧ a ∉ ex
  | .scr ns => ∃ a, x = .ref a ∧ Scr K H a ns
  | _ => False
structure Handed (K : PySem.W.Frag) (F : Fz) (ex : List Addr) (μ : List D) (H : Hp) (xs : List V) (us : List Val) : Prop where
  all : All2 (ArgOk K F ex H) xs us
  exl : μ.length = ex.length
  exd : ex.Nodup
  cel : ∀ (k : Nat) (d : D), μ[k]? = some d → ∃ a, ex[k]? = some a ∧ ¬ F a ∧ Cell K F H a d
  fdom : ∀ a, F a → ∃ o, H a = some o
def entryOf (F : Fz) (ex : List Addr) (H : Hp) : Entry := ⟨F, H, ex, fun a => a ∈ ex⟩
def RetV (K : PySem.W.Frag) (F : Fz) (ex : List Addr) (H0 H : Hp) (x : V) : Val → Prop
  | .dat d => Rf K F H x d
  | .own d => ∃ a, x = .ref a ∧ Cell K F H a d ∧ ¬ F a ∧ a ∉ ex ∧ H0 a = none
  | .ext k => ∃ a, ex[k]? = some a ∧ x = .ref a
  | _ => False
def spD (K : PySem.W.Frag) (xc : Xc) (cd : List Val → List D → R Val) (n : Nat) : Sp := fun vs H Q E => vs.length = n ∧ ∃ F ex us μ, Handed K F ex μ H vs us ∧ match cd us μ with
  | .ok v t => ∀ x F' ex' H', XRel K (entryOf F ex H) F' ex' t.μ H' → RetV K F' ex' H H' x v → Q x H'
  | .exc c fs t => ∀ F' ex' H' cls od, XRel K (entryOf F ex H) F' ex' t.μ H' → xc c fs F' ex' t.μ H' cls od → E cls od H'
  | .bad => False
section
variable {K : PySem.W.Frag} {en : Entry} {xc : Xc} {Wi : XK} {σ : L2.St} {F F' : Fz} {ex ex' : List Addr} {s : S} {μ : List D} {H H' : Hp}
theorem Grow.widen {F M N F1 M1 : Fz} {H H1 : Hp} (g : Grow F M H F1 M1 H1) (h : ∀ a, M a → N a) : Grow F N H F1 M1 H1 :=
  ⟨fun a o e nm => g.keep a o e fun m => nm (h a m), g.dom, g.fmono, fun a f => (g.fnew a f).imp_right fun z => z.imp_left (h a), fun a m => (g.mnew a m).imp_left (h a)⟩
theorem All2.length {α : Type} {R : V → α → Prop} : ∀ {xs : List V} {as : List α}, All2 R xs as → xs.length = as.length
  | _, _, .nil => rfl
  | _, _, .cons _ r => by simp [All2.length r]
/-- the arguments, as they stand at the call -/
theorem handed (r : Rel K F ex s σ H) : ∀ {vs : List Val} {xs : List V} {us : List Val}, All2 (fun x v => RAr K F ex s σ H x v) xs vs → solveAll s vs = some us → All2 (ArgOk K F ex H) xs us
  | [], _, us, .nil, e => by cases e; exact .nil
  | v :: vs, _, us, .cons a as, e => by
    simp only [solveAll] at e
    split at e <;> cases e
    rename_i u us e1 e2
    refine .cons ?_ (handed r as e2)
    cases v with
    | dat d => cases e1; exact a
    | ext k => cases e1; exact a
    | scr ns => cases e1; exact a
    | loc i =>
      simp only [solve] at e1
      split at e1 <;> cases e1
      · rename_i d hs
        obtain ⟨x, ex1, b, rfl, c, nf, nx⟩ := r.slot i _ (slot_eq.mp hs)
        rw [a] at ex1; cases ex1
        exact ⟨b, rfl, c, nx⟩
      · rename_i d hs
        obtain ⟨x, ex1, b, rfl, c, nx⟩ := r.slot i _ (slot_eq.mp hs)
        rw [a] at ex1; cases ex1
        exact ⟨b, rfl, c, nx⟩
    | own _ => cases e1
    | bor _ => cases e1
/-- behind a call -/
theorem after_call (r : Rel K F ex s σ H) (x : XRel K (entryOf F ex H) F' ex' μ H') : Rel K F' ex' { s with μ := μ } σ H' ∧ Step F ex s σ H F' ex' { s with μ := μ } H' := by
  obtain ⟨M, g⟩ := x.grow
  have hx : ∀ a, a ∈ ex' → a ∈ ex ∨ H a = none := x.new
  have owk : ∀ a, Ow s.ρ σ a → a ∉ ex ∧ ∃ o, H a = some o := fun a o => (r.ow o).2
  refine ⟨⟨r.len, fun i v e => ?_, r.sep, r.lent, x.exl, x.exd, x.cel, x.fdom⟩, ⟨⟨fun a o e nm => g.keep a o e fun m => nm (.inl m), g.dom, g.fmono, fun a f => (g.fnew a f).imp_right fun z => z.imp_left .inl, fun a m => ?_⟩, x.pre, .refl⟩⟩
  · obtain ⟨y, e1, h⟩ := r.slot i v e
    refine ⟨y, e1, h.grow g (fun a f m => (r.exm m).1 f) (fun a o u m e => r.nfz a o u (.inl m) e) (fun k a e => pre_get x.pre e) (fun a m => (hx a m).imp_right .inr) fun a d ea hv m => ?_⟩
    rcases hv with rfl | rfl
    · obtain ⟨b, eb, _, _, nx⟩ := h
      rw [ea] at eb; cases eb
      exact nx m
    · obtain ⟨b, eb, _, nx⟩ := h
      rw [ea] at eb; cases eb
      exact nx m
  · rcases m with m | m
    · exact (hx a m).imp_left .inl
    · exact .inl (.inr m)
end
section
variable {X : Cx} {en : Entry} {xc : Xc} {Wi : XK} {σ : L2.St} {H : Hp} {Q : VK}
theorem call_core {cd : Nat → List Val → List D → R Val} {g n : Nat} {l : M (List Val)} (hn : ∀ us μ, us.length ≠ n → cd g us μ = .bad) (h : TE' X.K en xc Wi (mCall cd g l) σ H Q) :
    TL X.K en xc Wi (RAr X.K) l σ H fun vs H1 => spD X.K xc (cd g) n vs H1 Q Wi := by
  obtain ⟨F, ex, s, r, fr, h⟩ := h
  refine ⟨F, ex, s, r, fr, (Ends_.bind (m := l) h).imp fun F1 ex1 H1 s1 vals e1 r1 st1 q xs rs => ?_⟩
  cases e2 : solveAll s1 vals with
  | none => simp only [e2] at q; exact q.elim
  | some us =>
    simp only [e2] at q
    have ha := handed r1 rs e2
    have hl : xs.length = us.length := ha.length
    have hlen : us.length = n := by
      by_cases h : us.length = n
      · exact h
      · rw [hn us s1.μ h] at q; exact q.elim
    refine ⟨hl.trans hlen, F1, ex1, us, s1.μ, ⟨ha, r1.exl, r1.exd, r1.cel, r1.fdom⟩, ?_⟩
    cases e3 : cd g us s1.μ with
    | ok v t =>
      simp only [e3] at q ⊢
      intro x F' ex' H' xr rv
      obtain ⟨r2, st2⟩ := after_call r1 xr
      refine q F' ex' H' r2 (st1.trans st2) x ?_
      cases v with
      | dat d => exact rv
      | own d =>
        obtain ⟨a, rfl, c, nf, nx, n0⟩ := rv
        refine ⟨a, rfl, c, nf, fun m => ?_, fun b => ?_, st1.grow.none n0⟩
        · rcases m with m | m
          · exact nx m
          · obtain ⟨o, eo⟩ := r1.mdom (.inr m)
            rw [n0] at eo; cases eo
        · obtain ⟨o, eo⟩ := r1.bo b
          rw [n0] at eo; cases eo
      | ext k => exact rv
      | bor _ => exact rv.elim
      | loc _ => exact rv.elim
      | scr _ => exact rv.elim
    | exc c fs t =>
      simp only [e3] at q ⊢
      intro F' ex' H' cls od xr hc
      refine q F' ex' H' cls od ?_ hc
      obtain ⟨M, g⟩ := xr.grow
      have fr1 := fr.step st1
      exact ⟨⟨M, fr1.grow.trans (g.widen fun a m => .inl m)⟩, fr1.pre.trans xr.pre, xr.exl, xr.exd, xr.cel, xr.fdom, fun a m => by
        rcases xr.new a m with m | z
        · rcases fr1.grow.mnew a (.inl m) with m | z
          · exact .inl m
          · exact .inr z
        · exact .inr (fr1.grow.none z)⟩
    | bad => simp only [e3] at q; exact q.elim
end
end Ded
end

section
set_option Elab.async false
set_option linter.all false
set_option maxRecDepth 100000
/-! Statements. -/
namespace Ded
open PySem L2
/-- since a moment: what was frozen then -/
structure Bs where
  F : Fz
  H : Hp
structure FromL (en : Entry) (B : Bs) (F : Fz) (ex : List Addr) (s : S) (σ : L2.St) (H : Hp) : Prop where
  fr : From en F ex s σ H
  lm : ∀ a, B.F a → F a
  lk : Kp B.F B.H H
theorem FromL.with {en : Entry} {B : Bs} {F : Fz} {ex ex' : List Addr} {s s' : S} {σ σ' : L2.St} {H : Hp} (f : FromL en B F ex s σ H) (g : From en F ex' s' σ' H) : FromL en B F ex' s' σ' H := ⟨g, f.lm, f.lk⟩
theorem FromL.step {K : PySem.W.Frag} {en : Entry} {B : Bs} {F F1 : Fz} {ex ex1 : List Addr} {s s1 : S} {σ : L2.St} {H H1 : Hp} (f : FromL en B F ex s σ H) (r : Rel K F ex s σ H) (b : Step F ex s σ H F1 ex1 s1 H1) : FromL en B F1 ex1 s1 σ H1 :=
  ⟨f.fr.step b, fun a z => b.grow.fmono a (f.lm a z), fun a o z e => b.grow.kp r.dj a o (f.lm a z) (f.lk a o z e)⟩
section
variable (K : PySem.W.Frag) (en : Entry) (xc : Xc) (Wi : XK) (B : Bs)
/-- a flow's end -/
def FEnds (r : R Flow) (D : Ends) : Prop :=
  match r with
  | .ok .nx s' => ∀ σ' F' ex' H', Rel K F' ex' s' σ' H' → FromL en B F' ex' s' σ' H' → D.nx σ' H'
  | .ok .bk s' => ∀ σ' F' ex' H', Rel K F' ex' s' σ' H' → FromL en B F' ex' s' σ' H' → D.bk σ' H'
  | .ok .ct s' => ∀ σ' F' ex' H', Rel K F' ex' s' σ' H' → FromL en B F' ex' s' σ' H' → D.ct σ' H'
  | .ok (.rt v) s' => ∀ F' ex' H' x, XRel K en F' ex' s'.μ H' → RetV K F' ex' en.H H' x v → D.rt x H'
  | .exc c fs s' => ∀ F' ex' H' cls od, XRel K en F' ex' s'.μ H' → xc c fs F' ex' s'.μ H' cls od → Wi cls od H'
  | .bad => False
def TS' (m : M Flow) : TS := fun D σ H => ∃ F ex s B, Rel K F ex s σ H ∧ FromL en B F ex s σ H ∧ FEnds K en xc Wi B (m s) D
end
section
variable {K : PySem.W.Frag} {en : Entry} {xc : Xc} {Wi : XK} {B : Bs} {σ : L2.St} {F F' : Fz} {ex ex' : List Addr} {s s' : S} {H H' : Hp}
theorem xrel_of (r : Rel K F ex s σ H) (f : From en F ex s σ H) : XRel K en F ex s.μ H :=
  ⟨⟨_, f.grow⟩, f.pre, r.exl, r.exd, r.cel, r.fdom, fun a m => f.grow.mnew a (.inl m)⟩
/-- from an expression's end to a statement's -/
theorem Ends_.flow {α : Type} {m : M α} {f : α → M Flow} {D : Ends} (r : Rel K F ex s σ H) (fr : FromL en B F ex s σ H) (h : FEnds K en xc Wi B (M.bind m f s) D) :
    Ends_ K en xc Wi (m s) F ex s σ H fun F1 ex1 H1 s1 a => FromL en B F1 ex1 s1 σ H1 ∧ FEnds K en xc Wi B (f a s1) D := by
  unfold M.bind at h
  cases e : m s with
  | ok a t =>
    rw [e] at h
    exact fun F' ex' H' r2 st => ⟨fr.step r st, h⟩
  | exc c fs t => rw [e] at h; exact h
  | bad => rw [e] at h; exact h
/-- an exception passes the statement by; a flow is taken further -/
theorem FEnds.bindf {m : M Flow} {f : Flow → M Flow} {B' : Bs} {D D' : Ends} (h : FEnds K en xc Wi B (M.bind m f s) D)
    (hn : ∀ t, FEnds K en xc Wi B (f .nx t) D → ∀ σ' F' ex' H', Rel K F' ex' t σ' H' → FromL en B' F' ex' t σ' H' → D'.nx σ' H')
    (hb : ∀ t, FEnds K en xc Wi B (f .bk t) D → ∀ σ' F' ex' H', Rel K F' ex' t σ' H' → FromL en B' F' ex' t σ' H' → D'.bk σ' H')
    (hc : ∀ t, FEnds K en xc Wi B (f .ct t) D → ∀ σ' F' ex' H', Rel K F' ex' t σ' H' → FromL en B' F' ex' t σ' H' → D'.ct σ' H')
    (hr : ∀ v t, FEnds K en xc Wi B (f (.rt v) t) D → ∀ F' ex' H' x, XRel K en F' ex' t.μ H' → RetV K F' ex' en.H H' x v → D'.rt x H') : FEnds K en xc Wi B' (m s) D' := by
  unfold M.bind at h
  cases e : m s with
  | ok a t =>
    rw [e] at h
    cases a with
    | nx => exact hn t h
    | bk => exact hb t h
    | ct => exact hc t h
    | rt v => exact hr v t h
  | exc c fs t => rw [e] at h; exact h
  | bad => rw [e] at h; exact h
/-- a slot is given a value -/
theorem Rel.assign {i : Nat} {x : V} {v : Val} {H0 : Hp} (r : Rel K F ex s σ H) (f : From en F ex s σ H) (h : RV K F ex s σ H0 H x v) (hv : (∃ d, v = .dat d) ∨ (∃ d, v = .own d) ∨ ∃ k, v = .ext k) (h0 : ∀ a, H0 a = none → en.H a = none) (hi : i < s.ρ.length) :
    Rel K F ex (setSlot s i v) (σ.set i (some x)) H ∧ From en F ex (setSlot s i v) (σ.set i (some x)) H := by
  have hσ : i < σ.length := by rw [← r.len]; exact hi
  have gs : ∀ {j : Nat} {w : Val}, (s.ρ.set i (some v))[j]? = some (some w) → (i = j ∧ w = v) ∨ (i ≠ j ∧ s.ρ[j]? = some (some w)) := fun {j w} z => by
    by_cases h : i = j
    · subst h; rw [List.getElem?_set_self hi] at z; cases z; exact .inl ⟨rfl, rfl⟩
    · rw [List.getElem?_set_ne h] at z; exact .inr ⟨h, z⟩
  have gσ : ∀ {j : Nat}, i ≠ j → (σ.set i (some x))[j]? = σ[j]? := fun h => List.getElem?_set_ne h
  have gi : (σ.set i (some x))[i]? = some (some x) := List.getElem?_set_self hσ
  have so : SlotOk K F ex H x v := by
    rcases hv with ⟨d, rfl⟩ | ⟨d, rfl⟩ | ⟨k, rfl⟩
    · exact h
    · obtain ⟨a, rfl, c, nf, nm, _, _⟩ := h
      exact ⟨a, rfl, c, nf, fun m => nm (.inl m)⟩
    · exact h
  have ow : ∀ b, Ow (setSlot s i v).ρ (σ.set i (some x)) b → Ow s.ρ σ b ∨ (x = .ref b ∧ ∃ d, v = .own d) := fun b ⟨j, d1, e3, e4⟩ => by
    rcases gs e3 with ⟨rfl, z⟩ | ⟨n, z⟩
    · rw [gi] at e4; cases e4; exact .inr ⟨rfl, d1, z.symm⟩
    · rw [gσ n] at e4; exact .inl ⟨j, d1, z, e4⟩
  have fresh : ∀ b, (x = .ref b ∧ ∃ d, v = .own d) → ¬ Mu s.ρ σ ex b ∧ ¬ Bo s.ρ σ b ∧ en.H b = none := fun b ⟨e, d, e2⟩ => by
    subst e2
    obtain ⟨a, ea, _, _, nm, nb, n0⟩ := h
    rw [e] at ea; cases ea
    exact ⟨nm, nb, h0 b n0⟩
  refine ⟨⟨by simp [setSlot, r.len], fun j w e3 => ?_, fun j k d1 d2 b e3 e4 h1 h2 => ?_, fun j d1 b e3 e4 o => ?_, r.exl, r.exd, r.cel, r.fdom⟩, ⟨⟨f.grow.keep, f.grow.dom, f.grow.fmono, f.grow.fnew, fun b m => ?_⟩, f.pre⟩⟩
  · rcases gs e3 with ⟨rfl, rfl⟩ | ⟨n, z⟩
    · exact ⟨x, gi, so⟩
    · rw [gσ n]; exact r.slot j w z
  · rcases gs e3 with ⟨rfl, q1⟩ | ⟨n1, z1⟩
    · rcases gs e4 with ⟨rfl, q2⟩ | ⟨n2, z2⟩
      · rfl
      · rw [gi] at h1; rw [gσ n2] at h2
        cases h1
        exact absurd (.inr ⟨k, d2, z2, h2⟩) (fresh b ⟨rfl, d1, q1.symm⟩).1
    · rcases gs e4 with ⟨rfl, q2⟩ | ⟨n2, z2⟩
      · rw [gi] at h2; rw [gσ n1] at h1
        cases h2
        exact absurd (.inr ⟨j, d1, z1, h1⟩) (fresh b ⟨rfl, d2, q2.symm⟩).1
      · rw [gσ n1] at h1; rw [gσ n2] at h2
        exact r.sep j k d1 d2 b z1 z2 h1 h2
  · rcases gs e3 with ⟨rfl, z⟩ | ⟨n, z⟩
    · rcases hv with ⟨d, rfl⟩ | ⟨d, rfl⟩ | ⟨k, rfl⟩ <;> cases z
    · rw [gσ n] at e4
      rcases ow b o with o | o
      · exact r.lent j d1 b z e4 o
      · exact (fresh b o).2.1 ⟨j, d1, z, e4⟩
  · rcases m with m | m
    · exact f.grow.mnew b (.inl m)
    · rcases ow b m with o | o
      · exact f.grow.mnew b (.inr o)
      · exact .inr (fresh b o).2.2
end
section
variable {X : Cx} {en : Entry} {xc : Xc} {Wi : XK} {e : Expr} {es : List Expr} {pos p p' : Pos} {m n : M Val} {st : Stmt} {rest : List Stmt} {i : Nat} {x : Str}
theorem PS.imp {st : Stmt} {t t' : TS} (h : PS X st t) (q : ∀ D σ H, t' D σ H → t D σ H) : PS X st t' := ⟨fun pins s σ H D I z => h.run pins s σ H D I (q D σ H z)⟩
theorem PSs.imp {st : List Stmt} {t t' : TS} (h : PSs X st t) (q : ∀ D σ H, t' D σ H → t D σ H) : PSs X st t' := ⟨fun pins s σ H D I z => h.run pins s σ H D I (q D σ H z)⟩
theorem k_nop : PSs X [] (TS' X.K en xc Wi (M.ret .nx)) := PSs.imp pss_nil fun D σ H ⟨F, ex, s, B, r, f, h⟩ => h σ F ex H r f
theorem k_then {a k : M Flow} (ha : PS X st (TS' X.K en xc Wi a)) (hk : PSs X rest (TS' X.K en xc Wi k)) : PSs X (st :: rest) (TS' X.K en xc Wi (thenK a k)) := by
  refine PSs.imp (pss_cons ha hk) fun D σ H ⟨F, ex, s, B, r, f, h⟩ => ⟨F, ex, s, B, r, f, ?_⟩
  refine FEnds.bindf h (fun t q σ' F' ex' H' r f => ⟨F', ex', t, B, r, f, q⟩) (fun t q => q) (fun t q => q) fun v t q => q
theorem k_exp (he : PEd X en xc Wi e m) (hs : swapsWith e none pos.line X.env = pure false) : PS X (.Expr e pos) (TS' X.K en xc Wi (kExp m)) := by
  refine PS.imp (ps_expr he hs) fun D σ H ⟨F, ex, s, B, r, f, h⟩ => ?_
  exact ⟨F, ex, s, r, f.fr, (Ends_.flow r f h).imp fun F1 ex1 H1 s1 v e1 r1 st1 ⟨f1, q⟩ x rv => q σ F1 ex1 H1 r1 f1⟩
theorem put_core {σ : L2.St} {F : Fz} {ex : List Addr} {s : S} {H H0 : Hp} {D : Ends} {x : V} {v : Val} {B : Bs} (f : FromL en B F ex s σ H) (r : Rel X.K F ex s σ H) (rv : RV X.K F ex s σ H0 H x v) (hv : (∃ d, v = .dat d) ∨ (∃ d, v = .own d) ∨ ∃ k, v = .ext k) (h0 : ∀ a, H0 a = none → en.H a = none)
    {k : Unit → M Flow} (q : FEnds X.K en xc Wi B (M.bind (putSlot i v) k s) D) :
    Rel X.K F ex (setSlot s i v) (σ.set i (some x)) H ∧ FromL en B F ex (setSlot s i v) (σ.set i (some x)) H ∧ FEnds X.K en xc Wi B (k () (setSlot s i v)) D := by
  unfold M.bind putSlot at q
  by_cases hi : i < s.ρ.length
  · rw [if_pos hi] at q
    obtain ⟨r2, f2⟩ := r.assign (i := i) f.fr rv hv h0 hi
    exact ⟨r2, f.with f2, q⟩
  · rw [if_neg hi] at q
    exact q.elim
theorem set_core {σ : L2.St} {H : Hp} {D : Ends} (h : TS' X.K en xc Wi (kSet i m) D σ H) : TE' X.K en xc Wi m σ H fun x H1 => D.nx (σ.set i (some x)) H1 := by
  obtain ⟨F, ex, s, B, r, f, h⟩ := h
  refine ⟨F, ex, s, r, f.fr, (Ends_.flow r f h).imp fun F1 ex1 H1 s1 v e1 r1 st1 ⟨f1, q⟩ x rv => ?_⟩
  have h0 : ∀ a, H a = none → en.H a = none := fun a z => f.fr.grow.none z
  cases v with
  | dat d =>
    obtain ⟨r2, f2, q⟩ := put_core (i := i) f1 r1 rv (.inl ⟨d, rfl⟩) h0 q
    exact q _ F1 ex1 H1 r2 f2
  | own d =>
    obtain ⟨r2, f2, q⟩ := put_core (i := i) f1 r1 rv (.inr (.inl ⟨d, rfl⟩)) h0 q
    exact q _ F1 ex1 H1 r2 f2
  | ext k =>
    obtain ⟨r2, f2, q⟩ := put_core (i := i) f1 r1 rv (.inr (.inr ⟨k, rfl⟩)) h0 q
    exact q _ F1 ex1 H1 r2 f2
  | bor _ => exact q.elim
  | scr _ => exact q.elim
  | loc j =>
    have q : FEnds X.K en xc Wi B (M.bind (M.bind (freeze (.loc j)) fun d => putSlot i (.dat d)) (fun _ => M.ret Flow.nx) s1) D := q
    rw [bind_bind] at q
    unfold M.bind freeze at q
    cases e : Ded.slot s1 j with
    | none => simp only [e] at q; exact q.elim
    | some w =>
      simp only [e] at q
      cases w <;> first | exact q.elim | skip
      rename_i d
      obtain ⟨F2, r2, rf, st2⟩ := frz_slot r1 e rv
      obtain ⟨r3, f3, q⟩ := put_core (i := i) (v := .dat d) (H0 := H) (f1.step r1 st2) r2 rf (.inl ⟨d, rfl⟩) h0 q
      exact q _ F2 ex1 H1 r3 f3
end
end Ded
end

section
set_option Elab.async false
set_option linter.all false
set_option maxRecDepth 100000
/-! Returns, branches, targets, stores into dicts, loops. -/
namespace Ded
open PySem L2
section
variable (K : PySem.W.Frag) (en : Entry)
/-- only these slots are given something -/
structure Tgt (ts : List Nat) (s s' : S) (σ σ' : L2.St) : Prop where
  len : σ'.length = σ.length
  off : ∀ j, j ∉ ts → σ'[j]? = σ[j]?
  bo : NB s s'
  ow : ∀ a, Ow s'.ρ σ' a → Ow s.ρ σ a
theorem Tgt.trans {ts us : List Nat} {s s1 s2 : S} {σ σ1 σ2 : L2.St} (a : Tgt ts s s1 σ σ1) (b : Tgt us s1 s2 σ1 σ2) : Tgt (ts ++ us) s s2 σ σ2 :=
  ⟨b.len.trans a.len, fun j h => (b.off j fun m => h (List.mem_append_right _ m)).trans (a.off j fun m => h (List.mem_append_left _ m)), a.bo.trans b.bo, fun x m => a.ow x (b.ow x m)⟩
def GEnds (ts : List Nat) (r : R Unit) (F : Fz) (ex : List Addr) (s : S) (σ : L2.St) (H : Hp) (Q : L2.St → Hp → Prop) : Prop :=
  match r with
  | .ok _ s' => ∀ σ', Tgt ts s s' σ σ' → Rel K F ex s' σ' H → From en F ex s' σ' H → Q σ' H
  | _ => False
def TG' (ts : List Nat) (g : D → M Unit) : TG := fun v σ H Q => ∃ F ex s d, Rel K F ex s σ H ∧ From en F ex s σ H ∧ Rf K F H v d ∧ GEnds K en ts (g d s) F ex s σ H Q
def TGs' (ts : List Nat) (g : List D → M Unit) : TGs := fun vs σ H Q => ∃ F ex s ds, Rel K F ex s σ H ∧ From en F ex s σ H ∧ RfA K F H vs ds ∧ GEnds K en ts (g ds s) F ex s σ H Q
end
section
variable {X : Cx} {en : Entry} {xc : Xc} {Wi : XK} {e : Expr} {es : List Expr} {pos p p' : Pos} {m n : M Val} {st : Stmt} {rest : List Stmt} {i j : Nat} {x y : Str} {g : D → M Unit} {gs : List D → M Unit}
structure PGd (X : Cx) (en : Entry) (e : Expr) (ts : List Nat) (g : D → M Unit) : Prop where
  run : PG X e (TG' X.K en ts g)
  nox : ∀ d s c fs s', g d s ≠ .exc c fs s'
  st : isStar e = false
structure PGsd (X : Cx) (en : Entry) (es : List Expr) (ts : List Nat) (gs : List D → M Unit) : Prop where
  run : PGs X es (TGs' X.K en ts gs)
  nox : ∀ d s c fs s', gs d s ≠ .exc c fs s'
  len : ∀ ds s u s', gs ds s = .ok u s' → ds.length = es.length
  al : (assignEach es X.env).length = es.length
  an : (assignEach es X.env).findIdx? (·.1) = none
theorem PG.imp {t t' : TG} (h : PG X e t) (q : ∀ v σ H Q, t' v σ H Q → t v σ H Q) : PG X e t' := ⟨fun pins s σ H v u Q I r z => h.run pins s σ H v u Q I r (q v σ H Q z)⟩
theorem PGs.imp {t t' : TGs} (h : PGs X es t) (q : ∀ v σ H Q, t' v σ H Q → t v σ H Q) : PGs X es t' := ⟨fun pins s σ H v u Q I r z => h.run pins s σ H v u Q I r (q v σ H Q z)⟩
theorem g_name (hN : X.N.Nodup) (hi : X.N[i]? = some x) (hx : Loc X.env.scope x) (hf : X.fn x = true ∨ X.env.scope.names.lookup x = some .local) : PGd X en (.Name x pos) [i] (gVar i) := by
  refine ⟨PG.imp (pg_name hN hi hx hf) fun v σ H Q ⟨F, ex, s, d, r, f, rf, h⟩ => ?_, fun d s c fs s' e => ?_, rfl⟩
  · unfold gVar putSlot at h
    by_cases hl : i < s.ρ.length
    · rw [if_pos hl] at h
      obtain ⟨r2, f2⟩ := r.assign (i := i) (v := .dat d) (H0 := H) f rf (.inl ⟨d, rfl⟩) (fun a z => f.grow.none z) hl
      refine h _ ⟨List.length_set, fun j hj => List.getElem?_set_ne (fun q => hj (by rw [q]; exact List.mem_singleton.mpr rfl)), .set fun _ => by simp, fun a ⟨j, d1, e1, e2⟩ => ?_⟩ r2 f2
      rcases get_set e1 with ⟨_, z⟩ | ⟨n, z⟩
      · cases z
      · rw [List.getElem?_set_ne n] at e2; exact ⟨j, d1, z, e2⟩
    · rw [if_neg hl] at h; exact h.elim
  · unfold gVar putSlot at e
    split at e <;> cases e
theorem gs_nil : PGsd X en [] [] gNil' := by
  refine ⟨PGs.imp pgs_nil fun v σ H Q ⟨F, ex, s, ds, r, f, rf, h⟩ => ?_, fun d s c fs s' e => ?_, fun ds s u s' e => ?_, rfl, rfl⟩
  · cases rf with
    | nil => exact ⟨rfl, h σ ⟨rfl, fun _ _ => rfl, .refl, fun _ m => m⟩ r f⟩
    | cons a b => exact h.elim
  · cases d <;> cases e
  · cases ds <;> first | rfl | cases e
theorem as_cons (h : isStar e = false) : assignEach (e :: es) X.env = (false, assign e X.env) :: assignEach es X.env := by
  cases e <;> first | rfl | cases h
theorem gs_cons {ts us : List Nat} (h1 : PGd X en e ts g) (h2 : PGsd X en es us gs) : PGsd X en (e :: es) (ts ++ us) (gCons' g gs) := by
  refine ⟨PGs.imp (pgs_cons h1.run h2.run (by rw [as_cons h1.st]; rfl)) fun v σ H Q ⟨F, ex, s, ds, r, f, rf, h⟩ => ?_, fun d s c fs s' e => ?_, fun ds s u s' e => ?_, by rw [as_cons h1.st, List.length_cons, List.length_cons, h2.al], by
    rw [as_cons h1.st, List.findIdx?_cons, h2.an]; rfl⟩
  · cases rf with
    | nil => exact h.elim
    | @cons v vs d ds a b =>
      refine ⟨v, vs, rfl, F, ex, s, d, r, f, a, ?_⟩
      have h : GEnds X.K en (ts ++ us) (M.bind (g d) (fun _ => gs ds) s) F ex s σ H Q := h
      unfold M.bind at h
      cases e1 : g d s with
      | ok u t =>
        rw [e1] at h
        have h : GEnds X.K en (ts ++ us) (gs ds t) F ex s σ H Q := h
        intro σ' tg r' f'
        refine ⟨F, ex, t, ds, r', f', b, ?_⟩
        cases e2 : gs ds t with
        | ok u2 t2 =>
          rw [e2] at h
          exact fun σ2 tg2 r2 f2 => h σ2 (tg.trans tg2) r2 f2
        | exc c fs t => rw [e2] at h; exact h
        | bad => rw [e2] at h; exact h
      | exc c fs t => exact h1.nox _ _ _ _ _ e1
      | bad => rw [e1] at h; exact h
  · cases d with
    | nil => cases e
    | cons d ds =>
      have e : M.bind (g d) (fun _ => gs ds) s = .exc c fs s' := e
      unfold M.bind at e
      cases e1 : g d s with
      | ok u t => rw [e1] at e; exact h2.nox _ _ _ _ _ e
      | exc c fs t => exact h1.nox _ _ _ _ _ e1
      | bad => rw [e1] at e; cases e
  · cases ds with
    | nil => cases e
    | cons d ds =>
      obtain ⟨a, t, e1, e2⟩ := bind_ok (m := g d) (f := fun _ => gs ds) e
      rw [List.length_cons, List.length_cons, h2.len _ _ _ _ e2]
theorem g_tup {k : Nat} {ts : List Nat} (hc : X.calm = true) (h : PGsd X en es ts gs) : PGd X en (.Tuple es k pos) ts (gTup' gs) := by
  refine ⟨PG.imp (pg_tup hc h.run h.al h.an) fun v σ H Q ⟨F, ex, s, d, r, f, rf, q⟩ => ?_, fun d s c fs s' e => ?_, rfl⟩
  · cases d <;> first | exact q.elim | skip
    rename_i ds
    cases rf with
    | @tup a xs _ ef eh z ra =>
      have q : GEnds X.K en ts (gs ds s) F ex s σ H Q := q
      refine ⟨a, xs, rfl, SqT.of eh, ?_, F, ex, s, ds, r, f, ra, q⟩
      cases e1 : gs ds s with
      | ok u t => rw [ra.length]; exact h.len _ _ _ _ e1
      | exc c fs t => rw [e1] at q; exact q.elim
      | bad => rw [e1] at q; exact q.elim
  · cases d <;> first | cases e | skip
    exact h.nox _ _ _ _ _ e
theorem k_set (hN : X.N.Nodup) (hi : X.N[i]? = some x) (hx : Loc X.env.scope x) (hf : X.fn x = true ∨ X.env.scope.names.lookup x = some .local) (he : PEd X en xc Wi e m) (hs : swapsWith e (some (.Name x p)) pos.line X.env = pure false) :
    PS X (.Assign [.Name x p] e pos) (TS' X.K en xc Wi (kSet i m)) := PS.imp (ps_set hN hi hx he hs hf) fun D σ H h => set_core h
theorem k_ret (hM : ∀ a, en.M a → a ∈ en.ex) (he : PEd X en xc Wi e m) : PS X (.Return (some e) pos) (TS' X.K en xc Wi (kRet m)) := by
  refine PS.imp (ps_ret he) fun D σ H ⟨F, ex, s, B, r, f, h⟩ => ?_
  refine ⟨F, ex, s, r, f.fr, (Ends_.flow r f h).imp fun F1 ex1 H1 s1 v e1 r1 st1 ⟨f1, q⟩ x rv => ?_⟩
  have fin : ∀ w, RetV X.K F1 ex1 en.H H1 x w → FEnds X.K en xc Wi B (.ok (.rt w) s1) D → D.rt x H1 := fun w rw q => q F1 ex1 H1 x (xrel_of r1 f1.fr) rw
  cases v with
  | dat d => exact fin (.dat d) rv q
  | own d =>
    obtain ⟨a, rfl, c, nf, nm, nb, n0⟩ := rv
    exact fin (.own d) ⟨a, rfl, c, nf, fun m => nm (.inl m), f.fr.grow.none n0⟩ q
  | ext k => exact fin (.ext k) rv q
  | bor _ => exact q.elim
  | scr _ => exact q.elim
  | loc i =>
    have q : FEnds X.K en xc Wi B (M.bind (fun s => match slot s i with | some (.own d) => R.ok (Val.own d) s | _ => .bad) (fun v => M.ret (Flow.rt v)) s1) D := q
    unfold M.bind at q
    cases e : Ded.slot s1 i with
    | none => simp only [e] at q; exact q.elim
    | some w =>
      simp only [e] at q
      cases w <;> first | exact q.elim | skip
      rename_i d
      have e' := slot_eq.mp e
      obtain ⟨y, e2, a, rfl, c, nf, nx⟩ := r1.slot i _ e'
      have rv : σ[i]? = some (some x) := rv
      rw [rv] at e2; cases e2
      refine fin (.own d) ⟨a, rfl, c, nf, nx, ?_⟩ q
      rcases f1.fr.grow.mnew a (.inr ⟨i, d, e', rv⟩) with z | z
      · exact absurd (f1.fr.pre.subset (hM a z)) nx
      · exact z
theorem k_ite {c : Expr} {a b : List Stmt} {t : M Bool} {u v : M Flow} (hc : PTd X en xc Wi c t) (ha : PSs X a (TS' X.K en xc Wi u)) (hb : PSs X b (TS' X.K en xc Wi v)) : PS X (.If c a b pos) (TS' X.K en xc Wi (kIte t u v)) := by
  refine PS.imp (ps_if hc ha hb) fun D σ H ⟨F, ex, s, B, r, f, h⟩ => ⟨F, ex, s, r, f.fr, (Ends_.flow r f h).imp fun F1 ex1 H1 s1 b e1 r1 st1 ⟨f1, q⟩ => ?_⟩
  cases b with
  | true => rw [if_pos rfl]; exact ⟨F1, ex1, s1, B, r1, f1, q⟩
  | false => rw [if_neg Bool.false_ne_true]; exact ⟨F1, ex1, s1, B, r1, f1, q⟩
/-- a target's store, then the rest -/
theorem store_then {ts : List Nat} {σ : L2.St} {F : Fz} {ex : List Addr} {s : S} {H : Hp} {En : Ends} {B : Bs} {d : D} {k : Unit → M Flow} {Q : L2.St → Hp → Prop} (hg : ∀ d s c fs s', g d s ≠ .exc c fs s') (f : FromL en B F ex s σ H) (h : FEnds X.K en xc Wi B (M.bind (g d) k s) En)
    (hQ : ∀ t σ', Rel X.K F ex t σ' H → FromL en B F ex t σ' H → FEnds X.K en xc Wi B (k () t) En → Q σ' H) : GEnds X.K en ts (g d s) F ex s σ H Q := by
  unfold M.bind at h
  cases e : g d s with
  | ok u t => rw [e] at h; exact fun σ' _ r f' => hQ t σ' r (f.with f') h
  | exc c fs t => exact absurd e (hg _ _ _ _ _)
  | bad => rw [e] at h; exact h.elim
theorem k_asg {tg : Expr} {ts : List Nat} (he : PEd X en xc Wi e m) (hg : PGd X en tg ts g) (hs : swapsWithSole [tg] e pos.line X.env = pure false) (hw : swappedStores [tg] e X.env = pure none) : PS X (.Assign [tg] e pos) (TS' X.K en xc Wi (kAsg g m)) := by
  refine PS.imp (ps_asg he hg.run hs hw (by rw [as_cons hg.st]; rfl)) fun D σ H ⟨F, ex, s, B, r, f, h⟩ => T1.fz ⟨F, ex, s, r, f.fr, (Ends_.flow (m := mFrz m) r f h).imp fun F1 ex1 H1 s1 d e1 r1 st1 ⟨f1, q⟩ x rx => ?_⟩
  exact ⟨F1, ex1, s1, d, r1, f1.fr, rx, store_then hg.nox f1 q fun t σ' r f q => q σ' F1 ex1 H1 r f⟩
theorem k_par {a b : Expr} {px py pt : Pos} {kt k2 pt2} (hc : X.calm = true) (hN : X.N.Nodup) (hi : X.N[i]? = some x) (hj : X.N[j]? = some y) (hij : i ≠ j) (hx : X.env.scope.names.lookup x = some .local) (hy : X.env.scope.names.lookup y = some .local)
    (ha : PEd X en xc Wi a m) (hb : PEd X en xc Wi b n) (ca : isStar a = false) (cb : isStar b = false) (hw : swappedStores [.Tuple [.Name x px, .Name y py] kt pt] (.Tuple [a, b] k2 pt2) X.env = pure (some [x, y])) :
    PS X (.Assign [.Tuple [.Name x px, .Name y py] kt pt] (.Tuple [a, b] k2 pt2) pos) (TS' X.K en xc Wi (kPar i j m n)) := by
  have l : PA X [a, b] (TL X.K en xc Wi (RFz X.K) (lCons (mFrz m) (lCons (mFrz n) lNil))) := l_cons st_fz (d_frz ha) (l_cons st_fz (d_frz hb) l_nil (star_cons cb)) (star_cons ca)
  refine PS.imp (ps_par hc hN hi hj hij hx hy l hw) fun D σ H ⟨F, ex, s, B, r, f, h⟩ => ⟨F, ex, s, r, f.fr, (Ends_.flow r f h).imp fun F1 ex1 H1 s1 ds e1 r1 st1 ⟨f1, q⟩ xs rs => ?_⟩
  cases rs with
  | nil => exact q.elim
  | @cons v d1 vs ds a as =>
    cases as with
    | nil => exact q.elim
    | @cons w d2 ws ds a2 as2 =>
      cases as2 with
      | cons _ _ => exact q.elim
      | nil =>
        have a : Rf X.K F1 H1 v d1 := a
        have a2 : Rf X.K F1 H1 w d2 := a2
        have h0 : ∀ a, H1 a = none → en.H a = none := fun a z => f1.fr.grow.none z
        obtain ⟨r2, f2, q⟩ := put_core (i := i) (v := .dat d1) (H0 := H1) f1 r1 a (.inl ⟨d1, rfl⟩) h0 q
        obtain ⟨r3, f3, q⟩ := put_core (i := j) (v := .dat d2) (H0 := H1) f2 r2 a2 (.inl ⟨d2, rfl⟩) h0 q
        exact ⟨v, w, rfl, q _ F1 ex1 H1 r3 f3⟩
/-- while: as many turns as the evaluator lets -/
theorem k_whl {c : Expr} {body : List Stmt} {t : M Bool} {b : M Flow} {L : Nat} (hp : PassesOwn (model X.prog X.w) X.A X.env X.xe) (hc : PTd X en xc Wi c t) (hb : PSs X body (TS' X.K en xc Wi b)) : PS X (.While c body [] pos) (TS' X.K en xc Wi (kWhl L t b)) := by
  refine PS.imp (ps_while hp hc hb) fun D σ H ⟨F, ex, s, B, r, f, h⟩ => ?_
  refine ⟨fun n σ H => ∃ F ex s, Rel X.K F ex s σ H ∧ FromL en B F ex s σ H ∧ FEnds X.K en xc Wi B (whileLoop t b n s) D, ⟨L, F, ex, s, r, f, h⟩, ?_⟩
  rintro n σ H ⟨F, ex, s, r, f, h⟩
  cases n with
  | zero => exact h.elim
  | succ n =>
    refine ⟨F, ex, s, r, f.fr, (Ends_.flow (m := t) r f h).imp fun F1 ex1 H1 s1 z e1 r1 st1 ⟨f1, q⟩ => ?_⟩
    cases z with
    | false => rw [if_neg Bool.false_ne_true]; exact q σ F1 ex1 H1 r1 f1
    | true =>
      rw [if_pos rfl]
      refine ⟨fun σ H => ∃ F ex s, Rel X.K F ex s σ H ∧ FromL en B F ex s σ H ∧ FEnds X.K en xc Wi B (whileLoop t b n s) D, fun σ' H' w => ⟨n, Nat.lt_succ_self n, w⟩, F1, ex1, s1, B, r1, f1, ?_⟩
      exact FEnds.bindf q (fun t q σ' F' ex' H' r f => ⟨F', ex', t, r, f, q⟩) (fun t q => q) (fun t q σ' F' ex' H' r f => ⟨F', ex', t, r, f, q⟩) fun v t q => q
end
/-- an iterator yields these, one after another -/
structure ItemsOk (K : PySem.W.Frag) (F : Fz) (H : Hp) (J : It) (ds : List D) : Prop where
  stop : ∀ H2 i, Kp F H H2 → ds.length ≤ i → J.stop i H2
  go : ∀ H2 i, Kp F H H2 → i < ds.length → J.go i H2
  yld : ∀ H2 F2 i x H3, Kp F H H2 → (∀ a, F a → F2 a) → (∀ a, F2 a → ∃ o, H2 a = some o) → J.yld i H2 x H3 → ∀ d, ds[i]? = some d → ∃ F3, New F2 H2 F3 H3 ∧ Rf K F3 H3 x d
def TI' (K : PySem.W.Frag) (en : Entry) (xc : Xc) (Wi : XK) (w : M (List D)) : TI := fun σ H R => ∃ F ex s, Rel K F ex s σ H ∧ From en F ex s σ H ∧ Ends_ K en xc Wi (w s) F ex s σ H fun F' ex' H' s' ds => ∀ J, ItemsOk K F' H' J ds → R J H'
section
variable {X : Cx} {en : Entry} {xc : Xc} {Wi : XK} {e : Expr} {es : List Expr} {pos : Pos} {g : D → M Unit}
theorem k_for {tg iter : Expr} {body : List Stmt} {w : M (List D)} {b : M Flow} (hp : PassesOwn (model X.prog X.w) X.A X.env X.xe) (hc : X.calm = true) {ts : List Nat} (hi : PI X tg iter (TI' X.K en xc Wi w)) (hg : PGd X en tg ts g) (hb : PSs X body (TS' X.K en xc Wi b))
    (hs : ∀ x, foldedSetIterable iter X.env x = pure x) : PS X (.For tg iter body [] pos) (TS' X.K en xc Wi (kFor g w b)) := by
  refine PS.imp (ps_for hp hc hi hg.run hb hs) fun D σ H ⟨F, ex, s, B, r, f, h⟩ => ⟨F, ex, s, r, f.fr, (Ends_.flow (m := w) r f h).imp fun F1 ex1 H1 s1 ds e1 r1 st1 ⟨f1, q⟩ J hJ => ?_⟩
  have wide : ∀ {F' : Fz} {ex' : List Addr} {s' : S} {σ' : L2.St} {H' : Hp}, FromL en ⟨F1, H1⟩ F' ex' s' σ' H' → FromL en B F' ex' s' σ' H' := fun g =>
    ⟨g.fr, fun a z => g.lm a (f1.lm a z), fun a o z e => g.lk a o (f1.lm a z) (f1.lk a o z e)⟩
  refine ⟨fun i n σ H => n = ds.length - i ∧ ∃ F ex s, Rel X.K F ex s σ H ∧ FromL en ⟨F1, H1⟩ F ex s σ H ∧ FEnds X.K en xc Wi B (forLoop (fun d => M.bind (g d) fun _ => b) (ds.drop i) s) D,
    ⟨ds.length - 0, rfl, F1, ex1, s1, r1, ⟨f1.fr, fun a z => z, fun _ _ _ z => z⟩, q⟩, ?_⟩
  rintro i n σ H ⟨rfl, F, ex, s, r, f, h⟩
  by_cases hlt : i < ds.length
  · refine .inr ⟨hJ.go H i f.lk hlt, fun σ H => ∃ F ex s, Rel X.K F ex s σ H ∧ FromL en ⟨F1, H1⟩ F ex s σ H ∧ FEnds X.K en xc Wi B (forLoop (fun d => M.bind (g d) fun _ => b) (ds.drop (i + 1)) s) D, fun σ' H' w => ⟨ds.length - (i + 1), by omega, rfl, w⟩, fun x H3 y => ?_⟩
    obtain ⟨F3, nw, rf⟩ := hJ.yld H F i x H3 f.lk f.lm r.fdom y ds[i] (List.getElem?_eq_getElem hlt)
    have r3 := r.new nw
    have f3 := f.step r ⟨nw.grow _, List.prefix_refl _, .refl⟩
    have e2 : ds.drop i = ds[i] :: ds.drop (i + 1) := List.drop_eq_getElem_cons hlt
    rw [e2] at h
    have h : FEnds X.K en xc Wi B (M.bind (M.bind (g ds[i]) fun _ => b) _ s) D := h
    rw [bind_bind] at h
    refine ⟨F3, ex, s, ds[i], r3, f3.fr, rf, store_then (B := B) hg.nox (wide f3) h fun t σ' r4 f4 q => ⟨F3, ex, t, ⟨F1, H1⟩, r4, f3.with f4.fr, ?_⟩⟩
    exact FEnds.bindf (m := b) (B' := ⟨F1, H1⟩) q (fun t q σ' F' ex' H' r f => ⟨F', ex', t, r, f, q⟩) (fun t q σ' F' ex' H' r f => q σ' F' ex' H' r (wide f)) (fun t q σ' F' ex' H' r f => ⟨F', ex', t, r, f, q⟩) fun v t q => q
  · have e2 : ds.drop i = [] := List.drop_eq_nil_of_le (by omega)
    rw [e2] at h
    exact .inl ⟨hJ.stop H i f.lk (by omega), h σ F ex H r (wide f)⟩
end
end Ded
end

section
set_option Elab.async false
set_option linter.all false
set_option maxRecDepth 100000
/-! What a loop or a comprehension goes through; stores into dicts. -/
namespace Ded
open PySem L2
section
variable {K : PySem.W.Frag} {F : Fz} {H : Hp} {a b : Addr} {xs ys : List V} {ds es : List D}
theorem Kp.sqL {H2 : Hp} (kp : Kp F H H2) (fa : F a) (e : H a = some (.lst xs)) : SqL K H2 a xs := SqL.of (kp a _ fa e)
theorem Kp.sqT {H2 : Hp} (kp : Kp F H H2) (fa : F a) (e : H a = some (.tup xs)) : SqT K H2 a xs := SqT.of (kp a _ fa e)
theorem RfA.at {i : Nat} (r : RfA K F H xs ds) (hi : i < ds.length) : ∃ v, xs[i]? = some v ∧ Rf K F H v ds[i] := r.get (List.getElem?_eq_getElem hi)
theorem items_lst (fa : F a) (e : H a = some (.lst xs)) (r : RfA K F H xs ds) : ItemsOk K F H (Itl K a) ds where
  stop := fun H2 i kp hi => ⟨xs, kp.sqL fa e, by rw [r.length]; exact hi⟩
  go := fun H2 i kp hi => let ⟨v, hv, _⟩ := r.at hi; ⟨xs, v, kp.sqL fa e, hv⟩
  yld := fun H2 F2 i x H3 kp hF hd y d hd' => by
    obtain ⟨rfl, y⟩ := y
    obtain ⟨v, hv, rv⟩ := r.get hd'
    have := y xs (kp.sqL fa e)
    rw [hv] at this; cases this
    exact ⟨F2, New.refl hd, rv.mono hF kp⟩
theorem items_tup (fa : F a) (e : H a = some (.tup xs)) (r : RfA K F H xs ds) : ItemsOk K F H (Itt K a) ds where
  stop := fun H2 i kp hi => ⟨xs, kp.sqT fa e, by rw [r.length]; exact hi⟩
  go := fun H2 i kp hi => let ⟨v, hv, _⟩ := r.at hi; ⟨xs, v, kp.sqT fa e, hv⟩
  yld := fun H2 F2 i x H3 kp hF hd y d hd' => by
    obtain ⟨rfl, y⟩ := y
    obtain ⟨v, hv, rv⟩ := r.get hd'
    have := y xs (kp.sqT fa e)
    rw [hv] at this; cases this
    exact ⟨F2, New.refl hd, rv.mono hF kp⟩
theorem items_str (z : Str) : ItemsOk K F H (Its z) (z.cps.toList.map fun c => .str ⟨#[c]⟩) where
  stop := fun H2 i kp hi => by
    rw [List.length_map, Array.length_toList] at hi
    exact hi
  go := fun H2 i kp hi => by
    rw [List.length_map, Array.length_toList] at hi
    exact hi
  yld := fun H2 F2 i x H3 kp hF hd y d hd' => by
    obtain ⟨rfl, c, hc, rfl⟩ := y
    rw [List.getElem?_map, Array.getElem?_toList, hc] at hd'
    cases hd'
    exact ⟨F2, New.refl hd, .str _⟩
theorem items_rng (lo : Int) (n : Nat) : ItemsOk K F H (Itr lo n) ((List.range n).map fun k => .int (lo + (k : Nat))) where
  stop := fun H2 i kp hi => by
    rw [List.length_map, List.length_range] at hi
    exact hi
  go := fun H2 i kp hi => by
    rw [List.length_map, List.length_range] at hi
    exact hi
  yld := fun H2 F2 i x H3 kp hF hd y d hd' => by
    obtain ⟨rfl, rfl⟩ := y
    rw [List.getElem?_map] at hd'
    obtain ⟨k, hk, rfl⟩ := Option.map_eq_some_iff.mp hd'
    have hk' := (List.getElem?_eq_some_iff.mp hk).2
    rw [List.getElem_range] at hk'
    subst hk'
    exact ⟨F2, New.refl hd, .int _⟩
theorem pair_new {H2 : Hp} {F2 : Fz} {T : Addr} {x y : V} {dx dy : D} (hd : ∀ a, F2 a → ∃ o, H2 a = some o) (hT : H2 T = none) (rx : Rf K F2 H2 x dx) (ry : Rf K F2 H2 y dy) :
    ∃ F3, New F2 H2 F3 (upd H2 T (.tup [x, y])) ∧ Rf K F3 (upd H2 T (.tup [x, y])) (.ref T) (.tuple [dx, dy]) := by
  have n := New.frz hd hT (.tup [x, y])
  exact ⟨_, n, .tup (.inr rfl) upd_same (by show 2 ≤ sizeLine; decide) (.cons (rx.mono n.fmono n.kp) (.cons (ry.mono n.fmono n.kp) .nil))⟩
theorem zip_at {d : D} {i : Nat} (h : ((ds.zip es).map fun p => PyData.tuple [p.1, p.2])[i]? = some d) : ∃ x y, ds[i]? = some x ∧ es[i]? = some y ∧ d = .tuple [x, y] := by
  rw [List.getElem?_map] at h
  obtain ⟨p, hp, rfl⟩ := Option.map_eq_some_iff.mp h
  obtain ⟨h1, h2⟩ := List.getElem?_zip_eq_some.mp hp
  exact ⟨p.1, p.2, h1, h2, rfl⟩
theorem items_zipL (fa : F a) (e : H a = some (.lst xs)) (r : RfA K F H xs ds) (fb : F b) (e' : H b = some (.lst ys)) (r' : RfA K F H ys es) : ItemsOk K F H (Itz K a b) ((ds.zip es).map fun p => .tuple [p.1, p.2]) where
  stop := fun H2 i kp hi => ⟨xs, ys, kp.sqL fa e, kp.sqL fb e', by rw [List.length_map, List.length_zip] at hi; rw [r.length, r'.length]; omega⟩
  go := fun H2 i kp hi => by
    rw [List.length_map, List.length_zip] at hi
    obtain ⟨v, hv, _⟩ := r.at (i := i) (by omega)
    obtain ⟨w, hw, _⟩ := r'.at (i := i) (by omega)
    exact ⟨xs, ys, v, w, kp.sqL fa e, kp.sqL fb e', hv, hw⟩
  yld := fun H2 F2 i x H3 kp hF hd y d hd' => by
    obtain ⟨T, p, q, rfl, hT, rfl, y1, y2⟩ := y
    obtain ⟨dx, dy, h1, h2, rfl⟩ := zip_at hd'
    obtain ⟨v, hv, rv⟩ := r.get h1
    obtain ⟨w, hw, rw'⟩ := r'.get h2
    have z1 := y1 xs (kp.sqL fa e)
    have z2 := y2 ys (kp.sqL fb e')
    rw [hv] at z1; rw [hw] at z2; cases z1; cases z2
    exact pair_new hd hT (rv.mono hF kp) (rw'.mono hF kp)
theorem items_zipT (fa : F a) (e : H a = some (.tup xs)) (r : RfA K F H xs ds) (fb : F b) (e' : H b = some (.tup ys)) (r' : RfA K F H ys es) : ItemsOk K F H (RZ.ItzT K a b) ((ds.zip es).map fun p => .tuple [p.1, p.2]) where
  stop := fun H2 i kp hi => ⟨xs, ys, kp.sqT fa e, kp.sqT fb e', by rw [List.length_map, List.length_zip] at hi; rw [r.length, r'.length]; omega⟩
  go := fun H2 i kp hi => by
    rw [List.length_map, List.length_zip] at hi
    obtain ⟨v, hv, _⟩ := r.at (i := i) (by omega)
    obtain ⟨w, hw, _⟩ := r'.at (i := i) (by omega)
    exact ⟨xs, ys, v, w, kp.sqT fa e, kp.sqT fb e', hv, hw⟩
  yld := fun H2 F2 i x H3 kp hF hd y d hd' => by
    obtain ⟨T, p, q, rfl, hT, rfl, y1, y2⟩ := y
    obtain ⟨dx, dy, h1, h2, rfl⟩ := zip_at hd'
    obtain ⟨v, hv, rv⟩ := r.get h1
    obtain ⟨w, hw, rw'⟩ := r'.get h2
    have z1 := y1 xs (kp.sqT fa e)
    have z2 := y2 ys (kp.sqT fb e')
    rw [hv] at z1; rw [hw] at z2; cases z1; cases z2
    exact pair_new hd hT (rv.mono hF kp) (rw'.mono hF kp)
theorem items_enum (fa : F a) (e : H a = some (.lst xs)) (r : RfA K F H xs ds) : ItemsOk K F H (Ite K a) ((ds.zipIdx).map fun p => .tuple [.int (p.2 : Nat), p.1]) where
  stop := fun H2 i kp hi => ⟨xs, kp.sqL fa e, by rw [List.length_map, List.length_zipIdx] at hi; rw [r.length]; exact hi⟩
  go := fun H2 i kp hi => by
    rw [List.length_map, List.length_zipIdx] at hi
    obtain ⟨v, hv, _⟩ := r.at hi
    exact ⟨xs, v, kp.sqL fa e, hv⟩
  yld := fun H2 F2 i x H3 kp hF hd y d hd' => by
    obtain ⟨T, q, rfl, hT, rfl, y1⟩ := y
    rw [List.getElem?_map] at hd'
    obtain ⟨p, hp, rfl⟩ := Option.map_eq_some_iff.mp hd'
    rw [List.getElem?_zipIdx] at hp
    obtain ⟨d, h1, rfl⟩ := Option.map_eq_some_iff.mp hp
    obtain ⟨v, hv, rv⟩ := r.get h1
    have z1 := y1 xs (kp.sqL fa e)
    rw [hv] at z1; cases z1
    have := pair_new (K := K) hd hT (.int ((i : Nat) : Int)) (rv.mono hF kp)
    simpa using this
end
section
variable {X : Cx} {tg : Expr}
/-- through a list, a tuple or a text, whichever it is -/
def iDen (K : PySem.W.Frag) (te : TE) : TI := fun σ H R => te σ H fun x H1 => (∃ a xs, x = .ref a ∧ SqL K H1 a xs ∧ R (Itl K a) H1) ∨ (∃ a xs, x = .ref a ∧ SqT K H1 a xs ∧ R (Itt K a) H1) ∨ ∃ z, x = .str z ∧ R (Its z) H1
theorem pi_den {e : Expr} {te : TE} (he : PE X e te) : PI X tg e (iDen X.K te) := by
  refine ⟨fun pins s σ H R I h => thn (he.run pins s σ H _ I h) fun v s1 ⟨x, H1, I1, rx, q⟩ => ?_⟩
  rcases q with ⟨a, xs, rfl, sq, q⟩ | ⟨a, xs, rfl, sq, q⟩ | ⟨z, rfl, q⟩
  · cases rx
    obtain ⟨its, rv, p, hz⟩ := I1.list sq
    exact wpAny_pyIter_list p.isList (pi_one (tk := s1.toks) I1 _ (turn_list a _) ⟨_, Heap.get?_push_size _ rfl, rfl, rfl⟩ q)
  · cases rx
    obtain ⟨its, rv, p, hz⟩ := I1.tuple sq
    exact wpAny_pyIter_tuple (show s1.heap.IsTuple a its.toArray from p) (pi_one (tk := s1.toks) I1 _ (turn_tuple a _) ⟨_, Heap.get?_push_size _ rfl, rfl, rfl⟩ q)
  · obtain ⟨t, rfl⟩ := rx
    cases ha : z.cps.all (· < 128)
    · exact wpAny_pyIter_wide ha (pi_one (tk := s1.toks) I1 _ (turn_str _ z t "str_iterator" (.inr rfl)) ⟨_, Heap.get?_push_size _ rfl, rfl, rfl⟩ q)
    · exact wpAny_pyIter_ascii ha (pi_one (tk := s1.toks) I1 _ (turn_str _ z t "str_ascii_iterator" (.inl rfl)) ⟨_, Heap.get?_push_size _ rfl, rfl, rfl⟩ q)
theorem PI.imp {e : Expr} {w w' : TI} (h : PI X tg e w) (q : ∀ σ H R, w' σ H R → w σ H R) : PI X tg e w' := ⟨fun pins s σ H R I z => h.run pins s σ H R I (q σ H R z)⟩
end
section
variable {X : Cx} {en : Entry} {xc : Xc} {Wi : XK} {e e2 : Expr} {es : List Expr} {pos p tpos : Pos} {m n : M Val} {tg : Expr} {elts : List Expr} {kk : Nat}
abbrev PId (X : Cx) (en : Entry) (xc : Xc) (Wi : XK) (tg e : Expr) (w : M (List D)) : Prop := PI X tg e (TI' X.K en xc Wi w)
theorem w_of (he : PEd X en xc Wi e m) : PId X en xc Wi tg e (wOf m) := by
  refine PI.imp (pi_den he) fun σ H R ⟨F, ex, s, r, f, h⟩ => T1.fz ⟨F, ex, s, r, f, (Ends_.bind (m := mFrz m) h).imp fun F1 ex1 H1 s1 d e1 r1 st1 q x rx => ?_⟩
  obtain ⟨ds, ei, q2⟩ := q.opt
  replace q := q2 F1 ex1 H1 r1 st1
  clear q2
  have rx : Rf X.K F1 H1 x d := rx
  cases d <;> cases ei
  · cases rx
    exact .inr (.inr ⟨_, rfl, q _ (items_str _)⟩)
  · cases rx with
    | lst fa eh z ra => exact .inl ⟨_, _, rfl, SqL.of eh, q (Itl X.K _) (items_lst fa eh ra)⟩
  · cases rx with
    | tup fa eh z ra => exact .inr (.inl ⟨_, _, rfl, SqT.of eh, q (Itt X.K _) (items_tup fa eh ra)⟩)
theorem rng_core {l : M (List Val)} {σ : L2.St} {H : Hp} {R : It → Hp → Prop} (h : TI' X.K en xc Wi (wRange l) σ H R) :
    TL X.K en xc Wi (ROp X.K) l σ H fun vs H1 => (∃ j : Int, vs = [.int j] ∧ -(2 ^ 62) ≤ j ∧ j < 2 ^ 62 ∧ R (Itr 0 j.toNat) H1) ∨ ∃ i j : Int, vs = [.int i, .int j] ∧ (-(2 ^ 62) ≤ i ∧ i < 2 ^ 62 ∧ -(2 ^ 62) ≤ j ∧ j < 2 ^ 62) ∧ R (Itr i (j - i).toNat) H1 := by
  obtain ⟨F, ex, s, r, fr, h⟩ := h
  refine ⟨F, ex, s, r, fr, (Ends_.bind (m := l) h).imp fun F1 ex1 H1 s1 vs e1 r1 st1 q xs rs => ?_⟩
  obtain ⟨ds, ra, q⟩ := peeks_all r1 rs q
  obtain ⟨ks, p, q2⟩ := q.opt
  replace q := q2 F1 ex1 H1 r1 st1
  clear q2
  unfold rangeD at p
  split at p
  · split at p <;> cases p
    rename_i hj
    obtain ⟨x, rfl, hx⟩ := ra.one
    cases rt_int hx
    refine .inl ⟨_, rfl, (fit62_iff.mp hj).1, (fit62_iff.mp hj).2, q _ ?_⟩
    have z : ∀ n : Nat, ItemsOk X.K F1 H1 (Itr 0 n) ((List.range n).map fun k => .int (k : Nat)) := fun n => by
      have := items_rng (K := X.K) (F := F1) (H := H1) 0 n
      simpa using this
    exact z _
  · split at p <;> cases p
    rename_i hj
    obtain ⟨x, y, rfl, hx, hy⟩ := ra.two
    cases rt_int hx; cases rt_int hy
    exact .inr ⟨_, _, rfl, ⟨(fit62_iff.mp hj.1).1, (fit62_iff.mp hj.1).2, (fit62_iff.mp hj.2).1, (fit62_iff.mp hj.2).2⟩, q _ (items_rng _ _)⟩
  · cases p
theorem TL.imp {α : Type} {Rr : RVx α} {l : M (List α)} {σ : L2.St} {H : Hp} {Q Q' : List V → Hp → Prop} (h : TL X.K en xc Wi Rr l σ H Q) (q : ∀ vs H, Q vs H → Q' vs H) : TL X.K en xc Wi Rr l σ H Q' := by
  obtain ⟨F, ex, s, r, fr, h⟩ := h
  exact ⟨F, ex, s, r, fr, h.imp fun F1 ex1 H1 s1 vs e1 r1 st1 z xs rs => q _ _ (z xs rs)⟩
/-- how many -/
def nLen {α : Type} (l : M (List α)) (n : Nat) : Prop := ∀ s as t, l s = .ok as t → as.length = n
theorem TL.len {α : Type} {Rr : RVx α} {l : M (List α)} {k : Nat} (hn : nLen l k) {σ : L2.St} {H : Hp} {Q : List V → Hp → Prop} (h : TL X.K en xc Wi Rr l σ H Q) : TL X.K en xc Wi Rr l σ H fun vs H => vs.length = k ∧ Q vs H := by
  obtain ⟨F, ex, s, r, fr, h⟩ := h
  exact ⟨F, ex, s, r, fr, h.imp fun F1 ex1 H1 s1 vs e1 r1 st1 z xs rs => ⟨rs.length.trans (hn _ _ _ e1), z xs rs⟩⟩
theorem nLen.nil {α : Type} : nLen (lNil : M (List α)) 0 := fun s as t e => by cases e; rfl
theorem nLen.cons {α : Type} {m : M α} {l : M (List α)} {k : Nat} (h : nLen l k) : nLen (lCons m l) (k + 1) := fun s as t e => by
  obtain ⟨a, t1, e1, e⟩ := bind_ok (m := m) e
  obtain ⟨b, t2, e2, e⟩ := bind_ok (m := l) e
  cases e
  rw [List.length_cons, h _ _ _ e2]
theorem w_range1 (hg : Gl X "range") (hm : X.mg "range" = none) (ha : PEd X en xc Wi e m) (hs : isStar e = false) : PId X en xc Wi tg (.Call (.Name "range" p) [e] [] pos) (wRange (lCons (mOpd m) lNil)) := by
  have l : PA X [e] (TL X.K en xc Wi (ROp X.K) (lCons (mOpd m) lNil)) := l_cons st_op (d_opd ha) l_nil (star_cons hs)
  refine PI.imp (pi_range1 hg hm l (star_cons hs)) fun σ H R h => TL.imp (TL.len (.cons .nil) (rng_core h)) fun vs H1 ⟨hl, q⟩ => ?_
  rcases q with q | ⟨i, j, rfl, _⟩
  · exact q
  · cases hl
theorem w_range2 (hg : Gl X "range") (hm : X.mg "range" = none) (ha : PEd X en xc Wi e m) (hb : PEd X en xc Wi e2 n) (hs : isStar e = false) (hs2 : isStar e2 = false) : PId X en xc Wi tg (.Call (.Name "range" p) [e, e2] [] pos) (wRange (lCons (mOpd m) (lCons (mOpd n) lNil))) := by
  have l : PA X [e, e2] (TL X.K en xc Wi (ROp X.K) (lCons (mOpd m) (lCons (mOpd n) lNil))) := l_cons st_op (d_opd ha) (l_cons st_op (d_opd hb) l_nil (star_cons hs2)) (star_cons hs)
  refine PI.imp (pi_range2 hg hm l (by rw [star_cons hs, star_cons hs2]; rfl) (star_cons hs2)) fun σ H R h => TL.imp (TL.len (.cons (.cons .nil)) (rng_core h)) fun vs H1 ⟨hl, q⟩ => ?_
  rcases q with ⟨j, rfl, _⟩ | q
  · cases hl
  · exact q
theorem w_zip (hg : Gl X "zip") (hm : X.mg "zip" = none) (ha : PEd X en xc Wi e m) (hb : PEd X en xc Wi e2 n) (hs : isStar e = false) (hs2 : isStar e2 = false) : PId X en xc Wi (.Tuple elts kk tpos) (.Call (.Name "zip" p) [e, e2] [] pos) (wZip (lCons (mFrz m) (lCons (mFrz n) lNil))) := by
  have l : PA X [e, e2] (TL X.K en xc Wi (RFz X.K) (lCons (mFrz m) (lCons (mFrz n) lNil))) := l_cons st_fz (d_frz ha) (l_cons st_fz (d_frz hb) l_nil (star_cons hs2)) (star_cons hs)
  refine PI.imp (RZ.pi_zipA hg hm l (star_cons hs) (by rw [star_cons hs2]; rfl)) fun σ H R ⟨F, ex, s, r, f, h⟩ => ⟨F, ex, s, r, f, (Ends_.bind (m := lCons (mFrz m) (lCons (mFrz n) lNil)) h).imp fun F1 ex1 H1 s1 ds e1 r1 st1 q xs rs => ?_⟩
  obtain ⟨ks, ei, q2⟩ := q.opt
  replace q := q2 F1 ex1 H1 r1 st1
  clear q2
  unfold zipD at ei
  split at ei <;> cases ei
  · cases rfa_of rs with
    | cons a b =>
      cases b with
      | cons b c =>
        cases c
        cases a with
        | lst fa eh z ra =>
          cases b with
          | lst fb eh' z' rb => exact ⟨_, _, _, _, rfl, .inl ⟨SqL.of eh, SqL.of eh', q _ (items_zipL fa eh ra fb eh' rb)⟩⟩
  · cases rfa_of rs with
    | cons a b =>
      cases b with
      | cons b c =>
        cases c
        cases a with
        | tup fa eh z ra =>
          cases b with
          | tup fb eh' z' rb => exact ⟨_, _, _, _, rfl, .inr ⟨SqT.of eh, SqT.of eh', q _ (items_zipT fa eh ra fb eh' rb)⟩⟩
theorem w_enum (hg : Gl X "enumerate") (hm : X.mg "enumerate" = none) (ha : PEd X en xc Wi e m) (hs : isStar e = false) : PId X en xc Wi (.Tuple elts kk tpos) (.Call (.Name "enumerate" p) [e] [] pos) (wEnum (lCons (mFrz m) lNil)) := by
  have l : PA X [e] (TL X.K en xc Wi (RFz X.K) (lCons (mFrz m) lNil)) := l_cons st_fz (d_frz ha) l_nil (star_cons hs)
  refine PI.imp (pi_enum hg hm l (star_cons hs)) fun σ H R ⟨F, ex, s, r, f, h⟩ => ⟨F, ex, s, r, f, (Ends_.bind (m := lCons (mFrz m) lNil) h).imp fun F1 ex1 H1 s1 ds e1 r1 st1 q xs rs => ?_⟩
  obtain ⟨ks, ei, q2⟩ := q.opt
  replace q := q2 F1 ex1 H1 r1 st1
  clear q2
  unfold enumD at ei
  split at ei <;> cases ei
  cases rfa_of rs with
  | cons a b =>
    cases b
    cases a with
    | lst fa eh z ra => exact ⟨_, _, rfl, SqL.of eh, q _ (items_enum fa eh ra)⟩
end
/-! ### dicts -/
section
variable {K : PySem.W.Frag} {F : Fz} {H : Hp}
theorem RfK.any : ∀ {kvs : List (Key × V)} {es : List (D × D)} (k : Key), RfK K F H kvs es → (kvs.any fun kv => decide (kv.1 = k)) = es.any fun kv => sameKey kv.1 (kd k)
  | _, _, k, .nil => rfl
  | _, _, k, .cons a r => by rw [List.any_cons, List.any_cons, RfK.any k r, kd_inj]
theorem RfK.map {v : V} {d : D} (k : Key) (hv : Rf K F H v d) : ∀ {kvs : List (Key × V)} {es : List (D × D)}, RfK K F H kvs es →
    RfK K F H (kvs.map fun kv => if kv.1 = k then (kv.1, v) else kv) (es.map fun kv => if sameKey kv.1 (kd k) = true then (kv.1, d) else kv)
  | _, _, .nil => .nil
  | (k', w) :: kvs, (_, e) :: es, .cons a r => by
    rw [List.map_cons, List.map_cons]
    dsimp only
    rw [kd_inj]
    by_cases h : k' = k
    · rw [if_pos h, if_pos (decide_eq_true h)]; exact .cons hv (RfK.map k hv r)
    · rw [if_neg h, if_neg (by simpa using h)]; exact .cons a (RfK.map k hv r)
theorem RfK.append : ∀ {kvs kws : List (Key × V)} {es fs : List (D × D)}, RfK K F H kvs es → RfK K F H kws fs → RfK K F H (kvs ++ kws) (es ++ fs)
  | _, _, _, _, .nil, h => h
  | _, _, _, _, .cons a r, h => .cons a (RfK.append r h)
theorem RfK.put {kvs : List (Key × V)} {es : List (D × D)} {v : V} {d : D} (k : Key) (r : RfK K F H kvs es) (hv : Rf K F H v d) : RfK K F H (putK kvs k v) (putIn es (kd k) d) := by
  unfold putK putIn
  rw [r.any k]
  split
  · exact r.map k hv
  · exact r.append (.cons hv .nil)
theorem RfK.length : ∀ {kvs : List (Key × V)} {es : List (D × D)}, RfK K F H kvs es → kvs.length = es.length
  | _, _, .nil => rfl
  | _, _, .cons _ r => by rw [List.length_cons, List.length_cons, RfK.length r]
end
section
variable {X : Cx} {en : Entry} {xc : Xc} {Wi : XK} {e e2 : Expr} {pos p p' : Pos} {m n : M Val} {i : Nat} {x : Str}
theorem chkD_ok {F : Fz} {ex : List Addr} {s : S} {σ : L2.St} {H : Hp} {En : Ends} {B : Bs} {f : Unit → M Flow} (r : Rel X.K F ex s σ H) (h : FEnds X.K en xc Wi B (M.bind (chkD i) f s) En) :
    ∃ a, σ[i]? = some (some (.ref a)) ∧ FEnds X.K en xc Wi B (f () s) En := by
  unfold M.bind chkD at h
  cases e : slot s i with
  | none => rw [e] at h; exact h.elim
  | some v =>
    rw [e] at h
    obtain ⟨x, e1, so⟩ := r.slot i v (slot_eq.mp e)
    cases v with
    | own d =>
      cases d with
      | dict ds =>
        obtain ⟨a, rfl, _⟩ := so
        exact ⟨a, e1, h⟩
      | _ => exact h.elim
    | ext k =>
      obtain ⟨a, ek, rfl⟩ := so
      cases e2 : s.μ[k]? with
      | none => simp only [e2] at h; exact h.elim
      | some d =>
        simp only [e2] at h
        cases d with
        | dict ds => exact ⟨a, e1, h⟩
        | _ => exact h.elim
    | dat _ => exact h.elim
    | bor _ => exact h.elim
    | loc _ => exact h.elim
    | scr _ => exact h.elim
theorem putD_ok {F : Fz} {ex : List Addr} {s : S} {σ : L2.St} {H : Hp} {En : Ends} {B : Bs} {a : Addr} {y v : V} {k d : D} (r : Rel X.K F ex s σ H) (f : FromL en B F ex s σ H) (hx : σ[i]? = some (some (.ref a))) (ry : Rf X.K F H y k) (rv : Rf X.K F H v d)
    (h : FEnds X.K en xc Wi B (putD i k d s) En) : ∃ H4, DPut H a y v H4 ∧ En.nx σ H4 := by
  unfold putD at h
  split at h
  · rename_i hk
    obtain ⟨key, rfl, rfl⟩ := key_of hk (.inl ry)
    cases e : slot s i with
    | none => rw [e] at h; exact h.elim
    | some w =>
      rw [e] at h
      have e' := slot_eq.mp e
      obtain ⟨x, e1, so⟩ := r.slot i w e'
      rw [hx] at e1; cases e1
      have step : ∀ {kvs : List (Key × V)} {es : List (D × D)}, H a = some (.dK kvs) → ¬ F a → RfK X.K F H kvs es → Cell X.K F (upd H a (.dK (putK kvs key v))) a (.dict (putIn es (kd key) d)) := fun {kvs es} ea nf ra => by
        have kp : Kp F H (upd H a (.dK (putK kvs key v))) := fun b u f z => by
          rw [upd_ne (fun q => nf (by rw [← q]; exact f))]; exact z
        exact ⟨_, upd_same, RfK.mono (fun _ f => f) kp _ (ra.put key rv)⟩
      cases w with
      | own d' =>
        cases d' with
        | dict es =>
          obtain ⟨b, eb, ⟨kvs, ea, ra⟩, nf, nx⟩ := so
          cases eb
          dsimp only at h
          split at h
          · rename_i hz
            obtain ⟨r', g'⟩ := r.setOwn (o := .dK (putK kvs key v)) e' hx (step ea nf ra)
            exact ⟨_, DPut.k ea (by rw [ra.length]; exact hz), h σ F ex _ r' (f.step r ⟨g', List.prefix_refl _, .set fun _ => by simp⟩)⟩
          · exact h.elim
        | _ => exact h.elim
      | ext k =>
        obtain ⟨b, ek, eb⟩ := so
        cases eb
        cases e2 : s.μ[k]? with
        | none => simp only [e2] at h; exact h.elim
        | some d' =>
          simp only [e2] at h
          cases d' with
          | dict es =>
            obtain ⟨b, eb, nf, kvs, ea, ra⟩ := r.cel k _ e2
            rw [ek] at eb; cases eb
            dsimp only at h
            split at h
            · rename_i hz
              obtain ⟨r', g'⟩ := r.setExt (o := .dK (putK kvs key v)) e2 ek (step ea nf ra)
              exact ⟨_, DPut.k ea (by rw [ra.length]; exact hz), h σ F ex _ r' (f.step r ⟨g', List.prefix_refl _, .refl⟩)⟩
            · exact h.elim
          | _ => exact h.elim
      | dat _ => exact h.elim
      | bor _ => exact h.elim
      | loc _ => exact h.elim
      | scr _ => exact h.elim
  · exact h.elim
theorem k_sti (hu : X.A.units + 1 < cLine) (hN : X.N[i]? = some x) (hv : Vis X.env.scope x) (hd : (x == ("__debug__" : Str)) = false) (hcd : (x == ("__classdict__" : Str)) = false) (hk : PEd X en xc Wi e m) (hval : PEd X en xc Wi e2 n)
    (hs : swapsWith e2 (some (.Subscript (.Name x p) e p')) pos.line X.env = pure false) : PS X (.Assign [.Subscript (.Name x p) e p'] e2 pos) (TS' X.K en xc Wi (kSti i m n)) := by
  refine PS.imp (ps_dput hu (pe_var hN hv hd hcd) hk hval hs) fun D σ H ⟨F, ex, s, B, r, f, h⟩ => ?_
  refine T1.fz ⟨F, ex, s, r, f.fr, (Ends_.flow (m := mFrz n) r f h).imp fun F1 ex1 H1 s1 d e1 r1 st1 ⟨f1, q⟩ v rv => ?_⟩
  obtain ⟨a, ea, q⟩ := chkD_ok r1 q
  refine ⟨_, ea, T1.fz ⟨F1, ex1, s1, r1, f1.fr, (Ends_.flow (m := mFrz m) r1 f1 q).imp fun F2 ex2 H2 s2 kk e2 r2 st2 ⟨f2, q⟩ y ry => ?_⟩⟩
  have rv : Rf X.K F1 H1 v d := rv
  obtain ⟨H4, g, q⟩ := putD_ok r2 f2 ea ry (rv.mono st2.grow.fmono (st2.grow.kp r1.dj)) q
  exact ⟨a, H4, rfl, g, q⟩
end
end Ded
end

section
set_option Elab.async false
set_option linter.all false
set_option maxRecDepth 100000
/-! Comprehensions. -/
namespace Ded
open PySem L2
section
variable {ρ old : List (Option Val)} {σ σ2 : L2.St} {i : Nat} {v : Val}
theorem dwipe_length (ρ : List (Option Val)) : ∀ vs : List Nat, (wipe ρ vs).length = ρ.length
  | [] => rfl
  | v :: vs => by unfold wipe; rw [List.length_set, dwipe_length ρ vs]
theorem dwipe_out : ∀ {vs : List Nat}, i ∉ vs → (wipe ρ vs)[i]? = ρ[i]?
  | [], _ => rfl
  | w :: vs, h => by
    unfold wipe
    rw [List.getElem?_set_ne (fun q => h (by rw [q]; exact List.mem_cons_self)), dwipe_out fun m => h (List.mem_cons_of_mem _ m)]
theorem dwipe_some : ∀ {vs : List Nat}, (wipe ρ vs)[i]? = some (some v) → ρ[i]? = some (some v) ∧ i ∉ vs
  | [], h => ⟨h, by simp⟩
  | w :: vs, h => by
    unfold wipe at h
    by_cases q : w = i
    · subst q
      by_cases hl : w < (wipe ρ vs).length
      · rw [List.getElem?_set_self hl] at h; cases h
      · rw [List.getElem?_eq_none (by simpa using hl)] at h; cases h
    · rw [List.getElem?_set_ne q] at h
      obtain ⟨a, b⟩ := dwipe_some h
      exact ⟨a, fun m => (List.mem_cons.mp m).elim (fun z => q z.symm) b⟩
theorem pb_length : ∀ {vs : List Nat}, (putBack old ρ vs).length = ρ.length
  | [] => rfl
  | v :: vs => by unfold putBack; rw [List.length_set, pb_length]
theorem pb_some : ∀ {vs : List Nat}, (putBack old ρ vs)[i]? = some (some v) → (i ∈ vs ∧ old[i]? = some (some v)) ∨ (i ∉ vs ∧ ρ[i]? = some (some v))
  | [], h => .inr ⟨by simp, h⟩
  | w :: vs, h => by
    unfold putBack at h
    by_cases q : w = i
    · subst q
      by_cases hl : w < (putBack old ρ vs).length
      · rw [List.getElem?_set_self hl] at h
        refine .inl ⟨List.mem_cons_self, ?_⟩
        have h := Option.some.inj h
        cases e : old[w]? with
        | none => rw [e] at h; cases h
        | some o => rw [e] at h; cases o <;> cases h; rfl
      · rw [List.getElem?_eq_none (by simpa using hl)] at h; cases h
    · rw [List.getElem?_set_ne q] at h
      rcases pb_some h with ⟨a, b⟩ | ⟨a, b⟩
      · exact .inl ⟨List.mem_cons_of_mem _ a, b⟩
      · exact .inr ⟨fun m => (List.mem_cons.mp m).elim (fun z => q z.symm) a, b⟩
theorem swipe_in : ∀ {vs : List Nat}, i ∈ vs → (L2.wipe σ vs)[i]? = if i < σ.length then some none else none
  | w :: vs, h => by
    unfold L2.wipe
    by_cases q : w = i
    · subst q
      by_cases hl : w < σ.length
      · rw [if_pos hl, List.getElem?_set_self (by rw [wipe_length]; exact hl)]
      · rw [if_neg hl, List.getElem?_eq_none (by rw [List.length_set, wipe_length]; omega)]
    · rw [List.getElem?_set_ne q]
      exact swipe_in ((List.mem_cons.mp h).resolve_left fun z => q z.symm)
theorem swipe_ext {vs : List Nat} (hl : σ2.length = σ.length) (h : ∀ j, j ∉ vs → σ2[j]? = σ[j]?) : L2.wipe σ2 vs = L2.wipe σ vs := by
  apply List.ext_getElem?
  intro j
  by_cases m : j ∈ vs
  · rw [swipe_in m, swipe_in m, hl]
  · rw [wipe_out m, wipe_out m, h j m]
end
section
variable {K : PySem.W.Frag} {F F0 : Fz} {ex ex0 : List Addr} {s t : S} {σ : L2.St} {H H0 : Hp} {vs : List Nat}
abbrev S.wiped (s : S) (vs : List Nat) : S := { s with ρ := wipe s.ρ vs }
abbrev S.back (t s : S) (vs : List Nat) : S := { t with ρ := putBack s.ρ t.ρ vs }
theorem ow_wiped {a : Addr} (h : Ow (wipe s.ρ vs) (L2.wipe σ vs) a) : Ow s.ρ σ a := by
  obtain ⟨i, d, e1, e2⟩ := h
  exact ⟨i, d, (dwipe_some e1).1, (wipe_some e2).1⟩
theorem mu_wiped {a : Addr} (h : Mu (wipe s.ρ vs) (L2.wipe σ vs) ex a) : Mu s.ρ σ ex a := h.imp_right ow_wiped
theorem Rel.wiped (r : Rel K F ex s σ H) (vs : List Nat) : Rel K F ex (s.wiped vs) (L2.wipe σ vs) H where
  len := by show (wipe s.ρ vs).length = _; rw [dwipe_length, wipe_length, r.len]
  slot := fun i v e => by
    obtain ⟨e1, m⟩ := dwipe_some e
    obtain ⟨x, e2, h⟩ := r.slot i v e1
    exact ⟨x, by rw [wipe_out m]; exact e2, h⟩
  sep := fun i j d d' a e1 e2 e3 e4 => r.sep i j d d' a (dwipe_some e1).1 (dwipe_some e2).1 (wipe_some e3).1 (wipe_some e4).1
  lent := fun i d a e1 e2 o => r.lent i d a (dwipe_some e1).1 (wipe_some e2).1 (ow_wiped o)
  exl := r.exl
  exd := r.exd
  cel := r.cel
  fdom := r.fdom
theorem NB.wiped : NB s (s.wiped vs) := fun i d e => ⟨d, (dwipe_some e).1⟩
theorem ow_back {a : Addr} (ok : restOk s.ρ vs = true) (h : Ow (putBack s.ρ t.ρ vs) σ a) : Ow t.ρ (L2.wipe σ vs) a := by
  obtain ⟨i, d, e1, e2⟩ := h
  rcases pb_some e1 with ⟨m, e⟩ | ⟨m, e⟩
  · have := List.all_eq_true.mp ok i m
    rw [e] at this; cases this
  · exact ⟨i, d, e, by rw [wipe_out m]; exact e2⟩
theorem NB.back (ok : restOk s.ρ vs = true) (h : NB s t) : NB s (t.back s vs) := fun i d e => by
  rcases pb_some e with ⟨m, e⟩ | ⟨m, e⟩
  · exact ⟨d, e⟩
  · exact h i d e
theorem Rel.back (r : Rel K F ex t (L2.wipe σ vs) H) (r0 : Rel K F0 ex0 s σ H0) (ok : restOk s.ρ vs = true) (hF : ∀ a, F0 a → F a) (kp : Kp F0 H0 H) : Rel K F ex (t.back s vs) σ H where
  len := by show (putBack s.ρ t.ρ vs).length = _; rw [pb_length, r.len, wipe_length]
  slot := fun i v e => by
    rcases pb_some e with ⟨m, e⟩ | ⟨m, e⟩
    · have q := List.all_eq_true.mp ok i m
      rw [e] at q
      obtain ⟨x, e2, h⟩ := r0.slot i v e
      refine ⟨x, e2, ?_⟩
      cases v with
      | dat d => exact Rf.mono hF kp d h
      | _ => cases q
    · obtain ⟨x, e2, h⟩ := r.slot i v e
      exact ⟨x, (wipe_some e2).1, h⟩
  sep := fun i j d d' a e1 e2 e3 e4 => by
    have z : ∀ {k : Nat} {dd : D}, (putBack s.ρ t.ρ vs)[k]? = some (some (.own dd)) → k ∉ vs ∧ t.ρ[k]? = some (some (.own dd)) := fun {k dd} e => by
      rcases pb_some e with ⟨m, e⟩ | q
      · have := List.all_eq_true.mp ok k m
        rw [e] at this; cases this
      · exact q
    exact r.sep i j d d' a (z e1).2 (z e2).2 (by rw [wipe_out (z e1).1]; exact e3) (by rw [wipe_out (z e2).1]; exact e4)
  lent := fun i d a e1 e2 o => by
    rcases pb_some e1 with ⟨m, e⟩ | ⟨m, e⟩
    · have := List.all_eq_true.mp ok i m
      rw [e] at this; cases this
    · exact r.lent i d a e (by rw [wipe_out m]; exact e2) (ow_back ok o)
  exl := r.exl
  exd := r.exd
  cel := r.cel
  fdom := r.fdom
/-- something is laid where nobody of the state looks -/
theorem Rel.other {p : Addr} {o : HO} (r : Rel K F ex s σ H) (hf : ¬ F p) (hm : ¬ Mu s.ρ σ ex p) (hb : ¬ Bo s.ρ σ p) (hz : ∀ q u, H p = some (.frz q u) → False) : Rel K F ex s σ (upd H p o) := by
  have kp : Kp F H (upd H p o) := fun b u f z => by
    rw [upd_ne (fun q => hf (by rw [← q]; exact f))]; exact z
  have g : Grow F (fun a => a = p) H F (fun a => a = p) (upd H p o) := ⟨fun a u e n => by rw [upd_ne n]; exact e, fun a u e => by
    by_cases q : a = p
    · exact ⟨o, by rw [q]; exact upd_same⟩
    · exact ⟨u, by rw [upd_ne q]; exact e⟩, fun _ f => f, fun _ f => .inl f, fun _ m => .inl m⟩
  refine ⟨r.len, fun i v e => ?_, r.sep, r.lent, r.exl, r.exd, fun k d e => ?_, fun a f => ?_⟩
  · obtain ⟨x, e1, h⟩ := r.slot i v e
    refine ⟨x, e1, h.grow g (fun a f q => hf (by rw [← q]; exact f)) (fun a q u m e => hz q u (by rw [← m]; exact e)) (fun _ _ e => e) (fun a m => .inl m) fun a d ea hv q => ?_⟩
    subst q
    rcases hv with rfl | rfl
    · exact hm (.inr ⟨i, d, e, by rw [e1, ea]⟩)
    · exact hb ⟨i, d, e, by rw [e1, ea]⟩
  · obtain ⟨a, e1, nf, c⟩ := r.cel k d e
    refine ⟨a, e1, nf, c.mono (fun _ f => f) kp fun u z => ?_⟩
    rw [upd_ne (fun q => hm (.inl (by rw [← q]; exact List.mem_of_getElem? e1)))]
    exact z
  · obtain ⟨u, e⟩ := r.fdom a f
    exact ⟨u, kp a u f e⟩
theorem NB.bo {a : Addr} (n : NB s t) (h : Bo t.ρ σ a) : Bo s.ρ σ a := let ⟨i, d, e1, e2⟩ := h; let ⟨d', e'⟩ := n i d e1; ⟨i, d', e', e2⟩
end
section
variable {X : Cx} {en : Entry} {xc : Xc} {Wi : XK} {e : Expr} {pos : Pos} {g : D → M Unit}
/-- in a block: whatever the entry -/
def gAny (K : PySem.W.Frag) (ts : List Nat) (g : D → M Unit) : TG := fun v σ H Q => ∃ en, TG' K en ts g v σ H Q
def tAny (K : PySem.W.Frag) (xc : Xc) (c : M Bool) : TT := fun σ H Q => ∃ en, TT' K en xc (fun _ _ _ => False) c σ H Q
def eAny (K : PySem.W.Frag) (xc : Xc) (m : M Val) : TE := fun σ H Q => ∃ en, T1 K en xc (fun _ _ _ => False) (RFz K) (mFrz m) σ H Q
theorem any_g {ts : List Nat} (h : ∀ en, PGd X en e ts g) : PG X e (gAny X.K ts g) := ⟨fun pins s σ H v u Q I r ⟨en, z⟩ => (h en).run.run pins s σ H v u Q I r z⟩
theorem any_t {c : M Bool} (h : ∀ en, PTd X en xc (fun _ _ _ => False) e c) : PT X e (tAny X.K xc c) := ⟨fun pins s σ H Q I ⟨en, z⟩ => (h en).run pins s σ H Q I z⟩
theorem any_e {m : M Val} (h : ∀ en, PEd X en xc (fun _ _ _ => False) e m) : PE X e (eAny X.K xc m) := ⟨fun pins s σ H Q I ⟨en, z⟩ => (d_frz (h en)).run pins s σ H Q I z⟩
theorem lcLoop_cons {turn : D → M (Option D)} {d : D} {r zs : List D} {s tf : S} (h : lcLoop turn (d :: r) s = .ok zs tf) : ∃ o s1 ys, turn d s = .ok o s1 ∧ lcLoop turn r s1 = .ok ys tf ∧ zs = (match o with | some y => y :: ys | none => ys) := by
  obtain ⟨o, s1, e1, h⟩ := bind_ok (m := turn d) h
  obtain ⟨ys, s2, e2, h⟩ := bind_ok (m := lcLoop turn r) h
  cases h
  exact ⟨o, s1, ys, e1, e2, rfl⟩
theorem lc_den {σ : L2.St} {H : Hp} {Q : VK} {m : M Val} {w : M (List D)} {c : M Bool} {vs ts : List Nat} (hts : ∀ j ∈ ts, j ∈ vs) (h : TE' X.K en xc Wi (mLc m g w c vs) σ H Q) : tLc (TI' X.K en xc Wi w) (gAny X.K ts g) (tAny X.K xc c) (eAny X.K xc m) vs σ H Q := by
  obtain ⟨F, ex, s, r, fr, h⟩ := h
  refine ⟨F, ex, s, r, fr, (Ends_.bind (m := w) h).imp fun F1 ex1 H1 s1 ds e1 r1 st1 q J hJ Dd hD => ?_⟩
  cases e2 : lcLoop (lcTurn g c m vs) ds { s1 with ρ := wipe s1.ρ vs } with
  | exc c fs t => simp only [e2] at q; exact q.elim
  | bad => simp only [e2] at q; exact q.elim
  | ok all tf =>
    simp only [e2] at q
    split at q
    rotate_left
    · exact q.elim
    rename_i hz
    obtain ⟨hz, ok⟩ := hz
    have nF1 : ¬ F1 Dd := fun f => by obtain ⟨o, e⟩ := r1.fdom _ f; rw [hD] at e; cases e
    have nM1 : ¬ Mu s1.ρ σ ex1 Dd := fun f => by obtain ⟨o, e⟩ := r1.mdom f; rw [hD] at e; cases e
    have nB1 : ¬ Bo s1.ρ σ Dd := fun f => by obtain ⟨o, e⟩ := r1.bo f; rw [hD] at e; cases e
    -- the entry of the block
    let M' : Fz := fun a => Mu s1.ρ σ ex1 a ∨ a = Dd
    let en' : Entry := ⟨F1, upd H1 Dd (.lst []), ex1, M'⟩
    have hne : ∀ {a : Addr} {o : HO}, H1 a = some o → upd H1 Dd (.lst []) a = some o := fun {a o} e => by
      rw [upd_ne (fun q => by rw [q, hD] at e; cases e)]; exact e
    have hno : ∀ {a : Addr}, upd H1 Dd (.lst []) a = none → H1 a = none := fun {a} e => by
      cases z : H1 a with
      | none => rfl
      | some o => rw [hne z] at e; cases e
    let LcI : Nat → Hp → Prop := fun i H => ∃ F ex s acc ys zs, Rel X.K F ex s (L2.wipe σ vs) H ∧ FromL en' ⟨F1, H1⟩ F ex s (L2.wipe σ vs) H ∧ NB s1 s ∧ H Dd = some (.lst acc) ∧ RfA X.K F H acc ys ∧ ¬ F Dd ∧ ¬ Mu s.ρ (L2.wipe σ vs) ex Dd ∧
      lcLoop (lcTurn g c m vs) (ds.drop i) s = .ok zs tf ∧ ys ++ zs = all
    refine ⟨fun i n H => n = ds.length - i ∧ LcI i H, ⟨ds.length - 0, rfl, F1, ex1, s1.wiped vs, [], [], all, ?_, ?_, .wiped, upd_same, .nil, nF1, fun z => nM1 (mu_wiped z), e2, rfl⟩, ?_⟩
    · exact (r1.wiped vs).other nF1 (fun z => nM1 (mu_wiped z)) (fun z => nB1 (NB.wiped.bo (let ⟨i, d, a, b⟩ := z; ⟨i, d, a, (wipe_some b).1⟩))) fun q u z => by rw [hD] at z; cases z
    · exact ⟨⟨⟨fun _ _ e _ => e, fun _ o e => ⟨o, e⟩, fun _ f => f, fun _ f => .inl f, fun a z => .inl (.inl (mu_wiped z))⟩, List.prefix_refl _⟩, fun _ f => f, fun a o _ e => hne e⟩
    rintro i n H ⟨rfl, F, ex, s, acc, ys, zs, r, fl, nb, hacc, ra, nF, nM, hl, hall⟩
    by_cases hlt : i < ds.length
    rotate_left
    · -- the end
      have e3 : ds.drop i = [] := List.drop_eq_nil_of_le (by omega)
      rw [e3] at hl
      cases hl
      rw [List.append_nil] at hall
      subst hall
      have rb := r.back r1 ok fl.lm fl.lk
      have nbb : NB s1 (tf.back s1 vs) := nb.back ok
      have mub : ∀ a, Mu (putBack s1.ρ tf.ρ vs) σ ex a → Mu tf.ρ (L2.wipe σ vs) ex a := fun a z => z.imp_right (ow_back ok)
      have stp : Step F1 ex1 s1 σ H1 F ex (tf.back s1 vs) H := by
        refine ⟨⟨fun a o e n => fl.fr.grow.keep a o (hne e) (fun z => z.elim n fun z => by rw [z, hD] at e; cases e), fun a o e => fl.fr.grow.dom a o (hne e), fl.fr.grow.fmono, fun a f => ?_, fun a z => ?_⟩, fl.fr.pre, nbb⟩
        · rcases fl.fr.grow.fnew a f with f | (z | z) | z
          · exact .inl f
          · exact .inr (.inl z)
          · exact absurd (by rw [← z]; exact f) nF
          · exact .inr (.inr (hno z))
        · rcases fl.fr.grow.mnew a (mub a z) with (z | z) | z
          · exact .inl z
          · rw [z]; exact .inr hD
          · exact .inr (hno z)
      refine .inl ⟨hJ.stop H i fl.lk (by omega), q F ex H rb (st1.trans stp) _ ?_⟩
      have zl : acc.length ≤ sizeLine := by rw [ra.length]; exact hz
      exact ⟨Dd, rfl, ⟨acc, hacc, zl, ra⟩, nF, fun z => nM (mub _ z), fun z => nB1 (nbb.bo z), st1.grow.none hD⟩
    refine .inr ⟨hJ.go H i fl.lk hlt, LcI (i + 1), fun H' w => ⟨ds.length - (i + 1), by omega, rfl, w⟩, fun x H3 y => ?_⟩
    obtain ⟨F3, nw, rf⟩ := hJ.yld H F i x H3 fl.lk fl.lm r.fdom y ds[i] (List.getElem?_eq_getElem hlt)
    have r3 := r.new nw
    have st3 : Step F ex s (L2.wipe σ vs) H F3 ex s H3 := ⟨nw.grow _, List.prefix_refl _, .refl⟩
    have fl3 := fl.step r st3
    have e3 : ds.drop i = ds[i] :: ds.drop (i + 1) := List.drop_eq_getElem_cons hlt
    rw [e3] at hl
    obtain ⟨o, s9, zs', ht, hl', rfl⟩ := lcLoop_cons hl
    obtain ⟨_, sg, eg, ht⟩ := bind_ok (m := g ds[i]) ht
    obtain ⟨b, sc, ec, ht⟩ := bind_ok (m := c) ht
    have keepD : ∀ {F' : Fz} {ex' : List Addr} {s0 s' : S} {σ' : L2.St} {H0 H' : Hp} {F0 : Fz} {ex0 : List Addr}, Step F0 ex0 s0 σ' H0 F' ex' s' H' → ¬ Mu s0.ρ σ' ex0 Dd → ¬ F0 Dd → H0 Dd = some (.lst acc) → H' Dd = some (.lst acc) ∧ ¬ Mu s'.ρ σ' ex' Dd ∧ ¬ F' Dd := fun {F' ex' s0 s' σ' H0 H' F0 ex0} st nm nf e => by
      refine ⟨st.grow.keep _ _ e nm, fun z => ?_, fun z => ?_⟩
      · rcases st.grow.mnew _ z with z | z
        · exact nm z
        · rw [e] at z; cases z
      · rcases st.grow.fnew _ z with z | z | z
        · exact nf z
        · exact nm z
        · rw [e] at z; cases z
    obtain ⟨hacc3, nM3, nF3⟩ := keepD st3 nM nF hacc
    refine ⟨en', F3, ex, s, ds[i], r3, fl3.fr, rf, ?_⟩
    rw [eg]
    intro σ2 tg r4 f4
    have wp : L2.wipe σ2 vs = L2.wipe σ vs := by
      refine (swipe_ext (σ := L2.wipe σ vs) tg.len fun j hj => tg.off j fun z => hj (hts j z)).trans (swipe_ext (wipe_length _ _) fun j hj => wipe_out hj)
    have nM4 : ¬ Mu sg.ρ σ2 ex Dd := fun z => nM3 (z.imp_right (tg.ow _))
    have fl4 := fl3.with f4
    refine ⟨wp, en', F3, ex, sg, r4, f4, ?_⟩
    rw [ec]
    intro F5 ex5 H5 r5 st5
    have fl5 := fl4.step r4 st5
    obtain ⟨hacc5, nM5, nF5⟩ := keepD st5 nM4 nF3 hacc3
    have ra5 : RfA X.K F5 H5 acc ys := RfA.mono (fun a f => st5.grow.fmono a (nw.fmono a f)) (fun a o f e => st5.grow.kp r4.dj a o (nw.fmono a f) (nw.same a o e)) ys ra
    have nb5 : NB s1 sc := nb.trans (tg.bo.trans st5.bo)
    cases b with
    | false =>
      rw [if_neg Bool.false_ne_true] at ht
      cases ht
      show LcI (i + 1) H5
      have r6 := r5.wiped vs
      rw [wp] at r6
      refine ⟨F5, ex5, sc.wiped vs, acc, ys, zs', r6, ⟨⟨fl5.fr.grow.weakM fun a z => ?_, fl5.fr.pre⟩, fl5.lm, fl5.lk⟩, nb5.trans .wiped, hacc5, ra5, nF5, fun z => nM5 ?_, hl', hall⟩
      · rw [← wp] at z; exact mu_wiped z
      · rw [← wp] at z; exact mu_wiped z
    | true =>
      rw [if_pos rfl] at ht
      show eAny X.K xc m σ2 H5 _
      obtain ⟨y, sm, em, ht⟩ := bind_ok (m := mFrz m) ht
      cases ht
      refine ⟨en', F5, ex5, sc, r5, fl5.fr, ?_⟩
      rw [em]
      intro F6 ex6 H6 r6 st6 xv rx
      have rx : Rf X.K F6 H6 xv y := rx
      have fl6 := fl5.step r5 st6
      obtain ⟨hacc6, nM6, nF6⟩ := keepD st6 nM5 nF5 hacc5
      have ra6 : RfA X.K F6 H6 acc ys := RfA.mono st6.grow.fmono (st6.grow.kp r5.dj) ys ra5
      have nb6 : NB s1 sm := nb5.trans st6.bo
      have la : acc.length + 1 ≤ sizeLine := by
        rw [ra.length]
        have := congrArg List.length hall
        rw [List.length_append, List.length_cons] at this
        omega
      have kp6 : Kp F6 H6 (upd H6 Dd (.lst (acc ++ [xv]))) := fun a u f z => by
        rw [upd_ne (fun q => nF6 (by rw [← q]; exact f))]; exact z
      have r7 := r6.wiped vs
      rw [wp] at r7
      have nM7 : ¬ Mu (wipe sm.ρ vs) (L2.wipe σ vs) ex6 Dd := fun z => nM6 (by rw [← wp] at z; exact mu_wiped z)
      have nb7 : NB s1 (sm.wiped vs) := nb6.trans .wiped
      have r8 := r7.other (p := Dd) (o := .lst (acc ++ [xv])) nF6 nM7 (fun z => nB1 (nb7.bo (let ⟨i, d, a, b⟩ := z; ⟨i, d, a, (wipe_some b).1⟩))) fun q u z => by rw [hacc6] at z; cases z
      have hup : ∀ {a : Addr} {o : HO}, a ≠ Dd → H6 a = some o → upd H6 Dd (.lst (acc ++ [xv])) a = some o := fun n e => by rw [upd_ne n]; exact e
      refine ⟨acc, hacc6, la, F6, ex6, sm.wiped vs, acc ++ [xv], ys ++ [y], zs', r8, ⟨⟨⟨fun a o e n => ?_, fun a o e => ?_, fl6.fr.grow.fmono, fl6.fr.grow.fnew, fun a z => ?_⟩, fl6.fr.pre⟩, fl6.lm, fun a o f e => ?_⟩, nb7, upd_same, ?_, nF6, nM7, hl', ?_⟩
      · exact hup (fun q => n (.inr q)) (fl6.fr.grow.keep a o e n)
      · obtain ⟨o', e'⟩ := fl6.fr.grow.dom a o e
        by_cases q : a = Dd
        · exact ⟨_, by rw [q]; exact upd_same⟩
        · exact ⟨o', hup q e'⟩
      · rw [← wp] at z; exact fl6.fr.grow.mnew a (mu_wiped z)
      · exact hup (fun q => nF1 (by rw [← q]; exact f)) (fl6.lk a o f e)
      · exact RfA.append (RfA.mono (fun _ f => f) kp6 _ ra6) (.cons (Rf.mono (fun _ f => f) kp6 _ rx) .nil)
      · rw [List.append_assoc]; exact hall
/-- a comprehension of one for -/
theorem d_lc {elt tg iter : Expr} {ifs : List Expr} {scope : Scope} {own : List (Str × Nat)} {ts : List Nat} {m : M Val} {w : M (List D)} {c : M Bool} (hc : X.calm = true) (hN : X.N.Nodup) (hi : PI X tg iter (TI' X.K en xc Wi w)) (ok : BlkOk X.N X.env.scope scope own)
    (hts : ∀ j ∈ ts, j ∈ own.map (·.2))
    (hg : ∀ (s : Shared) (H : Hp) (C : Addr) (cl : List (Str × Addr)) (fp : List Addr), PG (X.blk s H scope (compEnvC scope cl C X.env) fp) tg (gAny X.K ts g))
    (ht : ∀ (s : Shared) (H : Hp) (C : Addr) (cl : List (Str × Addr)) (fp : List Addr), PTs (X.blk s H scope (compEnvC scope cl C X.env) fp) ifs (tAny X.K xc c))
    (he : ∀ (s : Shared) (H : Hp) (C : Addr) (cl : List (Str × Addr)) (fp : List Addr), PE (X.blk s H scope (compEnvC scope cl C X.env) fp) elt (eAny X.K xc m)) (hs : ∀ x, foldedSetIterable iter X.env x = pure x) :
    PEd X en xc Wi (.ListComp elt [⟨tg, iter, ifs, 0⟩] scope pos) (mLc m g w c (own.map (·.2))) :=
  PE.imp (pe_lc hc hN hi ok hg ht he hs) fun σ H Q h => lc_den hts h
theorem k_setLc {i : Nat} {y : Str} {py spos : Pos} {elt tg iter : Expr} {ifs : List Expr} {scope : Scope} {own : List (Str × Nat)} {ts : List Nat} {m : M Val} {w : M (List D)} {c : M Bool} (hc : X.calm = true) (hN : X.N.Nodup) (hy : X.N[i]? = some y) (hyl : X.env.scope.names.lookup y = some .local)
    (hsw : swapsWith (.ListComp elt [⟨tg, iter, ifs, 0⟩] scope pos) (some (.Name y py)) spos.line X.env = pure true) (hi : PI X tg iter (TI' X.K en xc Wi w)) (ok : BlkOk X.N X.env.scope scope own) (hts : ∀ j ∈ ts, j ∈ own.map (·.2))
    (hg : ∀ (s : Shared) (H : Hp) (C : Addr) (cl : List (Str × Addr)) (fp : List Addr), PG (X.blk s H scope (compEnvC scope cl C X.env) fp) tg (gAny X.K ts g))
    (ht : ∀ (s : Shared) (H : Hp) (C : Addr) (cl : List (Str × Addr)) (fp : List Addr), PTs (X.blk s H scope (compEnvC scope cl C X.env) fp) ifs (tAny X.K xc c))
    (he : ∀ (s : Shared) (H : Hp) (C : Addr) (cl : List (Str × Addr)) (fp : List Addr), PE (X.blk s H scope (compEnvC scope cl C X.env) fp) elt (eAny X.K xc m)) (hs : ∀ x, foldedSetIterable iter X.env x = pure x) :
    PS X (.Assign [.Name y py] (.ListComp elt [⟨tg, iter, ifs, 0⟩] scope pos) spos) (TS' X.K en xc Wi (kSet i (mLc m g w c (own.map (·.2))))) :=
  PS.imp (ps_setLc hc hN hy hyl hsw hi ok hg ht he hs) fun D σ H h => lc_den hts (set_core h)
end
end Ded
end

section
set_option Elab.async false
set_option linter.all false
set_option maxRecDepth 100000
/-! The whole of a tuple, from its end. -/
namespace Ded
open PySem PyProof.Rows L2
section
variable {prog : Program} {w : World} {A : Around} {E : Value → Shared → Prop} {s : Shared}
theorem places_rev (n : Nat) : Builtin.Slice.slicePlaces ((n : Int) - 1) (-1) (-1) = n := by
  unfold Builtin.Slice.slicePlaces
  rw [if_neg (by decide)]
  cases n with
  | zero => rfl
  | succ n =>
    rw [if_pos (by omega)]
    have e1 : (((n + 1 : Nat) : Int) - 1 - -1 - 1) = (n : Int) := by omega
    have e2 : (- -1 : Int) = 1 := rfl
    rw [e1, e2, Int.ediv_one]
    rfl
theorem range_fm {α : Type} (xs : List α) : ∀ (n : Nat) (f : Nat → Option α), n ≤ xs.length → (∀ m, m < n → f m = xs[m]?) → (List.range n).filterMap f = xs.take n
  | 0, _, _, _ => by simp
  | n + 1, f, hn, h => by
    rw [List.range_succ, List.filterMap_append, range_fm xs n f (by omega) fun m hm => h m (by omega)]
    have e := h n (by omega)
    rw [List.getElem?_eq_getElem (by omega)] at e
    rw [List.filterMap_cons, e, List.filterMap_nil, List.take_add_one, List.getElem?_eq_getElem (by omega)]
    rfl
theorem pick_rev (xs : Array Value) : ((List.range xs.size).filterMap fun (m : Nat) => xs[((xs.size : Int) - 1 + (m : Int) * -1).toNat]?) = xs.toList.reverse := by
  have hl : xs.toList.reverse.length = xs.size := by rw [List.length_reverse, Array.length_toList]
  rw [range_fm xs.toList.reverse xs.size _ (by omega) fun m hm => ?_]
  · exact List.take_of_length_le (by omega)
  · have e : ((xs.size : Int) - 1 + (m : Int) * -1).toNat = xs.size - 1 - m := by omega
    rw [e, List.getElem?_reverse (by rw [Array.length_toList]; exact hm), Array.length_toList, Array.getElem?_toList]
theorem applied_rev {sl : Addr} {vs : Value} {n : Nat} {Q : Int × Int × Nat → Shared → Prop} (hs : s.heap.IsSliceOf sl .none .none vs) (ps : IsPart vs (some (-1)))
    (h : Q ((n : Int) - 1, -1, n) s) : wpAny (model prog w) A (Builtin.Slice.sliceApplied (.ref sl) (pure (n : Int))) Q E s := by
  obtain ⟨os, hos, hcs, hds⟩ := id hs
  unfold Builtin.Slice.sliceApplied Builtin.Slice.sliceFields
  refine wpAny_bind (wpAny_bind (wpAny_field hos hds (x := .none) rfl (wpAny_bind (wpAny_field hos hds (x := .none) rfl (wpAny_bind (wpAny_field hos hds (x := vs) rfl (wpAny_pure ?_)))))))
  refine wpAny_bind (HT.slicePart_ ps ?_)
  show wpAny _ _ (if ((-1 : Int) == 0) = true then _ else _) _ _ s
  rw [if_neg (by decide)]
  refine wpAny_bind (slicePart_none (wpAny_bind (slicePart_none (wpAny_bind (wpAny_pure ?_)))))
  show wpAny _ _ (pure ((n : Int) - 1, (-1 : Int), Builtin.Slice.slicePlaces ((n : Int) - 1) (-1) (-1))) _ _ s
  rw [places_rev]
  exact wpAny_pure h
theorem getItem_tup_rev {t sl : Addr} {items : Array Value} {vs : Value} {Q : Value → Shared → Prop} (ht : IsTup s.heap t items) (hs : s.heap.IsSliceOf sl .none .none vs) (ps : IsPart vs (some (-1)))
    (h : Q (.ref s.heap.objs.size) { s with heap := s.heap.push { cls := .type "tuple", data := .seq items.toList.reverse.toArray } }) (hsz : items.size ≤ sizeLine) : wpAny (model prog w) A (getItem (.ref t) (.ref sl)) Q E s := by
  have hz : sizeOk (.seq items.toList.reverse.toArray) := by
    show items.toList.reverse.toArray.size ≤ sizeLine
    rw [List.size_toArray, List.length_reverse, Array.length_toList]
    exact hsz
  obtain ⟨os, hos, hcs, hds⟩ := id hs
  have hTs : s.TypeIs (.ref sl) "slice" := ⟨os, hos, hcs⟩
  unfold getItem
  try with_reducible refine wpAny_holding ?_
  first | refine wpAny_bind (wpAny_pure ?_) | skip
  refine wpAny_bind (wpAny_sequenceKey ht.typeIs (by decide) ?_)
  refine wpAny_bind (wpAny_callSpecial?_slot (name := Str.ofString "__getitem__") ht.typeIs PyProof.Rows.slot_tuple_getitem (wpAny_call_entry PyProof.Rows.slot_tuple_getitem ht.typeIs entry_tuple_getitem ?_ (args_tuple_getitem _ _)))
  show wpAny _ _ (Builtin.Tuple.tupleItemsOf (.ref t) >>= _) _ _ s
  refine wpAny_bind (tupleItemsOf_ ht (wpAny_bind (wpAny_typeOf hTs ?_)))
  rw [if_pos (by decide)]
  refine wpAny_bind (applied_rev hs ps ?_)
  show wpAny _ _ (if (((items.size : Int) - 1 == 0) && (-1 : Int) == 1 && items.size == items.size) = true then _ else _) _ _ s
  rw [if_neg (by simp), pick_rev]
  first
    | exact wpAny_bind (m := Builtin.Tuple.tupleExact _) (wpAny_newObj_type (wpAny_pure ⟨_, rfl, wpAny_pure h⟩) hz)
    | exact wpAny_bind (m := Builtin.Tuple.tupleExact _) (wpAny_newObj_type (wpAny_bind (wpAny_pure (wpAny_pure ⟨_, rfl, wpAny_pure h⟩))) hz)
end
end Ded
end

section
set_option Elab.async false
set_option linter.all false
set_option maxRecDepth 100000
/-! What a call is given; calls; displays of dicts; reversal. -/
namespace Ded
open PySem PyProof.Rows L2
section
variable {K : PySem.W.Frag} {F : Fz} {ex : List Addr} {s : S} {σ : L2.St} {H : Hp} {i : Nat} {d : D} {a : Addr}
/-- one's own list is lent: from now on others hold it too -/
theorem Rel.lend (r : Rel K F ex s σ H) (e : s.ρ[i]? = some (some (.own d))) (hx : σ[i]? = some (some (.ref a))) :
    Rel K F (ex ++ [a]) { ρ := s.ρ.set i (some (.ext s.μ.length)), μ := s.μ ++ [d] } σ H ∧ Step F ex s σ H F (ex ++ [a]) { ρ := s.ρ.set i (some (.ext s.μ.length)), μ := s.μ ++ [d] } H ∧ a ∉ ex := by
  have ho : Ow s.ρ σ a := ⟨i, d, e, hx⟩
  obtain ⟨nf, nx, _⟩ := r.ow ho
  obtain ⟨y, e1, b, rfl, c, _, _⟩ := r.slot i _ e
  rw [hx] at e1; cases e1
  have ow : ∀ b, Ow (s.ρ.set i (some (.ext s.μ.length))) σ b → Ow s.ρ σ b := fun b ⟨j, d1, e3, e4⟩ => by
    rcases get_set e3 with ⟨_, z⟩ | ⟨_, z⟩
    · cases z
    · exact ⟨j, d1, z, e4⟩
  have hi : i < s.ρ.length := (List.getElem?_eq_some_iff.mp e).1
  refine ⟨⟨by simp [r.len], fun j v e3 => ?_, fun j k d1 d2 b e3 e4 => ?_, fun j d1 b e3 e4 o => ?_, by simp [r.exl], ?_, fun k d1 e3 => ?_, r.fdom⟩, ⟨⟨fun _ _ e _ => e, fun _ o e => ⟨o, e⟩, fun _ f => f, fun _ f => .inl f, fun b m => ?_⟩, List.prefix_append _ _, fun j d1 e3 => ?_⟩, nx⟩
  · by_cases hj : i = j
    · subst hj
      rw [List.getElem?_set_self hi] at e3
      cases e3
      refine ⟨_, hx, a, ?_, rfl⟩
      rw [r.exl, List.getElem?_append_right (Nat.le_refl _), Nat.sub_self]; rfl
    · rw [List.getElem?_set_ne hj] at e3
      obtain ⟨x, e4, h⟩ := r.slot j v e3
      refine ⟨x, e4, ?_⟩
      cases v with
      | dat d => exact h
      | own d' =>
        obtain ⟨b, rfl, c, nf, nx⟩ := h
        refine ⟨b, rfl, c, nf, fun m => ?_⟩
        rcases List.mem_append.mp m with m | m
        · exact nx m
        · have := List.mem_singleton.mp m
          subst this
          exact hj (r.sep i j d d' b e e3 hx e4)
      | ext k =>
        obtain ⟨b, e5, rfl⟩ := h
        exact ⟨b, pre_get (List.prefix_append _ _) e5, rfl⟩
      | bor d' =>
        obtain ⟨b, rfl, c, nx⟩ := h
        refine ⟨b, rfl, c, fun m => ?_⟩
        rcases List.mem_append.mp m with m | m
        · exact nx m
        · have := List.mem_singleton.mp m
          subst this
          exact r.lent j d' b e3 e4 ho
      | loc _ => exact h
      | scr ns => exact h
  · rcases get_set e3 with ⟨_, z⟩ | ⟨_, z⟩
    · cases z
    · rcases get_set e4 with ⟨_, z'⟩ | ⟨_, z'⟩
      · cases z'
      · exact r.sep j k d1 d2 b z z'
  · rcases get_set e3 with ⟨_, z⟩ | ⟨_, z⟩
    · cases z
    · exact r.lent j d1 b z e4 (ow b o)
  · exact List.nodup_append.mpr ⟨r.exd, by simp, fun x hm y hy => by
      have := List.mem_singleton.mp hy
      subst this
      exact fun q => nx (by rw [← q]; exact hm)⟩
  · rcases Nat.lt_or_ge k s.μ.length with hk | hk
    · have e3 : (s.μ ++ [d])[k]? = some d1 := e3
      rw [List.getElem?_append_left hk] at e3
      obtain ⟨b, e5, z⟩ := r.cel k d1 e3
      exact ⟨b, pre_get (List.prefix_append _ _) e5, z⟩
    · have e3 : (s.μ ++ [d])[k]? = some d1 := e3
      rw [List.getElem?_append_right hk] at e3
      have hk0 : k - s.μ.length = 0 := by
        rcases Nat.eq_zero_or_pos (k - s.μ.length) with z | z
        · exact z
        · rw [List.getElem?_eq_none (by simp; omega)] at e3; cases e3
      rw [hk0] at e3
      cases e3
      refine ⟨a, ?_, nf, c⟩
      rw [List.getElem?_append_right (by rw [← r.exl]; exact hk), ← r.exl, hk0]; rfl
  · rcases m with m | m
    · rcases List.mem_append.mp m with m | m
      · exact .inl (.inl m)
      · have := List.mem_singleton.mp m
        subst this
        exact .inl (.inr ho)
    · exact .inl (.inr (ow b m))
  · rcases get_set e3 with ⟨_, z⟩ | ⟨_, z⟩
    · cases z
    · exact ⟨d1, z⟩
end
section
variable {X : Cx} {en : Entry} {xc : Xc} {Wi : XK} {e e2 e3 : Expr} {es : List Expr} {pos p apos : Pos} {m n l : M Val} {i : Nat} {x : Str}
theorem a_lend (hN : X.N[i]? = some x) (hv : Vis X.env.scope x) (hd : (x == ("__debug__" : Str)) = false) (hcd : (x == ("__classdict__" : Str)) = false) : PE X (.Name x pos) (T1 X.K en xc Wi (RAr X.K) (mLend i)) := by
  refine PE.imp (pe_var hN hv hd hcd) fun σ H Q ⟨F, ex, s, r, f, h⟩ => ?_
  unfold mLend at h
  cases e : slot s i with
  | none => rw [e] at h; exact h.elim
  | some v =>
    rw [e] at h
    have e' := slot_eq.mp e
    obtain ⟨y, e1, so⟩ := r.slot i v e'
    refine ⟨y, e1, ?_⟩
    cases v with
    | own d =>
      obtain ⟨a, rfl, c, nf, nx⟩ := so
      obtain ⟨r2, st, _⟩ := r.lend e' e1
      refine h F _ H r2 st _ ⟨a, ?_, rfl⟩
      rw [r.exl, List.getElem?_append_right (Nat.le_refl _), Nat.sub_self]; rfl
    | ext k => exact h F ex H r .refl _ so
    | scr ns => exact h F ex H r .refl _ so
    | dat _ => exact h.elim
    | bor _ => exact h.elim
    | loc _ => exact h.elim
theorem a_borw (hN : X.N[i]? = some x) (hv : Vis X.env.scope x) (hd : (x == ("__debug__" : Str)) = false) (hcd : (x == ("__classdict__" : Str)) = false) : PE X (.Name x pos) (T1 X.K en xc Wi (RAr X.K) (mBor i)) := by
  refine PE.imp (pe_var hN hv hd hcd) fun σ H Q ⟨F, ex, s, r, f, h⟩ => ?_
  unfold mBor at h
  cases e : slot s i with
  | none => rw [e] at h; exact h.elim
  | some v =>
    rw [e] at h
    obtain ⟨y, e1, so⟩ := r.slot i v (slot_eq.mp e)
    refine ⟨y, e1, ?_⟩
    cases v with
    | own d => exact h F ex H r .refl _ e1
    | bor d => exact h F ex H r .refl _ e1
    | dat d => exact h F ex H r .refl _ so
    | ext _ => exact h.elim
    | scr _ => exact h.elim
    | loc _ => exact h.elim
/-- calls -/
theorem d_call {cd : Nat → List Val → List D → R Val} {k g : Nat} {f : Addr} {fd : FuncData} {ps : List Str} {la : M (List Val)} (Fn : FnG X.prog X.w X.K X.mg X.base k f fd ps (spD X.K xc (cd g) ps.length)) (hr : Room k X.A) (hgd : X.A.guards = some []) (hg : Gl X x) (hm : X.mg x = some (.ref f))
    (hk : PySem.W.keepIn X.K (.ref f) = true) (hb : Binds X.K fd ps []) (hx : Passes (L2.CX X.prog X.w) X Wi) (hn : ∀ us μ, us.length ≠ ps.length → cd g us μ = .bad) (ha : PA X (e :: es) (TL X.K en xc Wi (RAr X.K) la)) (hdb : (x == ("__debug__" : Str)) = false)
    (he : starEach (e :: es) X.env = (false, eval e X.env) :: starEach es X.env) (hpl : (backTo pos (starEach es X.env)).any (·.1) = false) : PEd X en xc Wi (.Call (.Name x p) (e :: es) [] pos) (mCall cd g la) :=
  PE.imp (g_call Fn hr hgd hg hm hk hb hx ha hdb he hpl) fun _ _ _ h => call_core hn h
theorem d_call0 {cd : Nat → List Val → List D → R Val} {k g : Nat} {f : Addr} {fd : FuncData} {ps : List Str} (Fn : FnG X.prog X.w X.K X.mg X.base k f fd ps (spD X.K xc (cd g) ps.length)) (hr : Room k X.A) (hgd : X.A.guards = some []) (hg : Gl X x) (hm : X.mg x = some (.ref f))
    (hk : PySem.W.keepIn X.K (.ref f) = true) (hb : Binds X.K fd ps []) (hx : Passes (L2.CX X.prog X.w) X Wi) (hn : ∀ us μ, us.length ≠ ps.length → cd g us μ = .bad) (hdb : (x == ("__debug__" : Str)) = false) : PEd X en xc Wi (.Call (.Name x p) [] [] pos) (mCall cd g lNil) :=
  PE.imp (g_call0 Fn hr hgd hg hm hk hb hx hdb) fun _ H _ h => by
    obtain ⟨F, ex, s, r, f, h⟩ := call_core hn h
    exact h F ex H r .refl [] .nil
theorem d_callk {cd : Nat → List Val → List D → R Val} {k g : Nat} {f : Addr} {fd : FuncData} {ps : List Str} {kws : List Keyword} {la : M (List Val)} (Fn : FnG X.prog X.w X.K X.mg X.base k f fd ps (spD X.K xc (cd g) ps.length)) (hr : Room k X.A) (hgd : X.A.guards = some []) (hg : Gl X x) (hm : X.mg x = some (.ref f))
    (hk : PySem.W.keepIn X.K (.ref f) = true) (hb : ∀ (s : Shared) (us : List Value), X.K.In s.heap → us.length = ps.length → BindsTo s fd ⟨[], ps.zip us⟩ (ps.zip us)) (hx : Passes (L2.CX X.prog X.w) X Wi) (hn : ∀ us μ, us.length ≠ ps.length → cd g us μ = .bad)
    (ha : PK X kws (TL X.K en xc Wi (RAr X.K) la)) (hdb : (x == ("__debug__" : Str)) = false)
    (hall : (backToKw pos (keywordEach kws X.env)).all (·.1.isSome) = true) (hks : (backToKw pos (keywordEach kws X.env)).filterMap (·.1) = ps) (hnn : (backToKw pos (keywordEach kws X.env)).any (·.1.isNone) = false) : PEd X en xc Wi (.Call (.Name x p) [] kws pos) (mCall cd g la) :=
  PE.imp (g_callk Fn hr hgd hg hm hk hb hx ha hdb hall hks hnn) fun _ _ _ h => call_core hn h
theorem PK.imp {kws : List Keyword} {t t' : TA} (h : PK X kws t) (q : ∀ σ H Q, t' σ H Q → t σ H Q) : PK X kws t' := ⟨fun p pins s σ H Q I z => h.run p pins s σ H Q I (q σ H Q z)⟩
theorem kw_nil {α : Type} {Rr : RVx α} : PK X [] (TL X.K en xc Wi Rr lNil) := PK.imp pk_nil fun σ H Q ⟨F, ex, s, r, fr, h⟩ => h F ex H r Step.refl [] .nil
theorem kw_cons {α : Type} {Rr : RVx α} {kws : List Keyword} {nm : Option Str} {kpos : Pos} {m : M α} {l : M (List α)} (hR : Stable X.K Rr) (ha : PE X e (T1 X.K en xc Wi Rr m)) (hl : PK X kws (TL X.K en xc Wi Rr l)) : PK X (⟨nm, e, kpos⟩ :: kws) (TL X.K en xc Wi Rr (lCons m l)) := by
  refine PK.imp (pk_cons ha hl) fun σ H Q ⟨F, ex, s, r, fr, h⟩ => ?_
  refine ⟨F, ex, s, r, fr, (Ends_.bind (m := m) h).imp fun F1 ex1 H1 s1 a e1 r1 st1 q x rx => ?_⟩
  refine ⟨F1, ex1, s1, r1, fr.step st1, ((Ends_.bind (m := l) q).later st1).imp fun F2 ex2 H2 s2 as e2 r2 st2 q xs rs => ?_⟩
  exact q F2 ex2 H2 r2 (st1.trans st2) (x :: xs) (.cons (hR r1 st2 rx) rs)
/-! ### dicts -/
def TKv (K : PySem.W.Frag) (en : Entry) (xc : Xc) (Wi : XK) (l : M (List (D × D))) (σ : L2.St) (H : Hp) (Q : List (V × V) → Hp → Prop) : Prop :=
  ∃ F ex s, Rel K F ex s σ H ∧ From en F ex s σ H ∧ Ends_ K en xc Wi (l s) F ex s σ H fun F' ex' H' s' ps => ∀ kvs, RfK K F' H' kvs ps → Q (kvs.map fun kv => (kV kv.1, kv.2)) H'
structure PKv (X : Cx) (en : Entry) (xc : Xc) (Wi : XK) (pos : Pos) (ks : List (Option Expr)) (vs : List Expr) (l : M (List (D × D))) : Prop where
  ex : ∃ trs, PPs X pos ks vs trs ∧ ∀ σ H Q, TKv X.K en xc Wi l σ H Q → tPairs trs σ H Q
  all : ks.all (·.isSome) = true
  len : ks.length = vs.length
theorem kv_nil : PKv X en xc Wi pos [] [] lNil := ⟨⟨[], pps_nil, fun σ H Q ⟨F, ex, s, r, fr, h⟩ => h F ex H r .refl [] .nil⟩, rfl, rfl⟩
theorem kv_cons {ks : List (Option Expr)} {vs : List Expr} {ml : M (List (D × D))} (hk : PEd X en xc Wi e m) (hv : PEd X en xc Wi e2 n) (h : PKv X en xc Wi pos ks vs ml) : PKv X en xc Wi pos (some e :: ks) (e2 :: vs) (lKv m n ml) := by
  obtain ⟨trs, hp, hq⟩ := h.ex
  refine ⟨⟨_, pps_cons (d_frz hk) (d_frz hv) hp, fun σ H Q ⟨F, ex, s, r, fr, h⟩ => ?_⟩, by rw [List.all_cons, h.all]; rfl, by rw [List.length_cons, List.length_cons, h.len]⟩
  refine ⟨F, ex, s, r, fr, (Ends_.bind (m := mFrz m) h).imp fun F1 ex1 H1 s1 dk e1 r1 st1 q x rx => ?_⟩
  refine ⟨F1, ex1, s1, r1, fr.step st1, ((Ends_.bind (m := mFrz n) q).later st1).imp fun F2 ex2 H2 s2 dv e2 r2 st2 q y ry => ?_⟩
  refine hq σ H2 _ ⟨F2, ex2, s2, r2, (fr.step st1).step st2, ((Ends_.bind (m := ml) q).later (st1.trans st2)).imp fun F3 ex3 H3 s3 ps e3 r3 st3 q kvs rk => ?_⟩
  have rx : Rf X.K F1 H1 x dk := rx
  have ry : Rf X.K F2 H2 y dv := ry
  split at q
  · rename_i hkey
    obtain ⟨key, rfl, rfl⟩ := key_of hkey (.inl rx)
    exact q F3 ex3 H3 r3 ((st1.trans st2).trans st3) ((key, y) :: kvs) (.cons (ry.mono st3.grow.fmono (st3.grow.kp r2.dj)) rk)
  · exact q.elim
theorem merge_rf {K : PySem.W.Frag} {F : Fz} {H : Hp} : ∀ {kvs acc : List (Key × V)} {es acc' : List (D × D)}, RfK K F H kvs es → RfK K F H acc acc' → RfK K F H (mergeK acc kvs) (es.foldl (fun acc p => putIn acc p.1 p.2) acc')
  | _, _, _, _, .nil, h => h
  | _, _, _, _, .cons (k := k) a r, h => by
    have z := merge_rf r (h.put k a)
    exact z
theorem d_dct {ks : List (Option Expr)} {vs : List Expr} {ml : M (List (D × D))} (h : PKv X en xc Wi pos ks vs ml) (h0 : ks ≠ []) (h15 : ks.length ≤ 15) : PEd X en xc Wi (.Dict ks vs pos) (mDct ml) := by
  obtain ⟨trs, hp, hq⟩ := h.ex
  refine PE.imp (pe_disp hp h.all h.len h0 h15) fun σ H Q ⟨F, ex, s, r, fr, hh⟩ p hpn => hq _ _ _ ?_
  have nw := New.own (F := F) r.fdom hpn (.dK [])
  have st0 : Step F ex s σ H F ex s (upd H p (.dK [])) := ⟨nw.grow _, List.prefix_refl _, .refl⟩
  have nF : ¬ F p := fun f => by obtain ⟨o, e⟩ := r.fdom _ f; rw [hpn] at e; cases e
  have nM : ¬ Mu s.ρ σ ex p := fun f => by obtain ⟨o, e⟩ := r.mdom f; rw [hpn] at e; cases e
  have nB : ¬ Bo s.ρ σ p := fun f => by obtain ⟨o, e⟩ := r.bo f; rw [hpn] at e; cases e
  refine ⟨F, ex, s, r.new nw, fr.step st0, ((Ends_.bind (m := ml) hh).later st0).imp fun F1 ex1 H1 s1 ps e1 r1 st1 q kvs rk => ?_⟩
  have hp1 : H1 p = some (.dK []) := st1.grow.keep _ _ upd_same nM
  have nF1 : ¬ F1 p := fun f => by
    rcases st1.grow.fnew _ f with z | z | z
    · exact nF z
    · exact nM z
    · rw [upd_same] at z; cases z
  have nM1 : ¬ Mu s1.ρ σ ex1 p := fun f => by
    rcases st1.grow.mnew _ f with z | z
    · exact nM z
    · rw [upd_same] at z; cases z
  have nB1 : ¬ Bo s1.ρ σ p := fun f => nB (st1.bo.bo f)
  split at q
  · rename_i hz
    refine ⟨hp1, kvs, rfl, by rw [rk.length]; exact hz, ?_⟩
    have kp : Kp F1 H1 (upd H1 p (.dK (mergeK [] kvs))) := fun b u f z => by
      rw [upd_ne (fun q => nF1 (by rw [← q]; exact f))]; exact z
    have r2 := r1.other (p := p) (o := .dK (mergeK [] kvs)) nF1 nM1 nB1 fun a u z => by rw [hp1] at z; cases z
    have st2 : Step F ex s σ H F1 ex1 s1 (upd H1 p (.dK (mergeK [] kvs))) := by
      refine ⟨⟨fun a o e n => ?_, fun a o e => ?_, st1.grow.fmono, fun a f => ?_, fun a f => ?_⟩, st1.pre, st1.bo⟩
      · have hne : a ≠ p := fun q => by rw [q, hpn] at e; cases e
        rw [upd_ne hne]
        exact st1.grow.keep a o (by rw [upd_ne hne]; exact e) n
      · have hne : a ≠ p := fun q => by rw [q, hpn] at e; cases e
        rw [upd_ne hne]
        exact st1.grow.dom a o (by rw [upd_ne hne]; exact e)
      · rcases st1.grow.fnew a f with z | z | z
        · exact .inl z
        · exact .inr (.inl z)
        · refine .inr (.inr ?_)
          by_cases hne : a = p
          · rw [hne]; exact hpn
          · rw [upd_ne hne] at z; exact z
      · rcases st1.grow.mnew a f with z | z
        · exact .inl z
        · refine .inr ?_
          by_cases hne : a = p
          · rw [hne]; exact hpn
          · rw [upd_ne hne] at z; exact z
    refine q F1 ex1 _ r2 st2 _ ⟨p, rfl, ⟨_, upd_same, ?_⟩, nF1, nM1, nB1, hpn⟩
    exact RfK.mono (fun _ f => f) kp _ (merge_rf rk .nil)
  · exact q.elim
/-! ### reversal -/
def tRevD (K : PySem.W.Frag) (te : TE) : TE := fun σ H Q => te σ H fun x H1 => ∃ a xs, x = .ref a ∧ ((SqL K H1 a xs ∧ ∀ p, H1 p = none → Q (.ref p) (upd H1 p (.lst xs.reverse))) ∨ (SqT K H1 a xs ∧ ∀ p, H1 p = none → Q (.ref p) (upd H1 p (.tup xs.reverse))))
theorem pe_revD {te : TE} {k : Nat} {p1 p2 p3 : Pos} (he : PE X e te) : PE X (.Subscript e (.Slice none none (some (.UnaryOp .USub (.Constant (.int 1) k p1) p2)) p3) pos) (tRevD X.K te) := by
  refine ⟨fun pins s σ H Q I h => Subscript_ (thn (he.run pins s σ H _ I h) fun v s1 ⟨x, H1, I1, r1, a, xs, ex, q⟩ => ?_)⟩
  subst ex
  cases r1
  have step : PO X (some (.UnaryOp .USub (.Constant (.int 1) k p1) p2)) (tPart (tUn (rU fun i => .int (-i)) (tC (.int 1)))) := po_some (pe_un un_neg pe_int)
  refine wpAny_Slice (thn (po_none.run pins s1 σ H1 (fun o H' => o = none ∧ H' = H1) I1 ⟨rfl, rfl⟩) fun u1 s2 ⟨o1, H2, I2, w1, y1, z1⟩ => ?_)
  subst y1 z1
  refine thn (po_none.run pins s2 σ H2 (fun o H' => o = none ∧ H' = H2) I2 ⟨rfl, rfl⟩) fun u2 s3 ⟨o2, H3, I3, w2, y2, z2⟩ => ?_
  subst y2 z2
  refine thn (step.run pins s3 σ H3 (fun o H' => o = some (-1) ∧ H' = H3) I3 ⟨1, rfl, -1, rfl, rfl, rfl⟩) fun u3 s4 ⟨o3, H4, I4, w3, y3, z3⟩ => ?_
  subst y3 z3
  generalize hsl : ({ s4 with heap := s4.heap.push { cls := .type "slice", data := .fields #[u1, u2, u3] } } : Shared) = s5
  have I5 : Inv X pins σ H4 s5 := by rw [← hsl]; exact I4.kept (t' := s4.toks) fun b ob q => Heap.get?_push_of_some _ q
  have sl : s5.heap.IsSliceOf s4.heap.objs.size u1 u2 u3 := by rw [← hsl]; exact Heap.IsSliceOf.new _ u1 u2 u3
  rcases q with ⟨hx, q⟩ | ⟨hx, q⟩
  · obtain ⟨its, r, ht, hz⟩ := I5.list hx
    have hlen := r.length
    refine PyProof.Rows.tail_any (ops := [.ref a, .ref s4.heap.objs.size]) ht.isList.typeIs (PySem.slot_list_getitem.lookup) ?_ (by with_unfolding_all rfl)
    refine wpAny_getItem_list_slice ht.isList sl w1 w2 w3 (by decide) ?_ (by rw [List.size_toArray]; omega)
    rw [PySem.W.krv_pick]
    exact ⟨.ref _, _, I5.laid (t' := s5.toks) (o := .lst xs.reverse) (fun b ob q => Heap.get?_push_of_some _ q) (Nat.le_refl _) ⟨by rw [List.length_reverse]; exact hz, _, 0, r.reverse, Heap.get?_push_size _ rfl⟩, rfl, q _ (I5.hok.fresh (Nat.le_refl _))⟩
  · obtain ⟨its, r, ht, hz⟩ := I5.tuple hx
    have hlen := r.length
    cases w1
    cases w2
    refine PyProof.Rows.tail_any (ops := [.ref a, .ref s4.heap.objs.size]) ht.typeIs PyProof.Rows.slot_tuple_getitem.lookup ?_ (by with_unfolding_all rfl)
    refine getItem_tup_rev ht sl w3 ?_ (by rw [List.size_toArray]; omega)
    exact ⟨.ref _, _, I5.laid (t' := s5.toks) (o := .tup xs.reverse) (fun b ob q => Heap.get?_push_of_some _ q) (Nat.le_refl _) ⟨by rw [List.length_reverse]; exact hz, _, r.reverse, IsTup.new _ _⟩, rfl, q _ (I5.hok.fresh (Nat.le_refl _))⟩
theorem d_rev {k : Nat} {p1 p2 p3 : Pos} (he : PEd X en xc Wi e m) : PEd X en xc Wi (.Subscript e (.Slice none none (some (.UnaryOp .USub (.Constant (.int 1) k p1) p2)) p3) pos) (mRev m) := by
  refine PE.imp (pe_revD he) fun σ H Q h => ?_
  obtain ⟨F, ex, s, r, fr, h⟩ := h.one
  refine ⟨F, ex, s, r, fr, h.imp fun F1 ex1 H1 s1 v e1 r1 st1 q x rv => ?_⟩
  obtain ⟨F2, d, res, hF, rx, er, q⟩ := q x rv
  unfold revD at er
  split at er
  · obtain ⟨a, xs, rfl, ea, z, ra⟩ := rt_list rx
    cases er
    exact ⟨a, xs, rfl, .inl ⟨SqL.of ea, fun p hp => q _ _ _ (ResOk.lst hF hp (by rw [List.length_reverse]; exact z) ra.reverse)⟩⟩
  · obtain ⟨a, xs, rfl, fa, ea, z, ra⟩ := rt_tup rx
    cases er
    exact ⟨a, xs, rfl, .inr ⟨SqT.of ea, fun p hp => q _ _ _ (ResOk.tup hF hp (by rw [List.length_reverse]; exact z) ra.reverse)⟩⟩
  · cases er
end
end Ded
end

section
set_option Elab.async false
set_option linter.all false
set_option maxRecDepth 100000
/-! Whether a text reads as an expression of the evaluator. -/
namespace Ded
open PySem L2
structure GInfo where
  name : Str
  ps : List Str
structure Ctl where
  N : List Str
  sc : Scope
  fn : Str → Bool
  G : List GInfo
  noG : List Str
  cs : List (Str × D)
def isVis : Option NameKind → Bool
  | some .local => true
  | some .cell => true
  | some .free => true
  | _ => false
def isGl : Option NameKind → Bool
  | some .globalImplicit => true
  | _ => false
def isLocal : Option NameKind → Bool
  | some .local => true
  | _ => false
def isCell : Option NameKind → Bool
  | some .cell => true
  | _ => false
def okName (x : Str) : Bool := !(x == ("__debug__" : Str)) && !(x == ("__classdict__" : Str))
def Ctl.vis (c : Ctl) (x : Str) : Bool := isVis (c.sc.names.lookup x) && okName x
def Ctl.gl (c : Ctl) (x : Str) : Bool := isGl (c.sc.names.lookup x)
def Ctl.loc (c : Ctl) (x : Str) : Bool := isLocal (c.sc.names.lookup x) || (isCell (c.sc.names.lookup x) && c.fn x)
def Ctl.var (c : Ctl) (i : Nat) (x : Str) : Bool := decide (c.N[i]? = some x) && c.vis x
def Ctl.blt (c : Ctl) (x : Str) : Bool := c.gl x && decide (x ∈ c.noG)
def Ctl.blk (c : Ctl) (scope : Scope) : Ctl := { c with sc := relS scope c.sc, fn := fun x => scope.names.lookup x == some .cell }
def plainT : Expr → Bool
  | .UnaryOp .Not _ _ => false
  | .BoolOp .. => false
  | .IfExp .. => false
  | .Compare .. => false
  | _ => true
def isComp : Expr → Bool
  | .ListComp .. => true
  | .SetComp .. => true
  | .DictComp .. => true
  | _ => false
def isTup : Expr → Bool
  | .Tuple .. => true
  | _ => false
def one (f : Expr → Bool) : List Expr → Bool
  | [x] => f x
  | _ => false
structure Ck where
  v : Expr → Bool := fun _ => false
  t : Expr → Bool := fun _ => false
  an : List Expr → Bool := fun _ => false
  on : List Expr → Bool := fun _ => false
  atn : List Expr → Bool := fun _ => false
  otn : List Expr → Bool := fun _ => false
  av : Expr → Bool := fun _ => false
  l : List Expr → Bool := fun _ => false
  p : List Expr → Bool := fun _ => false
  a : List Expr → Bool := fun _ => false
  kw : List Keyword → Bool := fun _ => false
  k : List (Option Expr) → List Expr → Bool := fun _ _ => false
  o : Option Expr → Bool := fun _ => false
  c : List Expr → Bool := fun _ => false
  w : Expr → Expr → Bool := fun _ _ => false
  g : Expr → Option (List Nat) := fun _ => none
  gs : List Expr → Option (List Nat) := fun _ => none
  sw : Expr → Bool := fun _ => false
def Ck.ex (v : Expr → Bool) : Ck where
  v := v
  t := fun x => plainT x && v x
  an := one v
  on := one v
  atn := one fun x => plainT x && v x
  otn := one fun x => plainT x && v x
  av := v
  o := fun x => match x with
    | some x => v x
    | none => false
  w := fun _ x => v x && !isSet x
/-- the tests are the expression's own -/
def Ck.cm (v : Expr → Bool) : Ck := { Ck.ex v with t := v, atn := one v, otn := one v }
def cstC : D → Expr → Bool
  | .int i, .Constant (.int j) _ _ => decide (i = j)
  | .bool b, .Constant (.bool d) _ _ => decide (b = d)
  | .str x, .Constant (.str y) _ _ => decide (x = y)
  | .none, .Constant .none _ _ => true
  | _, _ => false
def oC : Option Int → Option Expr → Bool
  | none, none => true
  | some i, some (.Constant (.int j) _ _) => decide (i = j)
  | _, _ => false
def eqAtom : D → D → Bool
  | .int i, .int j => decide (i = j)
  | .str x, .str y => decide (x = y)
  | .bool x, .bool y => decide (x = y)
  | .none, .none => true
  | _, _ => false
def isNil : E → Bool
  | .nil => true
  | _ => false
def own (N : List Str) (vs : List Nat) : List (Str × Nat) := vs.map fun i => (N.getD i "", i)
def ck : E → Ctl → Ck
  | .var i, c => { Ck.ex (fun e => match e with
      | .Name x _ => c.var i x
      | _ => false) with
    g := fun e => match e with
      | .Name x _ => if (decide (c.N[i]? = some x) && c.loc x) = true then some [i] else none
      | _ => none }
  | .lend i, c => { av := fun e => match e with
      | .Name x _ => c.var i x
      | _ => false }
  | .borw i, c => { av := fun e => match e with
      | .Name x _ => c.var i x
      | _ => false }
  | .cst d, _ => Ck.ex (cstC d)
  | .glb y d, c => Ck.ex fun e => match e with
      | .Name x _ => decide (x = y) && c.gl x && okName x && c.cs.any fun p => decide (p.1 = x) && eqAtom p.2 d
      | _ => false
  | .bin o a b, c => Ck.ex fun e => match e with
      | .BinOp x op y _ => decide (op = o.op) && (ck a c).v x && (ck b c).v y
      | _ => false
  | .neg a, c => Ck.ex fun e => match e with
      | .UnaryOp .USub x _ => (ck a c).v x
      | _ => false
  | .cmp o a b, c => Ck.cm fun e => match e with
      | .Compare x [op] [y] _ => decide (op = o.op) && (ck a c).v x && (ck b c).v y && !isSet y
      | _ => false
  | .chn o o' a b d, c => Ck.cm fun e => match e with
      | .Compare x [op, op'] [y, z] _ => decide (op = o.op) && decide (op' = o'.op) && (ck a c).v x && (ck b c).v y && (ck d c).v z && !isSet z
      | _ => false
  | .and a b, c =>
    let an := fun xs : List Expr => match xs with
      | x :: y :: r => (ck a c).v x && (ck b c).an (y :: r)
      | _ => false
    let atn := fun xs : List Expr => match xs with
      | x :: y :: r => (ck a c).t x && (ck b c).atn (y :: r)
      | _ => false
    { v := fun e => match e with
        | .BoolOp .And xs _ => an xs
        | _ => false
      t := fun e => match e with
        | .BoolOp .And xs _ => atn xs
        | _ => false
      an := an
      atn := atn
      otn := one fun e => match e with
        | .BoolOp .And xs _ => atn xs
        | _ => false
      on := one fun e => match e with
        | .BoolOp .And xs _ => an xs
        | _ => false
      av := fun e => match e with
        | .BoolOp .And xs _ => an xs
        | _ => false }
  | .or a b, c =>
    let on := fun xs : List Expr => match xs with
      | x :: y :: r => (ck a c).v x && (ck b c).on (y :: r)
      | _ => false
    let otn := fun xs : List Expr => match xs with
      | x :: y :: r => (ck a c).t x && (ck b c).otn (y :: r)
      | _ => false
    { v := fun e => match e with
        | .BoolOp .Or xs _ => on xs
        | _ => false
      t := fun e => match e with
        | .BoolOp .Or xs _ => otn xs
        | _ => false
      on := on
      otn := otn
      atn := one fun e => match e with
        | .BoolOp .Or xs _ => otn xs
        | _ => false
      an := one fun e => match e with
        | .BoolOp .Or xs _ => on xs
        | _ => false
      av := fun e => match e with
        | .BoolOp .Or xs _ => on xs
        | _ => false }
  | .not a, c =>
    let t := fun e : Expr => match e with
      | .UnaryOp .Not x _ => (ck a c).t x
      | _ => false
    { Ck.ex (fun e => match e with
      | .UnaryOp .Not x _ => (ck a c).v x
      | _ => false) with t := t, atn := one t, otn := one t }
  | .ite t a b, c => Ck.ex fun e => match e with
      | .IfExp x y z _ => (ck t c).t x && (ck a c).v y && (ck b c).v z
      | _ => false
  | .tup es, c => { Ck.ex (fun e => match e with
      | .Tuple xs _ _ => (ck es c).l xs
      | _ => false) with
    g := fun e => match e with
      | .Tuple xs _ _ => (ck es c).gs xs
      | _ => none }
  | .lst es, c => Ck.ex fun e => match e with
      | .List xs _ => (ck es c).l xs
      | _ => false
  | .dct kvs, c => Ck.ex fun e => match e with
      | .Dict ks vs _ => (ck kvs c).k ks vs && !ks.isEmpty && decide (ks.length ≤ 15)
      | _ => false
  | .idx a b, c => Ck.ex fun e => match e with
      | .Subscript x y _ => (ck a c).v x && (ck b c).v y && !isSlice y
      | _ => false
  | .sli a lo hi, c => Ck.ex fun e => match e with
      | .Subscript x (.Slice l h none _) _ => (ck a c).v x && (ck lo c).o l && (ck hi c).o h
      | _ => false
  | .rev a, c => Ck.ex fun e => match e with
      | .Subscript x (.Slice none none (some (.UnaryOp .USub (.Constant (.int 1) _ _) _)) _) _ => (ck a c).v x
      | _ => false
  | .sls i lo hi, c => Ck.ex fun e => match e with
      | .Subscript (.Name x _) (.Slice l h none _) _ => c.var i x && oC lo l && oC hi h
      | _ => false
  | .isi a ts, c => Ck.ex fun e => match e, ts with
      | .Call (.Name f _) [x, .Name y _] [] _, [t] => decide (f = "isinstance") && c.blt f && (ck a c).v x && !isStar x && decide (y = t.nm) && c.blt y
      | _, _ => false
  | .blt f as, c => Ck.ex fun e => match e with
      | .Call (.Name x _) (y :: r) [] _ => decide (x = f.name) && c.blt x && (ck as c).p (y :: r)
      | _ => false
  | .call g as, c => Ck.ex fun e => match e, c.G[g]? with
      | .Call (.Name x _) es [] _, some i => decide (x = i.name) && c.gl x && okName x && (match es with
        | [] => isNil as
        | y :: r => (ck as c).a (y :: r))
      | _, _ => false
  | .callk g _ as, c => Ck.ex fun e => match e, c.G[g]? with
      | .Call (.Name x _) [] kws _, some i => decide (x = i.name) && c.gl x && okName x && (ck as c).kw kws && decide (kws.map (·.arg) = i.ps.map some)
      | _, _ => false
  | .join o a, c => Ck.ex fun e => match e with
      | .Call (.Attribute x m ap) [y] [] p => decide (m = "join") && (ck o c).v x && (ck a c).v y && !isBare x && !isStar y && (ap.endLine == p.line)
      | _ => false
  | .get1 o k, c => Ck.ex fun e => match e with
      | .Call (.Attribute x m ap) [y] [] p => decide (m = "get") && (ck o c).v x && (ck k c).v y && !isBare x && !isStar y && (ap.endLine == p.line)
      | _ => false
  | .get2 o k d, c => Ck.ex fun e => match e with
      | .Call (.Attribute x m ap) [y, z] [] p => decide (m = "get") && (ck o c).v x && (ck k c).v y && (ck d c).v z && !isBare x && !isStar y && !isStar z && (ap.endLine == p.line)
      | _ => false
  | .app i a, c => Ck.ex fun e => match e with
      | .Call (.Attribute (.Name x _) m ap) [y] [] p => decide (m = "append") && c.var i x && (ck a c).v y && !isStar y && (ap.endLine == p.line)
      | _ => false
  | .pop0 i, c => Ck.ex fun e => match e with
      | .Call (.Attribute (.Name x _) m ap) [] [] p => decide (m = "pop") && c.var i x && (ap.endLine == p.line)
      | _ => false
  | .pop1 i a, c => Ck.ex fun e => match e with
      | .Call (.Attribute (.Name x _) m ap) [y] [] p => decide (m = "pop") && c.var i x && (ck a c).v y && !isStar y && (ap.endLine == p.line)
      | _ => false
  | .lc elt tg it ifs vs, c =>
    let v := fun e : Expr => match e with
      | .ListComp y [⟨t, i, fs, z⟩] scope _ => decide (z = 0) && (ck it c).w t i && blkC c.N c.sc scope (own c.N vs) && (match (ck tg (c.blk scope)).g t with
        | some ts => ts.all fun j => decide (j ∈ vs)
        | none => false) && (ck ifs (c.blk scope)).c fs && (ck elt (c.blk scope)).v y
      | _ => false
    { Ck.ex v with sw := v }
  | .nil, _ => {
      l := fun xs => xs.isEmpty
      p := fun xs => xs.isEmpty
      a := fun xs => xs.isEmpty
      kw := fun xs => xs.isEmpty
      k := fun xs ys => xs.isEmpty && ys.isEmpty
      o := fun x => x.isNone
      c := fun xs => xs.isEmpty
      gs := fun xs => if xs.isEmpty = true then some [] else none }
  | .cons a r, c => {
      l := fun xs => match xs with
        | x :: xs => (ck a c).v x && !isStar x && (ck r c).l xs
        | [] => false
      p := fun xs => match xs with
        | x :: xs => (ck a c).v x && !isStar x && (ck r c).p xs
        | [] => false
      a := fun xs => match xs with
        | x :: xs => (ck a c).av x && !isStar x && (ck r c).a xs
        | [] => false
      kw := fun xs => match xs with
        | ⟨some _, x, _⟩ :: xs => (ck a c).av x && (ck r c).kw xs
        | _ => false
      c := fun xs => match xs with
        | [x] => (ck a c).t x && isNil r
        | _ => false
      gs := fun xs => match xs with
        | x :: xs => match (ck a c).g x, (ck r c).gs xs with
          | some ts, some us => some (ts ++ us)
          | _, _ => none
        | [] => none }
  | .star _ _, _ => {}
  | .kv a b r, c => {
      k := fun ks vs => match ks, vs with
        | some x :: ks, y :: vs => (ck a c).v x && (ck b c).v y && (ck r c).k ks vs
        | _, _ => false }
  | .range as, c => { w := fun _ e => match e with
      | .Call (.Name f _) [x] [] _ => decide (f = "range") && c.blt f && (ck as c).p [x]
      | .Call (.Name f _) [x, y] [] _ => decide (f = "range") && c.blt f && (ck as c).p [x, y]
      | _ => false }
  | .zip a b, c => { w := fun t e => match e with
      | .Call (.Name f _) [x, y] [] _ => isTup t && decide (f = "zip") && c.blt f && (ck a c).v x && (ck b c).v y && !isStar x && !isStar y
      | _ => false }
  | .enum a, c => { w := fun t e => match e with
      | .Call (.Name f _) [x] [] _ => isTup t && decide (f = "enumerate") && c.blt f && (ck a c).v x && !isStar x
      | _ => false }
/-- stored in the targets' order, one after another -/
def inOrder (c : Ctl) (t y : Expr) : Bool := match t, y with
  | .Tuple ts _ _, .Tuple _ _ _ => ts.any fun x => match x with
    | .Name x _ => !isLocal (c.sc.names.lookup x)
    | _ => true
  | .Tuple _ _ _, _ => true
  | _, _ => false
/-- whether a list made in one line stands to be stored by its block -/
def swC (c : Ctl) (x : Str) (p : Pos) (y : Expr) : Bool := match y with
  | .ListComp _ _ s pos => isLocal (c.sc.names.lookup x) && (p.line == pos.line) && !(s.names.any fun (n, k) => n == x && (k == .local || k == .cell))
  | .SetComp .. => true
  | .DictComp .. => true
  | _ => false
def ckS : C → Ctl → List Stmt → Bool
  | .nop, _, [] => true
  | .exp e k, c, .Expr x _ :: r => (ck e c).v x && !isComp x && ckS k c r
  | .set i e k, c, .Assign [.Name x p] y _ :: r => decide (c.N[i]? = some x) && (if swC c x p y = true then isLocal (c.sc.names.lookup x) && (ck e c).sw y else c.loc x && (ck e c).v y) && ckS k c r
  | .asg t e k, c, .Assign [tg] y _ :: r => isTup tg && inOrder c tg y && (ck e c).v y && ((ck t c).g tg).isSome && ckS k c r
  | .par i j a b k, c, .Assign [.Tuple [.Name x px, .Name y py] _ _] (.Tuple [a', b'] _ _) _ :: r => decide (c.N[i]? = some x) && decide (c.N[j]? = some y) && decide (i ≠ j) && decide (x ≠ y) && isLocal (c.sc.names.lookup x) && isLocal (c.sc.names.lookup y) &&
      (ck a c).v a' && (ck b c).v b' && !isStar a' && !isStar b' && (px.line == py.line) && !([a', b'].all (foldedForSure 8)) && !([a', b'].all (constantsAlone 8)) && ckS k c r
  | .sti i key v k, c, .Assign [.Subscript (.Name x _) e _] y _ :: r => c.var i x && (ck key c).v e && (ck v c).v y && ckS k c r
  | .ret e, c, [.Return (some x) _] => (ck e c).v x
  | .ite t a b k, c, .If x y z _ :: r => (ck t c).t x && ckS a c y && ckS b c z && ckS k c r
  | .for_ t it b k, c, .For tg iter body [] _ :: r => (ck it c).w tg iter && ((ck t c).g tg).isSome && ckS b c body && ckS k c r
  | .whl t b k, c, .While x body [] _ :: r => (ck t c).t x && ckS b c body && ckS k c r
  | _, _, _ => false
end Ded
end

section
set_option Elab.async false
set_option linter.all false
set_option maxRecDepth 100000
/-! What is checked, holds. -/
namespace Ded
open PySem L2
structure Good (c : Ctl) (k : Nat) (cd : Nat → List Val → List D → R Val) (xc : Xc) (X : Cx) (Wi : XK) : Prop where
  calm : X.calm = true
  nd : X.N.Nodup
  N : X.N = c.N
  sc : X.env.scope = c.sc
  kind : c.sc.kind = .function
  fn : X.fn = c.fn
  room : Room k X.A
  gd : X.A.guards = some []
  noG : ∀ x, x ∈ c.noG → X.mg x = none
  cs : ∀ p, p ∈ c.cs → ∃ v u, X.mg p.1 = some u ∧ RelV v u ∧ ∀ F H, Rf X.K F H v p.2
  G : ∀ g i, c.G[g]? = some i → ∃ f fd, X.mg i.name = some (.ref f) ∧ PySem.W.keepIn X.K (.ref f) = true ∧ Binds X.K fd i.ps [] ∧
    (∀ (s : Shared) (us : List Value), X.K.In s.heap → us.length = i.ps.length → BindsTo s fd ⟨[], i.ps.zip us⟩ (i.ps.zip us)) ∧ FnG X.prog X.w X.K X.mg X.base k f fd i.ps (spD X.K xc (cd g) i.ps.length)
  hn : ∀ g i, c.G[g]? = some i → ∀ us μ, us.length ≠ i.ps.length → cd g us μ = .bad
  pass : Passes (L2.CX X.prog X.w) X Wi
structure Snd (xc : Xc) (X : Cx) (Wi : XK) (k : Ck) (d : Den) : Prop where
  v : ∀ x, k.v x = true → ∀ en, PEd X en xc Wi x d.v
  t : ∀ x, k.t x = true → ∀ en, PTd X en xc Wi x d.t
  an : ∀ xs, k.an xs = true → ∀ en p, PEd X en xc Wi (.BoolOp .And xs p) d.v
  on : ∀ xs, k.on xs = true → ∀ en p, PEd X en xc Wi (.BoolOp .Or xs p) d.v
  atn : ∀ xs, k.atn xs = true → ∀ en p, PW X (.BoolOp .And xs p) (TT' X.K en xc Wi d.t)
  otn : ∀ xs, k.otn xs = true → ∀ en p, PW X (.BoolOp .Or xs p) (TT' X.K en xc Wi d.t)
  av : ∀ x, k.av x = true → ∀ en, PE X x (T1 X.K en xc Wi (RAr X.K) d.av)
  l : ∀ xs, k.l xs = true → ∀ en, PA X xs (TL X.K en xc Wi (RFz X.K) d.l)
  p : ∀ xs, k.p xs = true → ∀ en, PA X xs (TL X.K en xc Wi (ROp X.K) d.p)
  pn : ∀ xs, k.p xs = true → nLen d.p xs.length
  ps : ∀ xs, k.p xs = true → (xs.all fun e => !isStar e) = true
  a : ∀ xs, k.a xs = true → ∀ en, PA X xs (TL X.K en xc Wi (RAr X.K) d.a)
  as : ∀ xs, k.a xs = true → (xs.all fun e => !isStar e) = true
  kw : ∀ xs, k.kw xs = true → ∀ en, PK X xs (TL X.K en xc Wi (RAr X.K) d.a)
  dk : ∀ ks vs, k.k ks vs = true → ∀ en pos, PKv X en xc Wi pos ks vs d.k
  o : ∀ x, k.o x = true → ∀ en, PO X x (TO' X en xc Wi d.o)
  c : ∀ xs, k.c xs = true → ∀ en, PTs X xs (TT' X.K en xc Wi d.c)
  w : ∀ t x, k.w t x = true → isSet x = false ∧ ∀ en, PId X en xc Wi t x d.w
  g : ∀ x ts, k.g x = some ts → ∀ en, PGd X en x ts d.g
  gs : ∀ x ts, k.gs x = some ts → ∀ en, PGsd X en x ts d.gs
  sw : ∀ y, k.sw y = true → ∀ en x p i spos, X.N[i]? = some x → X.env.scope.names.lookup x = some .local → swapsWith y (some (.Name x p)) spos.line X.env = pure true → PS X (.Assign [.Name x p] y spos) (TS' X.K en xc Wi (kSet i d.v))
section
variable {c : Ctl} {k : Nat} {cd : Nat → List Val → List D → R Val} {xc : Xc} {X : Cx} {Wi : XK} {d : Den} {m : M Val} {x : Str} {i : Nat}
theorem Snd.no : Snd xc X Wi {} d where
  v := fun _ h => nomatch h
  t := fun _ h => nomatch h
  an := fun _ h => nomatch h
  on := fun _ h => nomatch h
  atn := fun _ h => nomatch h
  otn := fun _ h => nomatch h
  av := fun _ h => nomatch h
  l := fun _ h => nomatch h
  p := fun _ h => nomatch h
  pn := fun _ h => nomatch h
  ps := fun _ h => nomatch h
  a := fun _ h => nomatch h
  as := fun _ h => nomatch h
  kw := fun _ h => nomatch h
  dk := fun _ _ h => nomatch h
  o := fun _ h => nomatch h
  c := fun _ h => nomatch h
  w := fun _ _ h => nomatch h
  g := fun _ _ h => nomatch h
  gs := fun _ _ h => nomatch h
  sw := fun _ h => nomatch h
theorem plain_test {a : Expr} (h : plainT a = true) : ∀ {env : Env} (whole : Sem Value), isTrue a env whole = (do let v ← whole; standAt a.pos; holding [v] (truthy v)) := by
  intro env whole
  cases a <;> first | rfl | (cases h; done) | skip
  rename_i op _ _
  cases op <;> first | rfl | cases h
theorem one_eq {f : Expr → Bool} {xs : List Expr} (h : one f xs = true) : ∃ x, xs = [x] ∧ f x = true := by
  match xs, h with
  | [x], h => exact ⟨x, rfl, h⟩
theorem and2 {a b : Bool} (h : (a && b) = true) : a = true ∧ b = true := by simpa using h
theorem notF {a : Bool} (h : (!a) = true) : a = false := by simpa using h
theorem Snd.ex {v : Expr → Bool} (h : ∀ x, v x = true → ∀ en, PEd X en xc Wi x m) : Snd xc X Wi (Ck.ex v) (Den.ex m) := by
  have ht : ∀ x, (plainT x && v x) = true → ∀ en, PTd X en xc Wi x (tTru m) := fun x q en => by
    obtain ⟨q1, q2⟩ := and2 q
    exact d_tru (h x q2 en) fun whole => plain_test q1 whole
  exact { (Snd.no : Snd xc X Wi {} (Den.ex m)) with
    v := h
    t := ht
    an := fun xs q en p => by obtain ⟨x, rfl, q⟩ := one_eq q; exact d_one (h x q en)
    on := fun xs q en p => by obtain ⟨x, rfl, q⟩ := one_eq q; exact d_one (h x q en)
    atn := fun xs q en p => by obtain ⟨x, rfl, q⟩ := one_eq q; exact d_and1 (ht x q en)
    otn := fun xs q en p => by obtain ⟨x, rfl, q⟩ := one_eq q; exact d_or1 (ht x q en)
    av := fun x q en => d_arg (h x q en)
    o := fun x q en => by
      cases x with
      | none => cases q
      | some x => exact d_oint (h x q en)
    w := fun t x q => by
      obtain ⟨q1, q2⟩ := and2 q
      exact ⟨notF q2, fun en => w_of (h x q1 en)⟩ }
theorem Snd.cm {v : Expr → Bool} (h : ∀ x, v x = true → ∀ en, PEd X en xc Wi x m) (ht : ∀ x, v x = true → ∀ en, PTd X en xc Wi x (tTru m)) : Snd xc X Wi (Ck.cm v) (Den.ex m) :=
  { Snd.ex h with
    t := ht
    atn := fun xs q en p => by obtain ⟨x, rfl, q⟩ := one_eq q; exact d_and1 (ht x q en)
    otn := fun xs q en p => by obtain ⟨x, rfl, q⟩ := one_eq q; exact d_or1 (ht x q en) }
theorem vis_ok {o : Option NameKind} (h : isVis o = true) : o = some .local ∨ o = some .cell ∨ o = some .free := by
  unfold isVis at h
  split at h <;> first | exact .inl rfl | exact .inr (.inl rfl) | exact .inr (.inr rfl) | cases h
theorem gl_ok {o : Option NameKind} (h : isGl o = true) : o = some .globalImplicit := by
  unfold isGl at h
  split at h <;> first | rfl | cases h
theorem local_ok {o : Option NameKind} (h : isLocal o = true) : o = some .local := by
  unfold isLocal at h
  split at h <;> first | rfl | cases h
theorem cell_ok {o : Option NameKind} (h : isCell o = true) : o = some .cell := by
  unfold isCell at h
  split at h <;> first | rfl | cases h
theorem name_ok (h : okName x = true) : (x == ("__debug__" : Str)) = false ∧ (x == ("__classdict__" : Str)) = false := by
  obtain ⟨a, b⟩ := and2 h
  exact ⟨notF a, notF b⟩
theorem Good.gl (G : Good c k cd xc X Wi) (h : c.gl x = true) : Gl X x := by
  have e := gl_ok h
  rw [← G.sc] at e
  exact e
theorem Good.var (G : Good c k cd xc X Wi) (h : c.var i x = true) : X.N[i]? = some x ∧ Vis X.env.scope x ∧ (x == ("__debug__" : Str)) = false ∧ (x == ("__classdict__" : Str)) = false := by
  obtain ⟨h1, h2⟩ := and2 h
  obtain ⟨h2, h3⟩ := and2 h2
  have e := vis_ok h2
  rw [← G.sc] at e
  exact ⟨by rw [G.N]; exact of_decide_eq_true h1, e, name_ok h3⟩
theorem Good.loc (G : Good c k cd xc X Wi) (h : c.loc x = true) : Loc X.env.scope x ∧ (X.fn x = true ∨ X.env.scope.names.lookup x = some .local) := by
  unfold Ctl.loc at h
  rw [← G.sc, ← G.fn] at h
  rcases (by simpa using h : isLocal (X.env.scope.names.lookup x) = true ∨ _) with h | ⟨h, h2⟩
  · exact ⟨.inl (local_ok h), .inr (local_ok h)⟩
  · exact ⟨.inr (cell_ok h), .inl h2⟩
theorem Good.blt (G : Good c k cd xc X Wi) (h : c.blt x = true) : Gl X x ∧ X.mg x = none := by
  obtain ⟨h1, h2⟩ := and2 h
  exact ⟨G.gl h1, G.noG x (of_decide_eq_true h2)⟩
theorem Good.units (G : Good c k cd xc X Wi) : X.A.units + 65 < cLine := by
  have := G.room.un
  omega
theorem Good.units1 (G : Good c k cd xc X Wi) : X.A.units + 1 < cLine := by
  have := G.room.un
  omega
theorem Good.blk {scope : Scope} (G : Good c k cd xc X Wi) (hk : scope.kind = .function) (s : Shared) (H : Hp) (C : Addr) (cl : List (Str × Addr)) (fp : List Addr) : Good (c.blk scope) k cd xc (X.blk s H scope (compEnvC scope cl C X.env) fp) (fun _ _ _ => False) where
  calm := G.calm
  nd := G.nd
  N := G.N
  sc := by rw [show (c.blk scope).sc = relS scope c.sc from rfl, ← G.sc]; rfl
  kind := hk
  fn := rfl
  room := G.room
  gd := G.gd
  noG := G.noG
  cs := G.cs
  G := G.G
  hn := G.hn
  pass := passL
theorem oC_ok {lo : Option Int} {e : Option Expr} (h : oC lo e = true) : PO X e fun σ H Q => Q lo H := by
  unfold oC at h
  split at h
  · exact po_none
  · rename_i i j _ _
    have e := of_decide_eq_true h
    subst e
    have z := po_some (X := X) (pe_int (X := X) (i := i) (j := ‹Nat›) (pos := ‹Pos›))
    exact ⟨fun pins s σ H Q I q => z.run pins s σ H Q I ⟨_, rfl, q⟩⟩
  · cases h
theorem cst_ok {d : D} {e : Expr} (h : cstC d e = true) : ∀ en, PEd X en xc Wi e (M.ret (.dat d)) := by
  intro en
  unfold cstC at h
  split at h
  · cases of_decide_eq_true h
    exact d_atom pe_int fun _ _ => .int _
  · cases of_decide_eq_true h
    exact d_atom pe_bl fun _ _ => .bl _
  · cases of_decide_eq_true h
    exact d_atom pe_str fun _ _ => .str _
  · exact d_atom pe_non fun _ _ => .non
  · cases h
theorem atom_eq {d d' : D} (h : eqAtom d d' = true) : d = d' := by
  unfold eqAtom at h
  split at h <;> first | rfl | (cases of_decide_eq_true h; rfl) | cases h
theorem kw_map {pos : Pos} {env : Env} : ∀ {kws : List Keyword}, (backToKw pos (keywordEach kws env)).map (·.1) = kws.map (·.arg)
  | [] => rfl
  | ⟨n, e, p⟩ :: kws => by
    have := kw_map (pos := pos) (env := env) (kws := kws)
    show n :: (backToKw pos (keywordEach kws env)).map (·.1) = n :: kws.map (·.arg)
    rw [this]
theorem kw_all {α : Type} {l : List (Option Str × α)} {ps : List Str} (h : l.map (·.1) = ps.map some) : l.all (·.1.isSome) = true ∧ l.filterMap (·.1) = ps ∧ l.any (·.1.isNone) = false := by
  induction l generalizing ps with
  | nil =>
    cases ps with
    | nil => exact ⟨rfl, rfl, rfl⟩
    | cons _ _ => cases h
  | cons a l ih =>
    cases ps with
    | nil => cases h
    | cons p ps =>
      obtain ⟨n, y⟩ := a
      rw [List.map_cons, List.map_cons] at h
      obtain ⟨h1, h2⟩ := List.cons.inj h
      have h1 : n = some p := h1
      subst h1
      obtain ⟨a, b, c⟩ := ih h2
      refine ⟨?_, ?_, ?_⟩
      · rw [List.all_cons, a]; rfl
      · rw [List.filterMap_cons]; simp [b]
      · rw [List.any_cons, c]; rfl
theorem tand_ret {t : M Bool} : tAnd' t (M.ret true) = t := by
  funext s
  unfold tAnd' M.bind
  cases t s with
  | ok a s' => cases a <;> rfl
  | exc _ _ _ => rfl
  | bad => rfl
theorem PTs.imp {es : List Expr} {t t' : TT} (h : PTs X es t) (q : ∀ σ H Q, t' σ H Q → t σ H Q) : PTs X es t' := ⟨fun pins s σ H Q I z => h.run pins s σ H Q I (q σ H Q z)⟩
theorem any_ts {es : List Expr} {c : M Bool} (h : ∀ en, PTs X es (TT' X.K en xc (fun _ _ _ => False) c)) : PTs X es (tAny X.K xc c) := ⟨fun pins s σ H Q I ⟨en, z⟩ => (h en).run pins s σ H Q I z⟩
theorem own_ix {N : List Str} {vs : List Nat} : (own N vs).map (·.2) = vs := by
  unfold own
  rw [List.map_map]
  exact List.map_id' vs
theorem isNil_eq {e : E} (h : isNil e = true) : e = .nil := by
  cases e <;> first | rfl | cases h
end
end Ded
end

section
set_option Elab.async false
set_option linter.all false
set_option maxRecDepth 100000
/-! Every expression. -/
namespace Ded
open PySem L2
section
variable {c : Ctl} {k : Nat} {cd : Nat → List Val → List D → R Val} {xc : Xc} {X : Cx} {Wi : XK} {d : Den} {m : M Val} {x : Str} {i : Nat}
theorem all_star {x : Expr} {xs : List Expr} (h : ((x :: xs).all fun e => !isStar e) = true) : isStar x = false ∧ (xs.all fun e => !isStar e) = true := by
  rw [List.all_cons] at h
  obtain ⟨a, b⟩ := and2 h
  exact ⟨notF a, b⟩
/-- ranges, of any arguments -/
theorem w_rng1 {en : Entry} {tg e : Expr} {p pos : Pos} {l : M (List Val)} (hg : Gl X "range") (hm : X.mg "range" = none) (ha : PA X [e] (TL X.K en xc Wi (ROp X.K) l)) (hn : nLen l 1) (hs : isStar e = false) : PId X en xc Wi tg (.Call (.Name "range" p) [e] [] pos) (wRange l) := by
  refine PI.imp (pi_range1 hg hm ha (star_cons hs)) fun σ H R h => TL.imp (TL.len hn (rng_core h)) fun vs H1 ⟨hl, q⟩ => ?_
  rcases q with q | ⟨i, j, rfl, _⟩
  · exact q
  · cases hl
theorem w_rng2 {en : Entry} {tg e e2 : Expr} {p pos : Pos} {l : M (List Val)} (hg : Gl X "range") (hm : X.mg "range" = none) (ha : PA X [e, e2] (TL X.K en xc Wi (ROp X.K) l)) (hn : nLen l 2) (hs : isStar e = false) (hs2 : isStar e2 = false) : PId X en xc Wi tg (.Call (.Name "range" p) [e, e2] [] pos) (wRange l) := by
  refine PI.imp (pi_range2 hg hm ha (by rw [star_cons hs, star_cons hs2]; rfl) (star_cons hs2)) fun σ H R h => TL.imp (TL.len hn (rng_core h)) fun vs H1 ⟨hl, q⟩ => ?_
  rcases q with ⟨j, rfl, _⟩ | q
  · cases hl
  · exact q
theorem snd : ∀ (e : E) {c : Ctl} {X : Cx} {Wi : XK}, Good c k cd xc X Wi → Snd xc X Wi (ck e c) (den cd e) := by
  intro e
  induction e with
  | var i =>
    intro c X Wi G
    refine { Snd.ex (xc := xc) (X := X) (Wi := Wi) (m := mVar i) (v := fun e => match e with
      | .Name x _ => c.var i x
      | _ => false) (fun x h en => ?_) with g := fun x ts h en => ?_ }
    · skip
      split at h
      · obtain ⟨a, b, c', d⟩ := G.var h
        exact d_var a b c' d
      · cases h
    · replace h : (match (generalizing := false) x with
        | .Name x _ => if (decide (c.N[i]? = some x) && c.loc x) = true then some [i] else none
        | _ => none) = some ts := h
      split at h
      · split at h
        · rename_i q
          cases h
          obtain ⟨q1, q2⟩ := and2 q
          obtain ⟨l1, l2⟩ := G.loc q2
          exact g_name G.nd (by rw [G.N]; exact of_decide_eq_true q1) l1 l2
        · cases h
      · cases h
  | lend i =>
    intro c X Wi G
    refine { (Snd.no : Snd xc X Wi {} _) with av := fun x h en => ?_ }
    replace h : (match (generalizing := false) x with
      | .Name x _ => c.var i x
      | _ => false) = true := h
    split at h
    · obtain ⟨a, b, c', d⟩ := G.var h
      exact a_lend a b c' d
    · cases h
  | borw i =>
    intro c X Wi G
    refine { (Snd.no : Snd xc X Wi {} _) with av := fun x h en => ?_ }
    replace h : (match (generalizing := false) x with
      | .Name x _ => c.var i x
      | _ => false) = true := h
    split at h
    · obtain ⟨a, b, c', d⟩ := G.var h
      exact a_borw a b c' d
    · cases h
  | cst d =>
    intro c X Wi G
    exact Snd.ex fun x h en => cst_ok h en
  | glb y d =>
    intro c X Wi G
    refine Snd.ex fun x h en => ?_
    split at h
    · obtain ⟨h, h4⟩ := and2 h
      obtain ⟨h, h3⟩ := and2 h
      obtain ⟨h1, h2⟩ := and2 h
      obtain ⟨p, hp, hq⟩ := List.any_eq_true.mp h4
      obtain ⟨q1, q2⟩ := and2 hq
      obtain ⟨v, u, e1, r, e2⟩ := G.cs p hp
      have e3 := of_decide_eq_true q1
      have e4 := atom_eq q2
      subst e4
      rw [e3] at e1
      exact d_atom (pe_glob (G.gl h2) e1 r (name_ok h3).1) e2
    · cases h
  | bin o a b iha ihb =>
    intro c X Wi G
    refine Snd.ex fun x h en => ?_
    split at h
    · obtain ⟨h, h3⟩ := and2 h
      obtain ⟨h1, h2⟩ := and2 h
      have e := of_decide_eq_true h1
      subst e
      exact d_bin ((iha G).v _ h2 en) ((ihb G).v _ h3 en)
    · cases h
  | neg a iha =>
    intro c X Wi G
    refine Snd.ex fun x h en => ?_
    split at h
    · exact d_neg ((iha G).v _ h en)
    · cases h
  | cmp o a b iha ihb =>
    intro c X Wi G
    refine Snd.cm (fun x h en => ?_) (fun x h en => ?_)
    · skip
      split at h
      · obtain ⟨h, h4⟩ := and2 h
        obtain ⟨h, h3⟩ := and2 h
        obtain ⟨h1, h2⟩ := and2 h
        have e := of_decide_eq_true h1
        subst e
        exact d_cmp G.units ((iha G).v _ h2 en) ((ihb G).v _ h3 en) (marks_not (notF h4))
      · cases h
    · skip
      split at h
      · obtain ⟨h, h4⟩ := and2 h
        obtain ⟨h, h3⟩ := and2 h
        obtain ⟨h1, h2⟩ := and2 h
        have e := of_decide_eq_true h1
        subst e
        exact d_tcmp G.units ((iha G).v _ h2 en) ((ihb G).v _ h3 en) (marks_not (notF h4))
      · cases h
  | chn o o' a b l iha ihb ihl =>
    intro c X Wi G
    refine Snd.cm (fun x h en => ?_) (fun x h en => ?_)
    · skip
      split at h
      · obtain ⟨h, h6⟩ := and2 h
        obtain ⟨h, h5⟩ := and2 h
        obtain ⟨h, h4⟩ := and2 h
        obtain ⟨h, h3⟩ := and2 h
        obtain ⟨h1, h2⟩ := and2 h
        have e := of_decide_eq_true h1
        have e' := of_decide_eq_true h2
        subst e e'
        exact d_chn G.units ((iha G).v _ h3 en) ((ihb G).v _ h4 en) ((ihl G).v _ h5 en) (last_not (notF h6))
      · cases h
    · skip
      split at h
      · obtain ⟨h, h6⟩ := and2 h
        obtain ⟨h, h5⟩ := and2 h
        obtain ⟨h, h4⟩ := and2 h
        obtain ⟨h, h3⟩ := and2 h
        obtain ⟨h1, h2⟩ := and2 h
        have e := of_decide_eq_true h1
        have e' := of_decide_eq_true h2
        subst e e'
        exact d_tchn G.units ((iha G).v _ h3 en) ((ihb G).v _ h4 en) ((ihl G).v _ h5 en) (last_not (notF h6))
      · cases h
  | and a b iha ihb =>
    intro c X Wi G
    have an : ∀ (xs : List Expr), (match xs with
        | x :: y :: r => (ck a c).v x && (ck b c).an (y :: r)
        | _ => false) = true → ∀ en p, PEd X en xc Wi (.BoolOp .And xs p) (mAnd (den cd a).v (den cd b).v) := fun xs h en p => by
      split at h
      · obtain ⟨h1, h2⟩ := and2 h
        exact d_and ((iha G).v _ h1 en) ((ihb G).an _ h2 en p)
      · cases h
    have atn : ∀ (xs : List Expr), (match xs with
        | x :: y :: r => (ck a c).t x && (ck b c).atn (y :: r)
        | _ => false) = true → ∀ en p, PW X (.BoolOp .And xs p) (TT' X.K en xc Wi (tAnd' (den cd a).t (den cd b).t)) := fun xs h en p => by
      split at h
      · obtain ⟨h1, h2⟩ := and2 h
        exact d_tand ((iha G).t _ h1 en) ((ihb G).atn _ h2 en p)
      · cases h
    have v : ∀ x : Expr, (match x with
        | .BoolOp .And xs _ => (match xs with
          | x :: y :: r => (ck a c).v x && (ck b c).an (y :: r)
          | _ => false)
        | _ => false) = true → ∀ en, PEd X en xc Wi x (mAnd (den cd a).v (den cd b).v) := fun x h en => by
      split at h
      · exact an _ h en _
      · cases h
    have t : ∀ x : Expr, (match x with
        | .BoolOp .And xs _ => (match xs with
          | x :: y :: r => (ck a c).t x && (ck b c).atn (y :: r)
          | _ => false)
        | _ => false) = true → ∀ en, PTd X en xc Wi x (tAnd' (den cd a).t (den cd b).t) := fun x h en => by
      split at h
      · exact (atn _ h en _).pt
      · cases h
    exact { (Snd.no : Snd xc X Wi {} (den cd (.and a b))) with
      v := v
      t := t
      an := an
      atn := atn
      otn := fun xs q en p => by obtain ⟨x, rfl, q⟩ := one_eq q; exact d_or1 (t x q en)
      on := fun xs q en p => by obtain ⟨x, rfl, q⟩ := one_eq q; exact d_one (v x q en)
      av := fun x q en => d_arg (v x q en) }
  | or a b iha ihb =>
    intro c X Wi G
    have on : ∀ (xs : List Expr), (match xs with
        | x :: y :: r => (ck a c).v x && (ck b c).on (y :: r)
        | _ => false) = true → ∀ en p, PEd X en xc Wi (.BoolOp .Or xs p) (mOr (den cd a).v (den cd b).v) := fun xs h en p => by
      split at h
      · obtain ⟨h1, h2⟩ := and2 h
        exact d_or ((iha G).v _ h1 en) ((ihb G).on _ h2 en p)
      · cases h
    have otn : ∀ (xs : List Expr), (match xs with
        | x :: y :: r => (ck a c).t x && (ck b c).otn (y :: r)
        | _ => false) = true → ∀ en p, PW X (.BoolOp .Or xs p) (TT' X.K en xc Wi (tOr' (den cd a).t (den cd b).t)) := fun xs h en p => by
      split at h
      · obtain ⟨h1, h2⟩ := and2 h
        exact d_tor ((iha G).t _ h1 en) ((ihb G).otn _ h2 en p)
      · cases h
    have v : ∀ x : Expr, (match x with
        | .BoolOp .Or xs _ => (match xs with
          | x :: y :: r => (ck a c).v x && (ck b c).on (y :: r)
          | _ => false)
        | _ => false) = true → ∀ en, PEd X en xc Wi x (mOr (den cd a).v (den cd b).v) := fun x h en => by
      split at h
      · exact on _ h en _
      · cases h
    have t : ∀ x : Expr, (match x with
        | .BoolOp .Or xs _ => (match xs with
          | x :: y :: r => (ck a c).t x && (ck b c).otn (y :: r)
          | _ => false)
        | _ => false) = true → ∀ en, PTd X en xc Wi x (tOr' (den cd a).t (den cd b).t) := fun x h en => by
      split at h
      · exact (otn _ h en _).pt
      · cases h
    exact { (Snd.no : Snd xc X Wi {} (den cd (.or a b))) with
      v := v
      t := t
      on := on
      otn := otn
      atn := fun xs q en p => by obtain ⟨x, rfl, q⟩ := one_eq q; exact d_and1 (t x q en)
      an := fun xs q en p => by obtain ⟨x, rfl, q⟩ := one_eq q; exact d_one (v x q en)
      av := fun x q en => d_arg (v x q en) }
  | not a iha =>
    intro c X Wi G
    have t : ∀ x : Expr, (match x with
        | .UnaryOp .Not x _ => (ck a c).t x
        | _ => false) = true → ∀ en, PTd X en xc Wi x (tNot' (den cd a).t) := fun x h en => by
      split at h
      · exact d_tnot ((iha G).t _ h en)
      · cases h
    have v : ∀ x : Expr, (match x with
        | .UnaryOp .Not x _ => (ck a c).v x
        | _ => false) = true → ∀ en, PEd X en xc Wi x (mNot (den cd a).v) := fun x h en => by
      split at h
      · exact d_not ((iha G).v _ h en)
      · cases h
    have base := Snd.ex v
    exact { (Snd.no : Snd xc X Wi {} (den cd (.not a))) with
      v := v
      t := t
      an := base.an
      on := base.on
      atn := fun xs q en p => by obtain ⟨x, rfl, q⟩ := one_eq q; exact d_and1 (t x q en)
      otn := fun xs q en p => by obtain ⟨x, rfl, q⟩ := one_eq q; exact d_or1 (t x q en)
      av := base.av
      o := base.o
      w := base.w }
  | ite t a b iht iha ihb =>
    intro c X Wi G
    refine Snd.ex fun x h en => ?_
    split at h
    · obtain ⟨h, h3⟩ := and2 h
      obtain ⟨h1, h2⟩ := and2 h
      exact d_ite ((iht G).t _ h1 en) ((iha G).v _ h2 en) ((ihb G).v _ h3 en)
    · cases h
  | tup es ih =>
    intro c X Wi G
    refine { Snd.ex (xc := xc) (X := X) (Wi := Wi) (m := mTup (den cd es).l) (v := fun e => match e with
      | .Tuple xs _ _ => (ck es c).l xs
      | _ => false) (fun x h en => ?_) with g := fun x ts h en => ?_ }
    · skip
      split at h
      · exact d_tup ((ih G).l _ h en)
      · cases h
    · replace h : (match (generalizing := false) x with
        | .Tuple xs _ _ => (ck es c).gs xs
        | _ => none) = some ts := h
      split at h
      · exact g_tup G.calm ((ih G).gs _ _ h en)
      · cases h
  | lst es ih =>
    intro c X Wi G
    refine Snd.ex fun x h en => ?_
    split at h
    · exact d_lst ((ih G).l _ h en)
    · cases h
  | dct kvs ih =>
    intro c X Wi G
    refine Snd.ex fun x h en => ?_
    split at h
    · obtain ⟨h, h3⟩ := and2 h
      obtain ⟨h1, h2⟩ := and2 h
      exact d_dct ((ih G).dk _ _ h1 en _) (fun e => by rw [e] at h2; cases h2) (of_decide_eq_true h3)
    · cases h
  | nil =>
    intro c X Wi G
    have emp : ∀ {α : Type} {xs : List α}, xs.isEmpty = true → xs = [] := fun {α xs} h => by
      cases xs with
      | nil => rfl
      | cons _ _ => cases h
    exact { (Snd.no : Snd xc X Wi {} (den cd .nil)) with
      l := fun xs h en => by cases emp h; exact l_nil
      p := fun xs h en => by cases emp h; exact l_nil
      pn := fun xs h => by cases emp h; exact .nil
      ps := fun xs h => by cases emp h; rfl
      a := fun xs h en => by cases emp h; exact l_nil
      as := fun xs h => by cases emp h; rfl
      kw := fun xs h en => by cases emp h; exact kw_nil
      dk := fun ks vs h en pos => by
        obtain ⟨h1, h2⟩ := and2 h
        cases emp h1; cases emp h2; exact kv_nil
      o := fun x h en => by
        cases x with
        | none => exact d_onone (σ := [])
        | some _ => cases h
      c := fun xs h en => by
        cases emp h
        exact PTs.imp pts_nil fun σ H Q ⟨F, ex, s, r, f, q⟩ => q F ex H r .refl
      gs := fun xs ts h en => by
        replace h : (if xs.isEmpty = true then some [] else none) = some ts := h
        split at h
        · rename_i q
          cases emp q; cases h
          exact gs_nil
        · cases h }
  | cons a r iha ihr =>
    intro c X Wi G
    exact { (Snd.no : Snd xc X Wi {} (den cd (.cons a r))) with
      l := fun xs h en => by
        cases xs with
        | nil => cases h
        | cons x xs =>
          obtain ⟨h, h3⟩ := and2 h
          obtain ⟨h1, h2⟩ := and2 h
          exact l_cons st_fz (d_frz ((iha G).v _ h1 en)) ((ihr G).l _ h3 en) (star_cons (notF h2))
      p := fun xs h en => by
        cases xs with
        | nil => cases h
        | cons x xs =>
          obtain ⟨h, h3⟩ := and2 h
          obtain ⟨h1, h2⟩ := and2 h
          exact l_cons st_op (d_opd ((iha G).v _ h1 en)) ((ihr G).p _ h3 en) (star_cons (notF h2))
      pn := fun xs h => by
        cases xs with
        | nil => cases h
        | cons x xs =>
          obtain ⟨h, h3⟩ := and2 h
          exact .cons ((ihr G).pn _ h3)
      ps := fun xs h => by
        cases xs with
        | nil => cases h
        | cons x xs =>
          obtain ⟨h, h3⟩ := and2 h
          obtain ⟨h1, h2⟩ := and2 h
          rw [List.all_cons, h2, (ihr G).ps _ h3]; rfl
      a := fun xs h en => by
        cases xs with
        | nil => cases h
        | cons x xs =>
          obtain ⟨h, h3⟩ := and2 h
          obtain ⟨h1, h2⟩ := and2 h
          exact l_cons st_ar ((iha G).av _ h1 en) ((ihr G).a _ h3 en) (star_cons (notF h2))
      as := fun xs h => by
        cases xs with
        | nil => cases h
        | cons x xs =>
          obtain ⟨h, h3⟩ := and2 h
          obtain ⟨h1, h2⟩ := and2 h
          rw [List.all_cons, h2, (ihr G).as _ h3]; rfl
      kw := fun xs h en => by
        replace h : (match (generalizing := false) xs with
          | ⟨some _, x, _⟩ :: xs => (ck a c).av x && (ck r c).kw xs
          | _ => false) = true := h
        split at h
        · obtain ⟨h1, h2⟩ := and2 h
          exact kw_cons st_ar ((iha G).av _ h1 en) ((ihr G).kw _ h2 en)
        · cases h
      c := fun xs h en => by
        replace h : (match (generalizing := false) xs with
          | [x] => (ck a c).t x && isNil r
          | _ => false) = true := h
        split at h
        · obtain ⟨h1, h2⟩ := and2 h
          cases isNil_eq h2
          refine PTs.imp (pts_one ((iha G).t _ h1 en)) fun σ H Q q => ?_
          have q : TT' X.K en xc Wi (tAnd' (den cd a).t (M.ret true)) σ H Q := q
          rw [tand_ret] at q
          exact q
        · cases h
      gs := fun xs ts h en => by
        replace h : (match (generalizing := false) xs with
          | x :: xs => match (ck a c).g x, (ck r c).gs xs with
            | some ts, some us => some (ts ++ us)
            | _, _ => none
          | [] => none) = some ts := h
        split at h
        · split at h
          · rename_i e1 e2
            cases h
            exact gs_cons ((iha G).g _ _ e1 en) ((ihr G).gs _ _ e2 en)
          · cases h
        · cases h }
  | star a r iha ihr =>
    intro c X Wi G
    exact Snd.no
  | kv a b r iha ihb ihr =>
    intro c X Wi G
    refine { (Snd.no : Snd xc X Wi {} (den cd (.kv a b r))) with dk := fun ks vs h en pos => ?_ }
    replace h : (match (generalizing := false) ks, vs with
      | some x :: ks, y :: vs => (ck a c).v x && (ck b c).v y && (ck r c).k ks vs
      | _, _ => false) = true := h
    split at h
    · obtain ⟨h, h3⟩ := and2 h
      obtain ⟨h1, h2⟩ := and2 h
      exact kv_cons ((iha G).v _ h1 en) ((ihb G).v _ h2 en) ((ihr G).dk _ _ h3 en pos)
    · cases h
  | idx a b iha ihb =>
    intro c X Wi G
    refine Snd.ex fun x h en => ?_
    split at h
    · obtain ⟨h, h3⟩ := and2 h
      obtain ⟨h1, h2⟩ := and2 h
      exact d_idx G.units1 ((iha G).v _ h1 en) ((ihb G).v _ h2 en) (plain_ix (notF h3))
    · cases h
  | sli a lo hi iha ihl ihh =>
    intro c X Wi G
    refine Snd.ex fun x h en => ?_
    split at h
    · obtain ⟨h, h3⟩ := and2 h
      obtain ⟨h1, h2⟩ := and2 h
      exact d_sli ((iha G).v _ h1 en) ((ihl G).o _ h2 en) ((ihh G).o _ h3 en)
    · cases h
  | rev a iha =>
    intro c X Wi G
    refine Snd.ex fun x h en => ?_
    split at h
    · exact d_rev ((iha G).v _ h en)
    · cases h
  | sls i lo hi =>
    intro c X Wi G
    refine Snd.ex fun x h en => ?_
    split at h
    · obtain ⟨h, h3⟩ := and2 h
      obtain ⟨h1, h2⟩ := and2 h
      obtain ⟨a, b, c', d⟩ := G.var h1
      exact d_sls a b c' d (oC_ok h2) (oC_ok h3)
    · cases h
  | isi a ts iha =>
    intro c X Wi G
    refine Snd.ex fun x h en => ?_
    split at h
    · obtain ⟨h, h6⟩ := and2 h
      obtain ⟨h, h5⟩ := and2 h
      obtain ⟨h, h4⟩ := and2 h
      obtain ⟨h, h3⟩ := and2 h
      obtain ⟨h1, h2⟩ := and2 h
      have e := of_decide_eq_true h1
      have e' := of_decide_eq_true h5
      subst e e'
      obtain ⟨g1, g2⟩ := G.blt h2
      obtain ⟨g3, g4⟩ := G.blt h6
      exact d_isi ((iha G).v _ h3 en) g1 g2 g3 g4 (star_cons (notF h4))
    · cases h
  | blt f as ih =>
    intro c X Wi G
    refine Snd.ex fun x h en => ?_
    split at h
    · obtain ⟨h, h3⟩ := and2 h
      obtain ⟨h1, h2⟩ := and2 h
      have e := of_decide_eq_true h1
      subst e
      obtain ⟨g1, g2⟩ := G.blt h2
      obtain ⟨s1, s2⟩ := all_star ((ih G).ps _ h3)
      exact d_blt f G.calm G.units G.gd g1 g2 ((ih G).p _ h3 en) (star_cons s1) (star_any s2)
    · cases h
  | call g as ih =>
    intro c X Wi G
    refine Snd.ex fun x h en => ?_
    split at h
    · rename_i eg
      obtain ⟨h, h4⟩ := and2 h
      obtain ⟨h, h3⟩ := and2 h
      obtain ⟨h1, h2⟩ := and2 h
      have e := of_decide_eq_true h1
      subst e
      obtain ⟨f, fd, m1, m2, m3, m4, m5⟩ := G.G _ _ eg
      split at h4
      · cases isNil_eq h4
        exact d_call0 m5 G.room G.gd (G.gl h2) m1 m2 m3 G.pass (G.hn _ _ eg) (name_ok h3).1
      · obtain ⟨s1, s2⟩ := all_star ((ih G).as _ h4)
        exact d_call m5 G.room G.gd (G.gl h2) m1 m2 m3 G.pass (G.hn _ _ eg) ((ih G).a _ h4 en) (name_ok h3).1 (star_cons s1) (star_any s2)
    · cases h
  | callk g ks as ih =>
    intro c X Wi G
    refine Snd.ex fun x h en => ?_
    split at h
    · rename_i eg
      obtain ⟨h, h5⟩ := and2 h
      obtain ⟨h, h4⟩ := and2 h
      obtain ⟨h, h3⟩ := and2 h
      obtain ⟨h1, h2⟩ := and2 h
      have e := of_decide_eq_true h1
      subst e
      obtain ⟨f, fd, m1, m2, m3, m4, m5⟩ := G.G _ _ eg
      have hk := (kw_map (pos := ‹Pos›) (env := X.env)).trans (of_decide_eq_true h5)
      exact d_callk m5 G.room G.gd (G.gl h2) m1 m2 m4 G.pass (G.hn _ _ eg) ((ih G).kw _ h4 en) (name_ok h3).1 (kw_all (kw_map.trans (of_decide_eq_true h5))).1 (kw_all (kw_map.trans (of_decide_eq_true h5))).2.1 (kw_all (kw_map.trans (of_decide_eq_true h5))).2.2
    · cases h
  | join o a iho iha =>
    intro c X Wi G
    refine Snd.ex fun x h en => ?_
    split at h
    · obtain ⟨h, h6⟩ := and2 h
      obtain ⟨h, h5⟩ := and2 h
      obtain ⟨h, h4⟩ := and2 h
      obtain ⟨h, h3⟩ := and2 h
      obtain ⟨h1, h2⟩ := and2 h
      have e := of_decide_eq_true h1
      subst e
      exact d_join ((iho G).v _ h2 en) ((iha G).v _ h3 en) (notF h4) (notF h5) h6
    · cases h
  | get1 o a iho iha =>
    intro c X Wi G
    refine Snd.ex fun x h en => ?_
    split at h
    · obtain ⟨h, h6⟩ := and2 h
      obtain ⟨h, h5⟩ := and2 h
      obtain ⟨h, h4⟩ := and2 h
      obtain ⟨h, h3⟩ := and2 h
      obtain ⟨h1, h2⟩ := and2 h
      have e := of_decide_eq_true h1
      subst e
      exact d_get1 G.units1 ((iho G).v _ h2 en) ((iha G).v _ h3 en) (notF h4) (notF h5) h6
    · cases h
  | get2 o a b iho iha ihb =>
    intro c X Wi G
    refine Snd.ex fun x h en => ?_
    split at h
    · obtain ⟨h, h8⟩ := and2 h
      obtain ⟨h, h7⟩ := and2 h
      obtain ⟨h, h6⟩ := and2 h
      obtain ⟨h, h5⟩ := and2 h
      obtain ⟨h, h4⟩ := and2 h
      obtain ⟨h, h3⟩ := and2 h
      obtain ⟨h1, h2⟩ := and2 h
      have e := of_decide_eq_true h1
      subst e
      exact d_get2 G.units1 ((iho G).v _ h2 en) ((iha G).v _ h3 en) ((ihb G).v _ h4 en) (notF h5) (notF h6) (notF h7) h8
    · cases h
  | app i a iha =>
    intro c X Wi G
    refine Snd.ex fun x h en => ?_
    split at h
    · obtain ⟨h, h5⟩ := and2 h
      obtain ⟨h, h4⟩ := and2 h
      obtain ⟨h, h3⟩ := and2 h
      obtain ⟨h1, h2⟩ := and2 h
      have e := of_decide_eq_true h1
      subst e
      obtain ⟨a, b, c', d⟩ := G.var h2
      exact d_app a b c' d ((iha G).v _ h3 en) (notF h4) h5
    · cases h
  | pop0 i =>
    intro c X Wi G
    refine Snd.ex fun x h en => ?_
    split at h
    · obtain ⟨h, h3⟩ := and2 h
      obtain ⟨h1, h2⟩ := and2 h
      have e := of_decide_eq_true h1
      subst e
      obtain ⟨a, b, c', d⟩ := G.var h2
      exact d_pop0 a b c' d h3
    · cases h
  | pop1 i a iha =>
    intro c X Wi G
    refine Snd.ex fun x h en => ?_
    split at h
    · obtain ⟨h, h5⟩ := and2 h
      obtain ⟨h, h4⟩ := and2 h
      obtain ⟨h, h3⟩ := and2 h
      obtain ⟨h1, h2⟩ := and2 h
      have e := of_decide_eq_true h1
      subst e
      obtain ⟨a, b, c', d⟩ := G.var h2
      exact d_pop1 a b c' d ((iha G).v _ h3 en) (notF h4) h5
    · cases h
  | range as ih =>
    intro c X Wi G
    refine { (Snd.no : Snd xc X Wi {} (den cd (.range as))) with w := fun t x h => ?_ }
    replace h : (match (generalizing := false) x with
      | .Call (.Name f _) [x] [] _ => decide (f = "range") && c.blt f && (ck as c).p [x]
      | .Call (.Name f _) [x, y] [] _ => decide (f = "range") && c.blt f && (ck as c).p [x, y]
      | _ => false) = true := h
    split at h
    · obtain ⟨h, h3⟩ := and2 h
      obtain ⟨h1, h2⟩ := and2 h
      have e := of_decide_eq_true h1
      subst e
      obtain ⟨g1, g2⟩ := G.blt h2
      exact ⟨rfl, fun en => w_rng1 g1 g2 ((ih G).p _ h3 en) ((ih G).pn _ h3) (all_star ((ih G).ps _ h3)).1⟩
    · obtain ⟨h, h3⟩ := and2 h
      obtain ⟨h1, h2⟩ := and2 h
      have e := of_decide_eq_true h1
      subst e
      obtain ⟨g1, g2⟩ := G.blt h2
      have z := all_star ((ih G).ps _ h3)
      exact ⟨rfl, fun en => w_rng2 g1 g2 ((ih G).p _ h3 en) ((ih G).pn _ h3) z.1 (all_star z.2).1⟩
    · cases h
  | zip a b iha ihb =>
    intro c X Wi G
    refine { (Snd.no : Snd xc X Wi {} (den cd (.zip a b))) with w := fun t x h => ?_ }
    replace h : (match (generalizing := false) x with
      | .Call (.Name f _) [x, y] [] _ => isTup t && decide (f = "zip") && c.blt f && (ck a c).v x && (ck b c).v y && !isStar x && !isStar y
      | _ => false) = true := h
    split at h
    · obtain ⟨h, h7⟩ := and2 h
      obtain ⟨h, h6⟩ := and2 h
      obtain ⟨h, h5⟩ := and2 h
      obtain ⟨h, h4⟩ := and2 h
      obtain ⟨h, h3⟩ := and2 h
      obtain ⟨h1, h2⟩ := and2 h
      have e := of_decide_eq_true h2
      subst e
      obtain ⟨g1, g2⟩ := G.blt h3
      cases t <;> first | (cases h1; done) | skip
      exact ⟨rfl, fun en => w_zip g1 g2 ((iha G).v _ h4 en) ((ihb G).v _ h5 en) (notF h6) (notF h7)⟩
    · cases h
  | enum a iha =>
    intro c X Wi G
    refine { (Snd.no : Snd xc X Wi {} (den cd (.enum a))) with w := fun t x h => ?_ }
    replace h : (match (generalizing := false) x with
      | .Call (.Name f _) [x] [] _ => isTup t && decide (f = "enumerate") && c.blt f && (ck a c).v x && !isStar x
      | _ => false) = true := h
    split at h
    · obtain ⟨h, h5⟩ := and2 h
      obtain ⟨h, h4⟩ := and2 h
      obtain ⟨h, h3⟩ := and2 h
      obtain ⟨h1, h2⟩ := and2 h
      have e := of_decide_eq_true h2
      subst e
      obtain ⟨g1, g2⟩ := G.blt h3
      cases t <;> first | (cases h1; done) | skip
      exact ⟨rfl, fun en => w_enum g1 g2 ((iha G).v _ h4 en) (notF h5)⟩
    · cases h
  | lc elt tg it ifs vs ihe iht ihi ihf =>
    intro c X Wi G
    have key : ∀ x : Expr, (match x with
        | .ListComp y [⟨t, i, fs, z⟩] scope _ => decide (z = 0) && (ck it c).w t i && blkC c.N c.sc scope (own c.N vs) && (match (ck tg (c.blk scope)).g t with
          | some ts => ts.all fun j => decide (j ∈ vs)
          | none => false) && (ck ifs (c.blk scope)).c fs && (ck elt (c.blk scope)).v y
        | _ => false) = true → ∃ y t i fs scope pos ts, x = .ListComp y [⟨t, i, fs, 0⟩] scope pos ∧ (ck it c).w t i = true ∧ BlkOk X.N X.env.scope scope (own c.N vs) ∧ (ck tg (c.blk scope)).g t = some ts ∧ (∀ j ∈ ts, j ∈ (own c.N vs).map (·.2)) ∧
          (ck ifs (c.blk scope)).c fs = true ∧ (ck elt (c.blk scope)).v y = true := fun x h => by
      split at h
      · obtain ⟨h, h6⟩ := and2 h
        obtain ⟨h, h5⟩ := and2 h
        obtain ⟨h, h4⟩ := and2 h
        obtain ⟨h, h3⟩ := and2 h
        obtain ⟨h1, h2⟩ := and2 h
        have e := of_decide_eq_true h1
        subst e
        split at h4
        · rename_i ts e
          refine ⟨_, _, _, _, _, _, ts, rfl, h2, ?_, e, fun j hj => ?_, h5, h6⟩
          · rw [G.N, G.sc]; exact blkOk_by h3
          · rw [own_ix]; exact of_decide_eq_true (List.all_eq_true.mp h4 j hj)
        · cases h4
      · cases h
    have fold : ∀ {i : Expr}, isSet i = false → ∀ x, foldedSetIterable i X.env x = pure x := fun {i} h x => by
      cases i <;> first | rfl | cases h
    have v : ∀ x : Expr, (match x with
        | .ListComp y [⟨t, i, fs, z⟩] scope _ => decide (z = 0) && (ck it c).w t i && blkC c.N c.sc scope (own c.N vs) && (match (ck tg (c.blk scope)).g t with
          | some ts => ts.all fun j => decide (j ∈ vs)
          | none => false) && (ck ifs (c.blk scope)).c fs && (ck elt (c.blk scope)).v y
        | _ => false) = true → ∀ en, PEd X en xc Wi x (mLc (den cd elt).v (den cd tg).g (den cd it).w (den cd ifs).c vs) := fun x h en => by
      obtain ⟨y, t, i, fs, scope, pos, ts, rfl, h2, ok, e, hts, h5, h6⟩ := key x h
      have z := d_lc (en := en) (xc := xc) (Wi := Wi) (m := (den cd elt).v) (w := (den cd it).w) (c := (den cd ifs).c) (g := (den cd tg).g) (pos := pos) G.calm G.nd (((ihi G).w _ _ h2).2 en) ok hts
        (fun s H C cl fp => any_g fun en => (iht (G.blk ok.kind s H C cl fp)).g _ _ e en)
        (fun s H C cl fp => any_ts fun en => (ihf (G.blk ok.kind s H C cl fp)).c _ h5 en)
        (fun s H C cl fp => any_e fun en => (ihe (G.blk ok.kind s H C cl fp)).v _ h6 en)
        (fold ((ihi G).w _ _ h2).1)
      rw [own_ix] at z
      exact z
    have base := Snd.ex v
    refine { (Snd.no : Snd xc X Wi {} (den cd (.lc elt tg it ifs vs))) with
      v := base.v
      t := base.t
      an := base.an
      on := base.on
      atn := base.atn
      otn := base.otn
      av := base.av
      o := base.o
      w := base.w
      sw := fun x h en nm p i' spos hN hl hsw => ?_ }
    obtain ⟨y, t, i, fs, scope, pos, ts, rfl, h2, ok, e, hts, h5, h6⟩ := key x h
    have z := k_setLc (en := en) (xc := xc) (Wi := Wi) (m := (den cd elt).v) (w := (den cd it).w) (c := (den cd ifs).c) (g := (den cd tg).g) G.calm G.nd hN hl hsw (((ihi G).w _ _ h2).2 en) ok hts
        (fun s H C cl fp => any_g fun en => (iht (G.blk ok.kind s H C cl fp)).g _ _ e en)
        (fun s H C cl fp => any_ts fun en => (ihf (G.blk ok.kind s H C cl fp)).c _ h5 en)
        (fun s H C cl fp => any_e fun en => (ihe (G.blk ok.kind s H C cl fp)).v _ h6 en)
        (fold ((ihi G).w _ _ h2).1)
    rw [own_ix] at z
    exact z
end
end Ded
end

section
set_option Elab.async false
set_option linter.all false
set_option maxRecDepth 100000
/-! Every statement. -/
namespace Ded
open PySem L2
section
variable {c : Ctl} {k : Nat} {cd : Nat → List Val → List D → R Val} {xc : Xc} {X : Cx} {Wi : XK} {en : Entry} {L : Nat}
theorem sw_no {y : Expr} (h : isComp y = false) {t : Option Expr} {l : Nat} : swapsWith y t l X.env = pure false := by
  cases y <;> first | rfl | cases h
theorem sw_is {y : Expr} {x : Str} {p : Pos} {l : Nat} (G : Good c k cd xc X Wi) : (∀ e, swapsWith y (some (.Name x p)) l X.env = pure e → True) ∧ (swC c x p y = false → swapsWith y (some (.Name x p)) l X.env = pure false) := by
  refine ⟨fun _ _ => trivial, fun h => ?_⟩
  have hk : X.env.scope.kind = .function := by rw [G.sc]; exact G.kind
  have hb : X.env.blockKind = .function := by unfold Env.blockKind; rw [hk]; rfl
  cases y <;> first | rfl | (cases h; done) | skip
  rename_i elt gs s pos
  have h : (isLocal (c.sc.names.lookup x) && (p.line == pos.line) && !(s.names.any fun (n, k) => n == x && (k == .local || k == .cell))) = false := h
  have e : (X.env.kindOf x == some .local) = isLocal (c.sc.names.lookup x) := by
    show (X.env.scope.names.lookup x == some .local) = _
    rw [G.sc]
    cases c.sc.names.lookup x with
    | none => rfl
    | some o => cases o <;> rfl
  show (do pure (X.env.blockKind == .function && X.env.kindOf x == some .local && p.line == (Expr.ListComp elt gs s pos).pos.line && !(s.names.any fun (n, k) => n == x && (k == .local || k == .cell))) : Sem Bool) = pure false
  rw [hb, e]
  have e2 : (ScopeKind.function == ScopeKind.function) = true := rfl
  rw [e2, Bool.true_and]
  have e3 : (Expr.ListComp elt gs s pos).pos = pos := rfl
  rw [e3, h]
theorem sw_yes {y : Expr} {x : Str} {p : Pos} {l : Nat} (G : Good c k cd xc X Wi) (hl : (∃ e g s q, y = .ListComp e g s q)) (h : swC c x p y = true) : swapsWith y (some (.Name x p)) l X.env = pure true := by
  have hk : X.env.scope.kind = .function := by rw [G.sc]; exact G.kind
  have hb : X.env.blockKind = .function := by unfold Env.blockKind; rw [hk]; rfl
  obtain ⟨elt, gs, s, pos, rfl⟩ := hl
  have h : (isLocal (c.sc.names.lookup x) && (p.line == pos.line) && !(s.names.any fun (n, k) => n == x && (k == .local || k == .cell))) = true := h
  have e : (X.env.kindOf x == some .local) = isLocal (c.sc.names.lookup x) := by
    show (X.env.scope.names.lookup x == some .local) = _
    rw [G.sc]
    cases c.sc.names.lookup x with
    | none => rfl
    | some o => cases o <;> rfl
  show (do pure (X.env.blockKind == .function && X.env.kindOf x == some .local && p.line == (Expr.ListComp elt gs s pos).pos.line && !(s.names.any fun (n, k) => n == x && (k == .local || k == .cell))) : Sem Bool) = pure true
  rw [hb, e]
  have e2 : (ScopeKind.function == ScopeKind.function) = true := rfl
  rw [e2, Bool.true_and]
  have e3 : (Expr.ListComp elt gs s pos).pos = pos := rfl
  rw [e3, h]
theorem sw_lc {e : E} {c : Ctl} {y : Expr} (h : (ck e c).sw y = true) : ∃ a g s q, y = .ListComp a g s q := by
  cases e <;> first | (cases h; done) | skip
  rename_i elt tg it ifs vs
  have h : (match (generalizing := false) y with
      | .ListComp y [⟨t, i, fs, z⟩] scope _ => decide (z = 0) && (ck it c).w t i && blkC c.N c.sc scope (own c.N vs) && (match (ck tg (c.blk scope)).g t with
        | some ts => ts.all fun j => decide (j ∈ vs)
        | none => false) && (ck ifs (c.blk scope)).c fs && (ck elt (c.blk scope)).v y
      | _ => false) = true := h
  split at h
  · exact ⟨_, _, _, _, rfl⟩
  · cases h
theorem fm_short {α β : Type} {f : α → Option β} : ∀ {l : List α}, (l.any fun x => (f x).isNone) = true → (l.filterMap f).length < l.length
  | x :: l, h => by
    rw [List.filterMap_cons, List.length_cons]
    cases e : f x with
    | none => exact Nat.lt_succ_of_le (List.length_filterMap_le f l)
    | some y =>
      rw [List.any_cons, e] at h
      have h : (l.any fun x => (f x).isNone) = true := h
      have := fm_short h
      dsimp only
      rw [List.length_cons]; omega
theorem in_order {tg y : Expr} (G : Good c k cd xc X Wi) (h : inOrder c tg y = true) : swappedStores [tg] y X.env = pure none := by
  cases tg <;> first | (cases h; done) | skip
  rename_i ts kk pp
  cases y <;> first | rfl | skip
  rename_i vs k2 p2
  have h : (ts.any fun x => match x with
    | .Name x _ => !isLocal (c.sc.names.lookup x)
    | _ => true) = true := h
  have e : ∀ l, (ts.filterMap fun x => match x with
            | .Name id pos => if (X.env.kindOf id == some .local && pos.line == l) = true then some id else none
            | _ => none).length < ts.length := fun l => fm_short (by
    rw [List.any_eq_true] at h ⊢
    obtain ⟨x, hx, q⟩ := h
    refine ⟨x, hx, ?_⟩
    cases x <;> first | rfl | skip
    rename_i id pos
    have q : isLocal (c.sc.names.lookup id) = false := notF q
    have e : (X.env.kindOf id == some .local) = false := by
      show (X.env.scope.names.lookup id == some .local) = _
      rw [G.sc]
      cases z : c.sc.names.lookup id with
      | none => rfl
      | some o =>
        rw [z] at q
        cases o <;> first | rfl | cases q
    dsimp only
    rw [e, Bool.false_and]
    rfl)
  unfold swappedStores
  dsimp only
  split
  · rfl
  · split
    · rfl
    · have e' := e ((ts.head?.map (·.pos.line)).getD 0)
      split
      · rfl
      · rename_i q
        exfalso
        apply q
        rw [Bool.or_eq_true]
        exact .inl (by
          simp only [bne_iff_ne, ne_eq]
          intro z
          have e'' := e'
          rw [← z] at e''
          exact Nat.lt_irrefl _ e'')
theorem sole_ok {tg y : Expr} {l : Nat} (h : isTup tg = true) : swapsWithSole [tg] y l X.env = pure false := by
  cases tg <;> first | (cases h; done) | skip
  cases y <;> rfl
theorem sub_ok {a b y : Expr} {p : Pos} {l : Nat} : swapsWith y (some (.Subscript a b p)) l X.env = pure false := by
  cases y <;> rfl
theorem par_ok {x y : Str} {px py pt p2 : Pos} {kt k2 : Nat} {a b : Expr} (G : Good c k cd xc X Wi) (hx : isLocal (c.sc.names.lookup x) = true) (hy : isLocal (c.sc.names.lookup y) = true) (hxy : x ≠ y) (ha : isStar a = false) (hb : isStar b = false) (hl : (px.line == py.line) = true)
    (h1 : ([a, b].all (foldedForSure 8)) = false) (h2 : ([a, b].all (constantsAlone 8)) = false) : swappedStores [.Tuple [.Name x px, .Name y py] kt pt] (.Tuple [a, b] k2 p2) X.env = pure (some [x, y]) := by
  have hk : X.env.scope.kind = .function := by rw [G.sc]; exact G.kind
  have hbk : X.env.blockKind = .function := by unfold Env.blockKind; rw [hk]; rfl
  have ex : X.env.kindOf x = some .local := by
    show X.env.scope.names.lookup x = _
    rw [G.sc]; exact local_ok hx
  have ey : X.env.kindOf y = some .local := by
    show X.env.scope.names.lookup y = _
    rw [G.sc]; exact local_ok hy
  have hl' : py.line = px.line := (eq_of_beq hl).symm
  have ed : ([x, y].eraseDups).length = 2 := by
    have : (y == x) = false := beq_eq_false_iff_ne.mpr (Ne.symm hxy)
    simp [List.eraseDups, List.eraseDupsBy, List.eraseDupsBy.loop, this]
  unfold swappedStores
  dsimp only
  rw [h1, h2, hbk]
  split
  · rename_i q; cases q
  · split
    · rename_i q
      exfalso
      rw [List.any_cons, List.any_cons, List.any_nil, Bool.or_false, Bool.or_eq_true] at q
      rcases q with q | q
      · cases a <;> first | (cases q; done) | cases ha
      · cases b <;> first | (cases q; done) | cases hb
    · simp only [List.filterMap_cons, List.filterMap_nil, ex, ey, List.head?_cons, Option.map_some, Option.getD_some, Expr.pos, hl', beq_self_eq_true, Bool.and_self, if_true, List.length_cons, List.length_nil, ed]
      rfl
theorem then_nop (a : M Flow) : thenK a (M.ret .nx) = a := by
  funext s
  unfold thenK M.bind
  cases a s with
  | ok f t => cases f <;> rfl
  | exc _ _ _ => rfl
  | bad => rfl
theorem k_last {st : Stmt} {a : M Flow} (h : PS X st (TS' X.K en xc Wi a)) : PSs X [st] (TS' X.K en xc Wi a) := by
  have z := k_then h (k_nop (X := X) (en := en) (xc := xc) (Wi := Wi))
  rw [then_nop] at z
  exact z
theorem is_lc : ∀ {y : Expr}, isComp y = false → ∀ {x : Str} {p : Pos}, swC c x p y = false := fun {y} h {x p} => by
  cases y <;> first | rfl | cases h
theorem sndS (hM : ∀ a, en.M a → a ∈ en.ex) (hp : PassesOwn (model X.prog X.w) X.A X.env X.xe) (G : Good c k cd xc X Wi) : ∀ (b : C) {sts : List Stmt}, ckS b c sts = true → PSs X sts (TS' X.K en xc Wi (run cd L b)) := by
  have fold : ∀ {i : Expr}, isSet i = false → ∀ x, foldedSetIterable i X.env x = pure x := fun {i} h x => by
    cases i <;> first | rfl | cases h
  have loc1 : ∀ {x : Str}, isLocal (c.sc.names.lookup x) = true → X.env.scope.names.lookup x = some .local := fun {x} h => by rw [G.sc]; exact local_ok h
  intro b
  induction b with
  | nop =>
    intro sts h
    unfold ckS at h
    split at h <;> first | (cases h; done) | exact k_nop | contradiction
  | exp e r ih =>
    intro sts h
    unfold ckS at h
    split at h <;> first | (cases h; done) | contradiction | skip
    rename_i heq
    cases heq
    obtain ⟨h, h3⟩ := and2 h
    obtain ⟨h1, h2⟩ := and2 h
    exact k_then (k_exp ((snd e G).v _ h1 en) (sw_no (notF h2))) (ih h3)
  | set i e r ih =>
    intro sts h
    unfold ckS at h
    split at h <;> first | (cases h; done) | contradiction | skip
    rename_i heq
    cases heq
    obtain ⟨h, h3⟩ := and2 h
    obtain ⟨h1, h2⟩ := and2 h
    have hN := of_decide_eq_true h1
    rw [← G.N] at hN
    split at h2
    · rename_i q
      obtain ⟨h4, h5⟩ := and2 h2
      exact k_then ((snd e G).sw _ h5 en _ _ _ _ hN (loc1 h4) (sw_yes G (sw_lc h5) q)) (ih h3)
    · rename_i q
      obtain ⟨h4, h5⟩ := and2 h2
      obtain ⟨l1, l2⟩ := G.loc h4
      exact k_then (k_set G.nd hN l1 l2 ((snd e G).v _ h5 en) ((sw_is G).2 (by simpa using q))) (ih h3)
  | asg t e r ih =>
    intro sts h
    unfold ckS at h
    split at h <;> first | (cases h; done) | contradiction | skip
    rename_i heq
    cases heq
    obtain ⟨h, h5⟩ := and2 h
    obtain ⟨h, h4⟩ := and2 h
    obtain ⟨h, h3⟩ := and2 h
    obtain ⟨h1, h2⟩ := and2 h
    obtain ⟨ts, hg⟩ := Option.isSome_iff_exists.mp h4
    refine k_then (k_asg ((snd e G).v _ h3 en) ((snd t G).g _ _ hg en) (sole_ok h1) (in_order G h2)) (ih h5)
  | par i j a b r ih =>
    intro sts h
    unfold ckS at h
    split at h <;> first | (cases h; done) | contradiction | skip
    rename_i heq
    cases heq
    obtain ⟨h, hk⟩ := and2 h
    obtain ⟨h, hd⟩ := and2 h
    obtain ⟨h, hc⟩ := and2 h
    obtain ⟨h, hb⟩ := and2 h
    obtain ⟨h, ha⟩ := and2 h
    obtain ⟨h, h9⟩ := and2 h
    obtain ⟨h, h8⟩ := and2 h
    obtain ⟨h, h7⟩ := and2 h
    obtain ⟨h, h6⟩ := and2 h
    obtain ⟨h, h5⟩ := and2 h
    obtain ⟨h, h4⟩ := and2 h
    obtain ⟨h, h3⟩ := and2 h
    obtain ⟨h1, h2⟩ := and2 h
    have e1 := of_decide_eq_true h1
    have e2 := of_decide_eq_true h2
    rw [← G.N] at e1 e2
    exact k_then (k_par G.calm G.nd e1 e2 (of_decide_eq_true h3) (loc1 h5) (loc1 h6) ((snd a G).v _ h7 en) ((snd b G).v _ h8 en) (notF h9) (notF ha) (par_ok G h5 h6 (of_decide_eq_true h4) (notF h9) (notF ha) hb (notF hc) (notF hd))) (ih hk)
  | sti i key v r ih =>
    intro sts h
    unfold ckS at h
    split at h <;> first | (cases h; done) | contradiction | skip
    rename_i heq
    cases heq
    obtain ⟨h, h4⟩ := and2 h
    obtain ⟨h, h3⟩ := and2 h
    obtain ⟨h1, h2⟩ := and2 h
    obtain ⟨a, b, c', d⟩ := G.var h1
    refine k_then (k_sti G.units1 a b c' d ((snd key G).v _ h2 en) ((snd v G).v _ h3 en) sub_ok) (ih h4)
  | ret e =>
    intro sts h
    unfold ckS at h
    split at h <;> first | (cases h; done) | contradiction | skip
    rename_i heq
    cases heq
    exact k_last (k_ret hM ((snd e G).v _ h en))
  | ite t a b r iha ihb ih =>
    intro sts h
    unfold ckS at h
    split at h <;> first | (cases h; done) | contradiction | skip
    rename_i heq
    cases heq
    obtain ⟨h, h4⟩ := and2 h
    obtain ⟨h, h3⟩ := and2 h
    obtain ⟨h1, h2⟩ := and2 h
    exact k_then (k_ite ((snd t G).t _ h1 en) (iha h2) (ihb h3)) (ih h4)
  | for_ t it b r ihb ih =>
    intro sts h
    unfold ckS at h
    split at h <;> first | (cases h; done) | contradiction | skip
    rename_i heq
    cases heq
    obtain ⟨h, h4⟩ := and2 h
    obtain ⟨h, h3⟩ := and2 h
    obtain ⟨h1, h2⟩ := and2 h
    obtain ⟨ts, hg⟩ := Option.isSome_iff_exists.mp h2
    obtain ⟨w1, w2⟩ := (snd it G).w _ _ h1
    exact k_then (k_for hp G.calm (w2 en) ((snd t G).g _ _ hg en) (ihb h3) (fold w1)) (ih h4)
  | whl t b r ihb ih =>
    intro sts h
    unfold ckS at h
    split at h <;> first | (cases h; done) | contradiction | skip
    rename_i heq
    cases heq
    obtain ⟨h, h3⟩ := and2 h
    obtain ⟨h1, h2⟩ := and2 h
    exact k_then (k_whl hp ((snd t G).t _ h1 en) (ihb h2)) (ih h3)
  | rai n as =>
    intro sts h
    exact absurd h Bool.false_ne_true
end
end Ded
end

section
set_option Elab.async false
set_option linter.all false
set_option maxRecDepth 100000
/-! Every def of a program does what the evaluator says. -/
namespace Ded
open PySem L2
section
variable {P : Program} {w : World} {K : PySem.W.Frag} {mg : Str → Option Value} {base : Heap} {xc : Xc} {Ds : List Def} {L : Nat} {infos : List GInfo} {noG : List Str} {cs : List (Str × D)}
/-- what is known of a def of the text -/
structure Stat (K : PySem.W.Frag) (mg : Str → Option Value) (Ds : List Def) (infos : List GInfo) (noG : List Str) (cs : List (Str × D)) (g : Nat) (i : GInfo) (f : Addr) (fd : FuncData) : Prop where
  ex : ∃ (d : Def) (st : Stmt) (qual : Str) (N : List Str), Ds[g]? = some d ∧ Fun K i.name qual st f fd ∧ FnScope N i.ps (defScope st) ∧ d.slots = N.length ∧ d.pars = i.ps.length ∧ ckS d.body ⟨N, defScope st, fun _ => true, infos, noG, cs⟩ (defBody st) = true
  mg : mg i.name = some (.ref f)
  bd : Binds K fd i.ps []
  kw : ∀ (s : Shared) (us : List Value), K.In s.heap → us.length = i.ps.length → BindsTo s fd ⟨[], i.ps.zip us⟩ (i.ps.zip us)
structure ProgOk (K : PySem.W.Frag) (mg : Str → Option Value) (Ds : List Def) (infos : List GInfo) (noG : List Str) (cs : List (Str × D)) : Prop where
  fns : ∀ g i, infos[g]? = some i → ∃ f fd, Stat K mg Ds infos noG cs g i f fd
  noG : ∀ x, x ∈ noG → mg x = none
  cs : ∀ p, p ∈ cs → ∃ v u, mg p.1 = some u ∧ RelV v u ∧ ∀ F H, Rf K F H v p.2
theorem call_bad {n g : Nat} {d : Def} {us : List Val} {μ : List D} (e : Ds[g]? = some d) (h : us.length ≠ d.pars) : callD Ds L n g us μ = .bad := by
  cases n with
  | zero => rfl
  | succ n =>
    unfold callD
    rw [e]
    dsimp only
    rw [if_neg h]
theorem all2_get {α : Type} {R : V → α → Prop} : ∀ {xs : List V} {as : List α} {i : Nat} {a : α}, All2 R xs as → as[i]? = some a → ∃ x, xs[i]? = some x ∧ R x a
  | _, _, 0, a, .cons h r, e => by cases e; exact ⟨_, rfl, h⟩
  | _, _, i + 1, a, .cons h r, e => by
    obtain ⟨x, e1, h⟩ := all2_get (i := i) r (by simpa using e)
    exact ⟨x, by simpa using e1, h⟩
  | _, _, _, _, .nil, e => by cases e
/-- where a body starts -/
theorem rel_start {F : Fz} {ex : List Addr} {μ : List D} {H : Hp} {vs : List V} {us : List Val} {N : List Str} (h : Handed K F ex μ H vs us) : Rel K F ex { ρ := us.map some ++ List.replicate (N.length - us.length) none, μ := μ } (L2.start N vs) H := by
  have hl := h.all.length
  have get : ∀ {i : Nat} {v : Val}, (us.map some ++ List.replicate (N.length - us.length) none)[i]? = some (some v) → us[i]? = some v := fun {i v} e => by
    rcases Nat.lt_or_ge i us.length with hi | hi
    · rw [List.getElem?_append_left (by rw [List.length_map]; exact hi), List.getElem?_map] at e
      obtain ⟨a, ha, q⟩ := Option.map_eq_some_iff.mp e
      cases q
      exact ha
    · rw [List.getElem?_append_right (by rw [List.length_map]; exact hi)] at e
      have := List.mem_of_getElem? e
      have := List.eq_of_mem_replicate this
      cases this
  have sget : ∀ {i : Nat} {x : V}, vs[i]? = some x → (L2.start N vs)[i]? = some (some x) := fun {i x} e => by
    unfold L2.start
    rw [List.getElem?_append_left (by rw [List.length_map]; exact (List.getElem?_eq_some_iff.mp e).1), List.getElem?_map, e]
    rfl
  have arg : ∀ {i : Nat} {v : Val}, us[i]? = some v → ∃ x, (L2.start N vs)[i]? = some (some x) ∧ ArgOk K F ex H x v := fun e => let ⟨x, e1, a⟩ := all2_get h.all e; ⟨x, sget e1, a⟩
  have noOwn : ∀ {i : Nat} {d : D}, (us.map some ++ List.replicate (N.length - us.length) none)[i]? = some (some (.own d)) → False := fun e => by
    obtain ⟨x, _, a⟩ := arg (get e)
    exact a
  refine ⟨?_, fun i v e => ?_, fun i j d d' a e => (noOwn e).elim, fun i d a e1 e2 ⟨j, d', e3, _⟩ => (noOwn e3).elim, h.exl, h.exd, h.cel, h.fdom⟩
  · unfold L2.start
    simp [hl]
  · obtain ⟨x, e1, a⟩ := arg (get e)
    refine ⟨x, e1, ?_⟩
    cases v with
    | dat d => exact a
    | ext k => exact a
    | bor d => exact a
    | scr ns => exact a
    | own d => exact a.elim
    | loc i => exact a.elim
theorem prog_ok (H : ProgOk K mg Ds infos noG cs) : ∀ (n g : Nat) (i : GInfo) (f : Addr) (fd : FuncData), Stat K mg Ds infos noG cs g i f fd → FnG P w K mg base n f fd i.ps (spD K xc (callD Ds L n g) i.ps.length) := by
  intro n
  induction n with
  | zero =>
    intro g i f fd _
    refine ⟨fun vs H Q E h => h.1, fun A outer s H args us vs Q E _ _ _ _ _ h => ?_⟩
    obtain ⟨_, F, ex, us, μ, _, h⟩ := h
    exact h.elim
  | succ n ih =>
    intro g i f fd S
    obtain ⟨d, st, qual, N, e, Fu, Sc, hs, hpars, hck⟩ := S.ex
    refine FnG.of Fu Sc (fun vs H Q E h => h.1) fun cdv A outer s H0 vs Q E room grd hsp => ?_
    obtain ⟨hl, F, ex, us, μ, hd, hrun⟩ := hsp
    have ulen : us.length = d.pars := by rw [← hd.all.length, hl, hpars]
    have G : Good ⟨N, defScope st, fun _ => true, infos, noG, cs⟩ n (callD Ds L n) xc (cxOf (L2.CX P w) P w K mg base N qual (defScope st) f cdv A outer s H0 E) E := {
      calm := rfl
      nd := Sc.nd
      N := rfl
      sc := rfl
      kind := Sc.kind
      fn := rfl
      room := room
      gd := grd
      noG := H.noG
      cs := H.cs
      G := fun g i hi => by
        obtain ⟨f, fd, S⟩ := H.fns g i hi
        exact ⟨f, fd, S.mg, (let ⟨d, st, qual, N, e, Fu, _⟩ := S.ex; Fu.kp), S.bd, S.kw, ih g i f fd S⟩
      hn := fun g i hi us μ h => by
        obtain ⟨f, fd, S⟩ := H.fns g i hi
        obtain ⟨d, st, qual, N, e, _, _, _, hp, _⟩ := S.ex
        exact call_bad e (by rw [hp]; exact h)
      pass := passes_call (W := fun cls d _ H => E cls d H) (takes_of rfl rfl rfl rfl) fun _ _ _ _ h => h }
    have body := sndS (en := entryOf F ex H0) (L := L) (fun a z => z) (passes_of rfl) G d.body hck
    refine ⟨_, body, F, ex, { ρ := us.map some ++ List.replicate (N.length - us.length) none, μ := μ }, ⟨F, H0⟩, rel_start hd, ⟨⟨?_, List.prefix_refl _⟩, fun _ z => z, fun _ _ _ z => z⟩, ?_⟩
    · have rs := rel_start (N := N) hd
      refine ⟨fun _ _ z _ => z, fun _ o z => ⟨o, z⟩, fun _ z => z, fun _ z => .inl z, fun a z => .inl ?_⟩
      rcases z with z | ⟨j, d', e3, _⟩
      · exact z
      · obtain ⟨x, _, so⟩ := rs.slot j _ e3
        exfalso
        have : us[j]? = some (.own d') := by
          rcases Nat.lt_or_ge j us.length with hi | hi
          · rw [List.getElem?_append_left (by rw [List.length_map]; exact hi), List.getElem?_map] at e3
            obtain ⟨a, ha, q⟩ := Option.map_eq_some_iff.mp e3
            cases q
            exact ha
          · rw [List.getElem?_append_right (by rw [List.length_map]; exact hi)] at e3
            have := List.eq_of_mem_replicate (List.mem_of_getElem? e3)
            cases this
        obtain ⟨x, _, a⟩ := all2_get hd.all this
        exact a
    · unfold callD at hrun
      rw [e] at hrun
      dsimp only at hrun
      rw [if_pos ulen, hs] at hrun
      cases er : run (callD Ds L n) L d.body { ρ := us.map some ++ List.replicate (N.length - us.length) none, μ := μ } with
      | ok fl t =>
        rw [er] at hrun
        cases fl with
        | nx => exact fun σ' F' ex' H' r f => hrun V.non F' ex' H' (xrel_of (s := t) r f.fr) .non
        | rt v => exact fun F' ex' H' x r rv => hrun x F' ex' H' r rv
        | bk => exact hrun.elim
        | ct => exact hrun.elim
      | exc c fs t =>
        rw [er] at hrun
        exact fun F' ex' H' cls od r x => hrun F' ex' H' cls od r x
      | bad => rw [er] at hrun; exact hrun.elim
end
end Ded
end

section
set_option Elab.async false
set_option linter.all false
set_option maxRecDepth 100000
/-! From the law's call to the evaluator. -/
namespace Ded
open PySem L2
open PySem.Spec PyProof.Rows
theorem no_exc {P : Program} {w : World} {outer : List Env} {H : Hp} {s s' : Shared} {e : Value} (h : L2.CX P w outer H s (fun _ _ _ => False) e s') : False := by
  obtain ⟨_, _, _, _, _, _, _, _, _, _, _, _, z⟩ := h
  exact z
section
variable {P : Program} {w : World} {K : PySem.W.Frag} {mg mb : Str → Option Value} {k : Nat} {fa a : Addr} {fd : FuncData} {x : Str} {sp : Sp} {s1 : Shared} {vs : List Value} {ns : List Int}
theorem enter (kin : K.In s1.heap) (ng : s1.heap.Ns mainGlobals mg) (nb : s1.heap.Ns builtinsNs mb) (bb : ∀ y : Str, y ≠ "__name__" → mb y = bootBuiltins y) (nl : s1.heap.NoLimit) (gg : s1.gens = #[])
    (ha : s1.heap.get? a = some { cls := .type "list", data := .seq vs.toArray }) (iv : IntsAre vs ns) (len : ns.length ≤ sizeLine) (room : Room k callerA) (Fn : ∀ base : Heap, K.In base → base.Ns mainGlobals mg → FnG P w K mg base k fa fd [x] sp)
    (bd : ∀ u : Value, BindsTo s1 fd ⟨[u], []⟩ [(x, u)]) (hsp : ∀ H : Hp, Scr K H a ns → sp [.ref a] H (fun v _ => v = .bl true) fun _ _ _ => False) :
    codeAny (model P w) callerA (.call (.ref fa) ⟨[.ref a], []⟩) (fun r s' => r = .ok (.ret (.bool true)) ∧ OldK s1.heap s'.heap ∧ s'.os = s1.os ∧ AllBare s'.gens) s1 := by
  have rv := vals_ints iv
  have vl := iv.length
  -- over any abstract heap that knows at most the script
  have from_ : ∀ H : Hp, Scr K H a ns → HOk P w H s1.heap → (∀ b u, H b = some u → b = a ∧ ∃ o xs, u = .frz o (.lst xs)) → (H a ≠ none → K.lookup a = none) →
      codeAny (model P w) callerA (.call (.ref fa) ⟨[.ref a], []⟩) (fun r s' => r = .ok (.ret (.bool true)) ∧ OldK s1.heap s'.heap ∧ s'.os = s1.os ∧ AllBare s'.gens) s1 := by
    intro H hS hok only hK
    have hid : ∀ {b : Addr} {o : Obj}, s1.heap.get? b = some o → H b = none → (hidT s1.heap H).get? b = some o := fun e n => hidT_get e n
    have dictFree : ∀ {b : Addr} {o : Obj} {es : Array DictEntry} {ep : Nat}, s1.heap.get? b = some o → o.data = .dict es ep → H b = none := fun {b o es ep} e d => by
      cases q : H b with
      | none => rfl
      | some u =>
        obtain ⟨rfl, _⟩ := only b u q
        rw [ha] at e; cases e
        exact nomatch (show Data.seq vs.toArray _ = Data.dict es ep from d)
    have moved : ∀ {b : Addr} {m : Str → Option Value}, s1.heap.Ns b m → (hidT s1.heap H).Ns b m := fun {b m} ⟨o, es, ep, e, d, r⟩ => ⟨o, es, ep, hid e (dictFree e d), d, r⟩
    have kin' : K.In (hidT s1.heap H) := fun b o e => hid (kin b o e) (by
      cases q : H b with
      | none => rfl
      | some u =>
        obtain ⟨rfl, _⟩ := only b u q
        rw [hK (by rw [q]; exact fun z => nomatch z)] at e
        cases e)
    have mod : Mod K mg (hidT s1.heap H) := ⟨kin', moved ng, ⟨mb, moved nb, bb⟩, let ⟨mc, h1, h2⟩ := nl; ⟨mc, moved h1, h2⟩⟩
    have env0 : Env0 P w K mg (hidT s1.heap H) callerA [] s1 H := ⟨rfl, mod, fun b o e => of_hidT e, Nat.le_of_eq (hidT_size _ _), trivial, (fun b z => nomatch z), hok, .of_eq gg⟩
    refine codeAny_mono ((Fn _ kin' (moved ng)).go callerA [] s1 H ⟨[.ref a], []⟩ [.ref a] [.ref a] _ _ room rfl env0 (bd (.ref a)) (.cons rfl .nil) (hsp H hS)) fun r s' h => ?_
    rcases r with e | fl
    · exact (no_exc (show L2.CX P w [] H s1 (fun _ _ _ => False) e s' from h)).elim
    · cases fl <;> first | exact False.elim h | skip
      rename_i u
      obtain ⟨v, H', os, bare, un, hok', r', q⟩ := h
      obtain rfl : v = .bl true := q
      obtain rfl : u = Value.bool true := r'
      refine ⟨rfl, OldK.of_keep fun b o e => ?_, os, bare⟩
      cases q : H b with
      | none => exact un.keep b o e q (fun z => nomatch z) (fun z => nomatch z)
      | some u =>
        obtain ⟨_, ob, xs, rfl⟩ := only b u q
        obtain ⟨e1, _⟩ := hok b _ q
        obtain ⟨e2, _⟩ := hok' b _ (un.frzs b ob _ q)
        rw [e] at e1; cases e1
        exact e2
  cases hk : K.lookup a with
  | some o =>
    have e := kin a o hk
    rw [ha] at e
    cases e
    exact from_ (fun _ => none) (.inr (.inr ⟨_, vs.toArray, _, hk, rfl, rfl, rfl, by rw [List.size_toArray, vl]; exact len, by simpa using rv⟩)) (fun b u z => nomatch z) (fun b u z => nomatch z) (fun z => absurd rfl z)
  | none =>
    have at_ : ∀ {b : Addr} {u : HO}, (if b = a then some (HO.frz { cls := .type "list", data := .seq vs.toArray } (.lst (ns.map V.int))) else none) = some u → b = a ∧ u = HO.frz { cls := .type "list", data := .seq vs.toArray } (.lst (ns.map V.int)) := fun {b u} z => by
      by_cases hb : b = a
      · rw [if_pos hb] at z; exact ⟨hb, (Option.some.inj z).symm⟩
      · rw [if_neg hb] at z; cases z
    refine from_ (fun b => if b = a then some (.frz { cls := .type "list", data := .seq vs.toArray } (.lst (ns.map V.int))) else none) (.inl ⟨_, if_pos rfl⟩) (fun b u z => ?_) (fun b u z => ?_) fun _ => hk
    · obtain ⟨rfl, rfl⟩ := at_ z
      exact ⟨ha, by rw [List.length_map]; exact len, vs, _, rv, ha⟩
    · obtain ⟨h1, rfl⟩ := at_ z
      exact ⟨h1, _, _, rfl⟩
end
/-- the promise of a law's def, from the evaluator's answer -/
theorem law_sp {K : PySem.W.Frag} {xc : Xc} {Ds : List Def} {L n g : Nat} {H : Hp} {a : Addr} {ns : List Int} {t : S} (hs : Scr K H a ns) (h : callD Ds L n g [.scr ns] [] = .ok (.dat (.bool true)) t) :
    spD K xc (callD Ds L n g) 1 [.ref a] H (fun v _ => v = .bl true) fun _ _ _ => False := by
  refine ⟨rfl, fun _ => False, [], [.scr ns], [], ⟨.cons ⟨a, rfl, hs⟩ .nil, rfl, List.nodup_nil, (fun k d e => nomatch e), fun _ z => False.elim z⟩, ?_⟩
  rw [h]
  intro x F' ex' H' _ rv
  have rv : Rf K F' H' x (.bool true) := rv
  cases rv
  rfl
/-- a law: the text's facts, and the evaluator's answer at every script -/
theorem law_walk {l : PySem.W.OpenLaw} {n k g : Nat} {q : Program} {loose : List Str} {XP : (Str → Option Value) → Heap → Prop} {YP : World → Heap → Prop} {d : DefRec} {x : Str} {Ds : List Def} {L : Nat} {infos : List GInfo} {noG : List Str} {cs : List (Str × D)}
    (hn : l.most = some n) (hn2 : n ≤ sizeLine) (hdf : d.params.defaults = []) (room : Room k callerA) (hi : infos[g]? = some ⟨d.name, [x]⟩)
    (F : ∀ (w : World) (mg : Str → Option Value) (h : Heap), YP w h → h.Ns mainGlobals mg → ∃ K : PySem.W.Frag, K.In h ∧ ProgOk K mg Ds infos noG cs)
    (ans : ∀ ns : List Int, ns.length ≤ n → ∃ t, callD Ds L k g [.scr ns] [] = .ok (.dat (.bool true)) t) : PySem.W.WalkO q loose XP YP l.row.toRowW d [] (fun f vs => PySem.call f vs) := by
  refine Att.attach_call hn hdf fun w s₀ s₁ mg mb fa o pm cd doc a vs ns G Y ho hd hcd hmg hobj hints hlen hg => ?_
  obtain ⟨K, kin, H⟩ := F w mg _ Y G.T.g
  obtain ⟨f, fd, S⟩ := H.fns g _ hi
  have e : f = fa := by
    have := S.mg.symm.trans hmg
    cases this
    rfl
  subst e
  refine enter (k := k) (sp := spD K (fun _ _ _ _ _ _ _ _ => False) (callD Ds L k g) 1) kin G.T.g G.T.b G.T.builtins G.T.nolimit hg hobj hints (Nat.le_trans hlen hn2) room (fun base hb hg => ?_) (fun u => S.bd s₁ [u] kin rfl) fun H' hS => ?_
  · exact prog_ok H k g _ f fd S
  · obtain ⟨t, e⟩ := ans ns hlen
    exact law_sp hS e
end Ded
end

section
set_option linter.all false
set_option maxRecDepth 100000
/-! The evaluator, one step after another. -/
namespace Ded
open PySem
/-- it ends well, so -/
def wp {α : Type} (m : M α) (s : S) (P : α → S → Prop) : Prop := match m s with
  | .ok a t => P a t
  | _ => False
section
variable {α β : Type} {s : S} {P : α → S → Prop}
theorem wp_ok {m : M α} (h : wp m s P) : ∃ a t, m s = .ok a t ∧ P a t := by
  unfold wp at h
  cases e : m s with
  | ok a t => rw [e] at h; exact ⟨a, t, rfl, h⟩
  | exc _ _ _ => rw [e] at h; exact h.elim
  | bad => rw [e] at h; exact h.elim
theorem wp_of {m : M α} {a : α} {t : S} (e : m s = .ok a t) (h : P a t) : wp m s P := by
  unfold wp
  rw [e]
  exact h
theorem wp_mono {m : M α} {Q : α → S → Prop} (h : wp m s P) (q : ∀ a t, P a t → Q a t) : wp m s Q := by
  obtain ⟨a, t, e, z⟩ := wp_ok h
  exact wp_of e (q a t z)
theorem wp_ret {a : α} : wp (M.ret a) s P = P a s := rfl
theorem wp_bad : wp (M.bad : M α) s P = False := rfl
theorem wp_bind {m : M β} {f : β → M α} : wp (M.bind m f) s P = wp m s fun b t => wp (f b) t P := by
  unfold wp M.bind
  cases m s <;> rfl
theorem wp_optS {a : α} : wp (M.opt (some a)) s P = P a s := rfl
theorem wp_optN : wp (M.opt (none : Option α)) s P = False := rfl
theorem wp_optI {c : Prop} [Decidable c] {a : α} : wp (M.opt (if c then some a else none)) s P = (c ∧ P a s) := by
  by_cases h : c
  · rw [if_pos h, wp_optS]; simp [h]
  · rw [if_neg h, wp_optN]; simp [h]
end
section
variable {s : S} {i k : Nat} {d : D} {P : Val → S → Prop} {Q : D → S → Prop} {U : Unit → S → Prop} {ρ : List (Option Val)} {μ : List D}
theorem slot_mk : slot ⟨ρ, μ⟩ i = (ρ[i]?).join := rfl
def varK (P : Val → S → Prop) (i : Nat) (s : S) : Option Val → Prop
  | some (.dat d) => P (.dat d) s
  | some (.own _) => P (.loc i) s
  | some (.bor _) => P (.loc i) s
  | some (.ext k) => P (.ext k) s
  | _ => False
theorem wp_var : wp (mVar i) ⟨ρ, μ⟩ P = varK P i ⟨ρ, μ⟩ (ρ[i]?).join := by
  unfold wp mVar varK
  rw [slot_mk]
  cases (ρ[i]?).join with
  | none => rfl
  | some v => cases v <;> rfl
theorem opd_dat : wp (opd (.dat d)) s P = P (.dat d) s := rfl
theorem opd_own : wp (opd (.own d)) s P = P (.dat d) s := rfl
theorem opd_ext : wp (opd (.ext k)) s P = P (.ext k) s := rfl
theorem opd_loc : wp (opd (.loc k)) s P = P (.loc k) s := rfl
theorem wp_opd {m : M Val} : wp (mOpd m) s P = wp m s fun v t => wp (opd v) t P := wp_bind
theorem peek_dat : wp (peekM (.dat d)) s Q = Q d s := rfl
theorem peek_ext (h : μ[k]? = some d) : wp (peekM (.ext k)) ⟨ρ, μ⟩ Q = Q d ⟨ρ, μ⟩ := by
  unfold wp peekM peek
  dsimp only
  rw [h]
def locK (Q : D → S → Prop) (s : S) : Option Val → Prop
  | some (.own d) => Q d s
  | some (.bor d) => Q d s
  | _ => False
theorem peek_loc : wp (peekM (.loc i)) ⟨ρ, μ⟩ Q = locK Q ⟨ρ, μ⟩ (ρ[i]?).join := by
  unfold wp peekM peek locK
  dsimp only
  rw [slot_mk]
  cases (ρ[i]?).join with
  | none => rfl
  | some v => cases v <;> rfl
theorem frz_dat : wp (freeze (.dat d)) s Q = Q d s := rfl
theorem frz_own : wp (freeze (.own d)) s Q = Q d s := rfl
def frzK (Q : D → S → Prop) (i : Nat) (s : S) : Option Val → Prop
  | some (.own d) => Q d (setSlot s i (.dat d))
  | _ => False
theorem frz_loc : wp (freeze (.loc i)) ⟨ρ, μ⟩ Q = frzK Q i ⟨ρ, μ⟩ (ρ[i]?).join := by
  unfold wp freeze frzK
  dsimp only
  rw [slot_mk]
  cases (ρ[i]?).join with
  | none => rfl
  | some v => cases v <;> rfl
theorem wp_frz {m : M Val} : wp (mFrz m) s Q = wp m s fun v t => wp (freeze v) t Q := wp_bind
theorem wp_two {m n : M Val} {g : D → D → Option Val} : wp (mTwo m n g) s P = wp (mOpd m) s fun u s1 => wp (mOpd n) s1 fun v s2 => wp (peekM u) s2 fun x s3 => wp (peekM v) s3 fun y s4 => wp (M.opt (g x y)) s4 P := by
  unfold mTwo
  simp only [wp_bind]
theorem wp_one {m : M Val} {g : D → Option Val} : wp (mOne m g) s P = wp (mOpd m) s fun u s1 => wp (peekM u) s1 fun x s2 => wp (M.opt (g x)) s2 P := by
  unfold mOne
  simp only [wp_bind]
theorem wp_bin {o : Bop} {m n : M Val} : wp (mBin o m n) s P = wp (mTwo m n (binD o)) s P := rfl
theorem wp_cmp {o : Cop} {m n : M Val} : wp (mCmp o m n) s P = wp (mTwo m n (gCmp o)) s P := rfl
theorem wp_idx {m n : M Val} : wp (mIdx m n) s P = wp (mTwo m n gIdx) s P := rfl
theorem wp_neg {m : M Val} : wp (mNeg m) s P = wp (mOne m gNeg) s P := rfl
theorem wp_not {m : M Val} : wp (mNot m) s P = wp (mOne m fun x => (truD x).map fun b => .dat (.bool (!b))) s P := rfl
theorem wp_isi {m : M Val} {ts : List Ty} : wp (mIsi m ts) s P = wp (mOne m fun x => some (.dat (.bool (ts.any fun t => isTy t x)))) s P := rfl
theorem wp_tru {m : M Val} {B : Bool → S → Prop} : wp (tTru m) s B = wp (mOpd m) s fun u s1 => wp (peekM u) s1 fun x s2 => wp (M.opt (truD x)) s2 B := by
  unfold tTru
  simp only [wp_bind]
theorem wp_ifb {α : Type} {b : Bool} {m n : M α} {P : α → S → Prop} : wp (if b = true then m else n) s P = ((b = true → wp m s P) ∧ (b = false → wp n s P)) := by
  cases b <;> simp
theorem wp_tand {m n : M Bool} {B : Bool → S → Prop} : wp (tAnd' m n) s B = wp m s fun x t => wp (if x = true then n else M.ret false) t B := wp_bind
theorem wp_tor {m n : M Bool} {B : Bool → S → Prop} : wp (tOr' m n) s B = wp m s fun x t => wp (if x = true then M.ret true else n) t B := wp_bind
theorem wp_tnot {m : M Bool} {B : Bool → S → Prop} : wp (tNot' m) s B = wp m s fun x t => B (!x) t := wp_bind
theorem wp_ite {t : M Bool} {m n : M Val} : wp (mIte t m n) s P = wp t s fun b s1 => wp (if b = true then m else n) s1 P := wp_bind
theorem wp_and {m n : M Val} : wp (mAnd m n) s P = wp (mOpd m) s fun u s1 => wp (peekM u) s1 fun x s2 => wp (M.opt (truD x)) s2 fun b s3 => wp (if b = true then n else M.ret u) s3 P := by
  unfold mAnd
  simp only [wp_bind]
theorem wp_or {m n : M Val} : wp (mOr m n) s P = wp (mOpd m) s fun u s1 => wp (peekM u) s1 fun x s2 => wp (M.opt (truD x)) s2 fun b s3 => wp (if b = true then M.ret u else n) s3 P := by
  unfold mOr
  simp only [wp_bind]
theorem wp_lnil {α : Type} {A : List α → S → Prop} : wp (lNil : M (List α)) s A = A [] s := rfl
theorem wp_lcons {α : Type} {m : M α} {l : M (List α)} {A : List α → S → Prop} : wp (lCons m l) s A = wp m s fun x s1 => wp l s1 fun xs s2 => A (x :: xs) s2 := by
  unfold lCons
  simp only [wp_bind, wp_ret]
theorem wp_peeks0 {A : List D → S → Prop} : wp (peeks []) s A = A [] s := rfl
theorem wp_peeks1 {v : Val} {vs : List Val} {A : List D → S → Prop} : wp (peeks (v :: vs)) s A = wp (peekM v) s fun x s1 => wp (peeks vs) s1 fun xs s2 => A (x :: xs) s2 := by
  show wp (M.bind (peekM v) fun x => M.bind (peeks vs) fun xs => M.ret (x :: xs)) s A = _
  simp only [wp_bind, wp_ret]
theorem wp_blt {f : Blt} {m : M (List Val)} : wp (mBlt f m) s P = wp m s fun vs s1 => wp (peeks vs) s1 fun ds s2 => wp (M.opt (bltD f ds)) s2 P := by
  unfold mBlt
  simp only [wp_bind]
theorem wp_tup {m : M (List D)} : wp (mTup m) s P = wp m s fun ds t => ds.length ≤ sizeLine ∧ P (.dat (.tuple ds)) t := by
  unfold mTup
  rw [wp_bind]
  congr 1
  funext ds t
  by_cases h : ds.length ≤ sizeLine
  · rw [if_pos h, wp_ret]; simp [h]
  · rw [if_neg h, wp_bad]; simp [h]
theorem wp_lst {m : M (List D)} : wp (mLst m) s P = wp m s fun ds t => ds.length ≤ sizeLine ∧ P (.own (.list ds)) t := by
  unfold mLst
  rw [wp_bind]
  congr 1
  funext ds t
  by_cases h : ds.length ≤ sizeLine
  · rw [if_pos h, wp_ret]; simp [h]
  · rw [if_neg h, wp_bad]; simp [h]
/-! ### statements -/
variable {X : Flow → S → Prop}
def flowK (k : M Flow) (X : Flow → S → Prop) (t : S) : Flow → Prop
  | .nx => wp k t X
  | .rt v => X (.rt v) t
  | .bk => X .bk t
  | .ct => X .ct t
theorem wp_then {m k : M Flow} : wp (thenK m k) s X = wp m s fun f t => flowK k X t f := by
  unfold thenK
  rw [wp_bind]
  congr 1
  funext f t
  cases f <;> rfl
theorem wp_exp {m : M Val} : wp (kExp m) s X = wp m s fun _ t => X .nx t := wp_bind
theorem wp_set {m : M Val} : wp (kSet i m) s X = wp m s fun v t => wp (setV i v) t fun _ t => X .nx t := by
  unfold kSet
  simp only [wp_bind, wp_ret]
theorem wp_slot {v : Val} : wp (putSlot i v) ⟨ρ, μ⟩ U = (i < ρ.length ∧ U () ⟨ρ.set i (some v), μ⟩) := by
  unfold wp putSlot
  by_cases h : i < ρ.length
  · simp [h, setSlot]
  · simp [h]
theorem setv_dat : wp (setV i (.dat d)) s U = wp (putSlot i (.dat d)) s U := rfl
theorem setv_own : wp (setV i (.own d)) s U = wp (putSlot i (.own d)) s U := rfl
theorem setv_ext : wp (setV i (.ext k)) s U = wp (putSlot i (.ext k)) s U := rfl
theorem setv_loc {j : Nat} : wp (setV i (.loc j)) s U = wp (freeze (.loc j)) s fun d t => wp (putSlot i (.dat d)) t U := wp_bind
theorem wp_par {j : Nat} {m n : M Val} : wp (kPar i j m n) s X = wp (mFrz m) s fun x s1 => wp (mFrz n) s1 fun y s2 => wp (putSlot i (.dat x)) s2 fun _ s3 => wp (putSlot j (.dat y)) s3 fun _ s4 => X .nx s4 := by
  unfold kPar
  simp only [wp_bind, wp_lcons, wp_lnil, putPar, wp_ret]
theorem wp_kret {m : M Val} : wp (kRet m) s X = wp m s fun v t => wp (retV v) t fun v t => X (.rt v) t := by
  unfold kRet
  simp only [wp_bind, wp_ret]
theorem ret_dat : wp (retV (.dat d)) s P = P (.dat d) s := rfl
theorem ret_own : wp (retV (.own d)) s P = P (.own d) s := rfl
theorem ret_ext : wp (retV (.ext k)) s P = P (.ext k) s := rfl
def retK (P : Val → S → Prop) (s : S) : Option Val → Prop
  | some (.own d) => P (.own d) s
  | _ => False
theorem ret_loc : wp (retV (.loc i)) ⟨ρ, μ⟩ P = retK P ⟨ρ, μ⟩ (ρ[i]?).join := by
  unfold wp retV retK
  dsimp only
  rw [slot_mk]
  cases (ρ[i]?).join with
  | none => rfl
  | some v => cases v <;> rfl
theorem wp_kite {t : M Bool} {a b : M Flow} : wp (kIte t a b) s X = wp t s fun x s1 => wp (if x = true then a else b) s1 X := wp_bind
theorem wp_sti {m n : M Val} : wp (kSti i m n) s X = wp (mFrz n) s fun v s1 => wp (chkD i) s1 fun _ s2 => wp (mFrz m) s2 fun k s3 => wp (putD i k v) s3 X := by
  unfold kSti
  simp only [wp_bind]
theorem chk_ext {kvs : List (D × D)} (h0 : (ρ[i]?).join = some (.ext k)) (h : μ[k]? = some (.dict kvs)) : wp (chkD i) ⟨ρ, μ⟩ U = U () ⟨ρ, μ⟩ := by
  unfold wp chkD
  rw [slot_mk, h0]
  dsimp only
  rw [h]
theorem put_ext {kvs : List (D × D)} {y v : D} (h0 : (ρ[i]?).join = some (.ext k)) (h : μ[k]? = some (.dict kvs)) (hy : isKey y = true) (hl : kvs.length < sizeLine) : wp (putD i y v) ⟨ρ, μ⟩ X = X .nx ⟨ρ, μ.set k (.dict (putIn kvs y v))⟩ := by
  unfold wp putD
  rw [if_pos hy, slot_mk, h0]
  dsimp only
  rw [h]
  dsimp only
  rw [if_pos hl]
/-! the feed stands in the first slot, others hold it too -/
variable {kvs : List (D × D)} {y v : D}
theorem chk0 (h : μ[k]? = some (.dict kvs)) : wp (chkD 0) ⟨some (.ext k) :: ρ, μ⟩ U = U () ⟨some (.ext k) :: ρ, μ⟩ := chk_ext rfl h
theorem put0 (h : μ[k]? = some (.dict kvs)) (hy : isKey y = true) (hl : kvs.length < sizeLine) : wp (putD 0 y v) ⟨some (.ext k) :: ρ, μ⟩ X = X .nx ⟨some (.ext k) :: ρ, μ.set k (.dict (putIn kvs y v))⟩ := put_ext rfl h hy hl
theorem gset (h : k < μ.length) : (μ.set k d)[k]? = some d := List.getElem?_set_self h
theorem chk0s (h : k < μ.length) : wp (chkD 0) ⟨some (.ext k) :: ρ, μ.set k (.dict kvs)⟩ U = U () ⟨some (.ext k) :: ρ, μ.set k (.dict kvs)⟩ := chk0 (gset h)
theorem put0s (h : k < μ.length) (hy : isKey y = true) (hl : kvs.length < sizeLine) : wp (putD 0 y v) ⟨some (.ext k) :: ρ, μ.set k (.dict kvs)⟩ X = X .nx ⟨some (.ext k) :: ρ, μ.set k (.dict (putIn kvs y v))⟩ := by
  rw [put0 (gset h) hy hl, List.set_set]
theorem peeks_ (h : k < μ.length) : wp (peekM (.ext k)) ⟨ρ, μ.set k d⟩ Q = Q d ⟨ρ, μ.set k d⟩ := peek_ext (gset h)
end
end Ded
end

section
set_option linter.all false
set_option maxRecDepth 100000
/-! Calls and comprehensions, one step after another. -/
namespace Ded
open PySem
/-- a call's end -/
def wpc (r : R Val) (P : Val → List D → Prop) : Prop := match r with
  | .ok v t => P v t.μ
  | _ => False
theorem wpc_ok {r : R Val} {P : Val → List D → Prop} (h : wpc r P) : ∃ v t, r = .ok v t ∧ P v t.μ := by
  unfold wpc at h
  cases r with
  | ok v t => exact ⟨v, t, rfl, h⟩
  | exc _ _ _ => exact h.elim
  | bad => exact h.elim
theorem wpc_mono {r : R Val} {P Q : Val → List D → Prop} (h : wpc r P) (q : ∀ v μ, P v μ → Q v μ) : wpc r Q := by
  obtain ⟨v, t, rfl, z⟩ := wpc_ok h
  exact q _ _ z
section
variable {cd : Nat → List Val → List D → R Val} {s : S} {P : Val → S → Prop} {g : Nat}
def callK (cd : Nat → List Val → List D → R Val) (g : Nat) (s : S) (P : Val → S → Prop) : Option (List Val) → Prop
  | none => False
  | some us => wpc (cd g us s.μ) fun v μ => P v ⟨s.ρ, μ⟩
theorem wp_call {m : M (List Val)} : wp (mCall cd g m) s P = wp m s fun vs t => callK cd g t P (solveAll t vs) := by
  unfold mCall
  rw [wp_bind]
  congr 1
  funext vs t
  unfold wp callK wpc
  dsimp only
  cases h : solveAll t vs with
  | none => simp only
  | some us =>
    simp only
    cases cd g us t.μ <;> rfl
theorem argv_dat {d : D} : wp (argV (.dat d)) s P = P (.dat d) s := rfl
theorem argv_own {d : D} : wp (argV (.own d)) s P = P (.dat d) s := rfl
theorem argv_ext {k : Nat} : wp (argV (.ext k)) s P = P (.ext k) s := rfl
def argK (P : Val → S → Prop) (i : Nat) (s : S) : Option Val → Prop
  | some (.own d) => P (.dat d) (setSlot s i (.dat d))
  | _ => False
theorem argv_loc {i : Nat} {ρ : List (Option Val)} {μ : List D} : wp (argV (.loc i)) ⟨ρ, μ⟩ P = argK P i ⟨ρ, μ⟩ (ρ[i]?).join := by
  unfold wp argV argK
  dsimp only
  rw [slot_mk]
  cases (ρ[i]?).join with
  | none => rfl
  | some v => cases v <;> rfl
def lendK (P : Val → S → Prop) (i : Nat) (s : S) : Option Val → Prop
  | some (.own d) => P (.ext s.μ.length) ⟨s.ρ.set i (some (.ext s.μ.length)), s.μ ++ [d]⟩
  | some (.ext k) => P (.ext k) s
  | some (.scr ns) => P (.scr ns) s
  | _ => False
theorem wp_lend {i : Nat} {ρ : List (Option Val)} {μ : List D} : wp (mLend i) ⟨ρ, μ⟩ P = lendK P i ⟨ρ, μ⟩ (ρ[i]?).join := by
  unfold wp mLend lendK
  rw [slot_mk]
  cases (ρ[i]?).join with
  | none => rfl
  | some v => cases v <;> rfl
theorem solve_nil : solveAll s [] = some [] := rfl
theorem solve_dat {d : D} {vs : List Val} : solveAll s (.dat d :: vs) = (solveAll s vs).map (.dat d :: ·) := by
  show (match solve s (.dat d), solveAll s vs with
    | some u, some us => some (u :: us)
    | _, _ => none) = _
  cases solveAll s vs <;> rfl
theorem solve_ext {k : Nat} {vs : List Val} : solveAll s (.ext k :: vs) = (solveAll s vs).map (.ext k :: ·) := by
  show (match solve s (.ext k), solveAll s vs with
    | some u, some us => some (u :: us)
    | _, _ => none) = _
  cases solveAll s vs <;> rfl
theorem solve_scr {k : List Int} {vs : List Val} : solveAll s (.scr k :: vs) = (solveAll s vs).map (.scr k :: ·) := by
  show (match solve s (.scr k), solveAll s vs with
    | some u, some us => some (u :: us)
    | _, _ => none) = _
  cases solveAll s vs <;> rfl
/-- a def's body -/
def endK (P : Val → List D → Prop) : Flow → S → Prop := fun f t => match f with
  | .rt v => P v t.μ
  | .nx => P (.dat .none) t.μ
  | _ => False
theorem wpc_call {Ds : List Def} {L n g : Nat} {d : Def} {vs : List Val} {μ : List D} {P : Val → List D → Prop} (e : Ds[g]? = some d) (hl : vs.length = d.pars) (h : wp (run (callD Ds L n) L d.body) ⟨vs.map some ++ List.replicate (d.slots - vs.length) none, μ⟩ (endK P)) : wpc (callD Ds L (n + 1) g vs μ) P := by
  obtain ⟨f, t, er, z⟩ := wp_ok h
  unfold callD wpc
  rw [e]
  dsimp only
  rw [if_pos hl, er]
  cases f <;> exact z
/-! ### comprehensions -/
theorem wp_loop {turn : D → M (Option D)} (I : S → Prop) (R : D → Option D → Prop) : ∀ (ds : List D) {s : S}, I s → (∀ d ∈ ds, ∀ s, I s → wp (turn d) s fun o t => I t ∧ R d o) → wp (lcLoop turn ds) s fun ys t => I t ∧ ∃ os : List (Option D), ys = os.filterMap id ∧ os.length = ds.length ∧ ∀ (i : Nat) (d : D) (o : Option D), ds[i]? = some d → os[i]? = some o → R d o
  | [], s, hI, _ => ⟨hI, [], rfl, rfl, fun i d o h => by simp at h⟩
  | d :: ds, s, hI, h => by
    show wp (M.bind (turn d) fun o => M.bind (lcLoop turn ds) fun ys => M.ret (match o with | some y => y :: ys | none => ys)) s _
    rw [wp_bind]
    refine wp_mono (h d List.mem_cons_self s hI) fun o t ⟨hI2, hr⟩ => ?_
    rw [wp_bind]
    refine wp_mono (wp_loop I R ds hI2 fun d hd => h d (List.mem_cons_of_mem _ hd)) fun ys t2 ⟨hI3, os, e1, e2, e3⟩ => ?_
    refine ⟨hI3, o :: os, ?_, by rw [List.length_cons, List.length_cons, e2], fun i d' o' h1 h2 => ?_⟩
    · subst e1
      cases o <;> rfl
    · cases i with
      | zero => cases h1; cases h2; exact hr
      | succ i => exact e3 i d' o' (by simpa using h1) (by simpa using h2)
/-- each element's part is told by its datum alone, the state stays -/
theorem wp_loop_pure {turn : D → M (Option D)} (f : D → Option D) (s : S) : ∀ (ds : List D), (∀ d ∈ ds, turn d s = .ok (f d) s) → lcLoop turn ds s = .ok (ds.filterMap f) s
  | [], _ => rfl
  | d :: ds, h => by
    show M.bind (turn d) (fun o => M.bind (lcLoop turn ds) fun ys => M.ret (match o with | some y => y :: ys | none => ys)) s = _
    unfold M.bind
    rw [h d List.mem_cons_self]
    dsimp only
    rw [wp_loop_pure f s ds fun d hd => h d (List.mem_cons_of_mem _ hd)]
    rw [List.filterMap_cons]
    cases f d <;> rfl
theorem wp_lc {m : M Val} {g : D → M Unit} {w : M (List D)} {c : M Bool} {vs : List Nat} : wp (mLc m g w c vs) s P = wp w s fun ds s1 => wp (lcLoop (lcTurn g c m vs) ds) ⟨wipe s1.ρ vs, s1.μ⟩ fun ys t => (ys.length ≤ sizeLine ∧ restOk s1.ρ vs = true) ∧ P (.own (.list ys)) ⟨putBack s1.ρ t.ρ vs, t.μ⟩ := by
  unfold mLc
  rw [wp_bind]
  congr 1
  funext ds s1
  unfold wp
  dsimp only
  cases lcLoop (lcTurn g c m vs) ds ⟨wipe s1.ρ vs, s1.μ⟩ with
  | ok ys t =>
    simp only
    by_cases h : ys.length ≤ sizeLine ∧ restOk s1.ρ vs = true
    · rw [if_pos h]; simp [h]
    · rw [if_neg h]; simp [h]
  | exc _ _ _ => rfl
  | bad => rfl
theorem wp_wipe {vs : List Nat} {U : Unit → S → Prop} : wp (mWipe vs) s U = U () ⟨wipe s.ρ vs, s.μ⟩ := rfl
theorem wp_turn {m : M Val} {g : D → M Unit} {c : M Bool} {vs : List Nat} {d : D} {O : Option D → S → Prop} : wp (lcTurn g c m vs d) s O = wp (g d) s fun _ s1 => wp c s1 fun b s2 => (b = true → wp (mFrz m) s2 fun y t => O (some y) ⟨wipe t.ρ vs, t.μ⟩) ∧ (b = false → O none ⟨wipe s2.ρ vs, s2.μ⟩) := by
  unfold lcTurn
  simp only [wp_bind, wp_ifb, wp_wipe, wp_ret]
theorem eq_of_wp {α : Type} {m : M α} {a : α} {s t : S} (h : wp m s fun b u => b = a ∧ u = t) : m s = .ok a t := by
  obtain ⟨b, u, e, rfl, rfl⟩ := wp_ok h
  exact e
theorem wp_gvar {i : Nat} {d : D} {U : Unit → S → Prop} : wp (gVar i d) s U = wp (putSlot i (.dat d)) s U := rfl
theorem wp_wof {m : M Val} {W : List D → S → Prop} : wp (wOf m) s W = wp (mFrz m) s fun x t => wp (M.opt (itemsOf x)) t W := wp_bind
theorem wp_chn {o o' : Cop} {m n l : M Val} : wp (mChn o o' m n l) s P = wp (mOpd m) s fun u s1 => wp (mOpd n) s1 fun v s2 => wp (peekM u) s2 fun x s3 => wp (peekM v) s3 fun y s4 => wp (M.opt (cmpD o x y)) s4 fun r s5 => (r = true → wp (mOpd l) s5 fun w s6 => wp (peekM v) s6 fun y s7 => wp (peekM w) s7 fun z s8 => wp (M.opt (cmpD o' y z)) s8 fun r' s9 => P (.dat (.bool r')) s9) ∧ (r = false → P (.dat (.bool false)) s5) := by
  unfold mChn
  simp only [wp_bind, wp_ifb, wp_ret]
/-- a comprehension of one name, whose parts hang on the datum alone -/
theorem lc1 {ρ : List (Option Val)} {μ : List D} {i : Nat} {m : M Val} {w : M (List D)} {c : M Bool} {ds : List D} (f : D → Option D) (hw : wp w ⟨ρ, μ⟩ fun ds' t => ds' = ds ∧ t = ⟨ρ, μ⟩) (hi : i < ρ.length) (hset : ρ.set i none = ρ) (hl : (ds.filterMap f).length ≤ sizeLine)
    (h : ∀ d ∈ ds, wp c ⟨ρ.set i (some (.dat d)), μ⟩ fun b s2 => (b = true → wp (mFrz m) s2 fun y t => f d = some y ∧ t = ⟨ρ.set i (some (.dat d)), μ⟩) ∧ (b = false → f d = none ∧ s2 = ⟨ρ.set i (some (.dat d)), μ⟩)) :
    wp (mLc m (gVar i) w c [i]) ⟨ρ, μ⟩ fun v t => v = .own (.list (ds.filterMap f)) ∧ t = ⟨ρ, μ⟩ := by
  have hn : ρ[i]? = some none := by
    rw [← hset, List.getElem?_set_self hi]
  have hw1 : wipe ρ [i] = ρ := hset
  have hw2 : ∀ d, wipe (ρ.set i (some (Val.dat d))) [i] = ρ := fun d => by
    show ((ρ.set i (some (Val.dat d))).set i none) = ρ
    rw [List.set_set, hset]
  rw [wp_lc]
  refine wp_mono hw ?_
  rintro ds' t ⟨rfl, rfl⟩
  rw [hw1]
  refine wp_of (wp_loop_pure f _ ds' fun d hd => eq_of_wp ?_) ⟨⟨hl, ?_⟩, rfl, ?_⟩
  · rw [wp_turn, wp_gvar, wp_slot]
    refine ⟨hi, wp_mono (h d hd) fun b s2 ⟨h1, h2⟩ => ⟨fun e => wp_mono (h1 e) ?_, fun e => ?_⟩⟩
    · rintro y t ⟨e1, rfl⟩
      exact ⟨e1.symm, by dsimp only; rw [hw2]⟩
    · obtain ⟨e1, rfl⟩ := h2 e
      exact ⟨e1.symm, by dsimp only; rw [hw2]⟩
  · show restOk ρ [i] = true
    unfold restOk
    rw [List.all_cons, hn]
    rfl
  · show (⟨putBack ρ ρ [i], μ⟩ : S) = _
    have : putBack ρ ρ [i] = ρ := by
      show ρ.set i ((ρ[i]?).join) = ρ
      rw [hn]
      exact hset
    rw [this]
/-- a comprehension whose parts hang on the datum alone -/
theorem lcg {ρ : List (Option Val)} {μ : List D} {vs : List Nat} {m : M Val} {g : D → M Unit} {w : M (List D)} {c : M Bool} {ds : List D} (f : D → Option D) (hw : wp w ⟨ρ, μ⟩ fun ds' t => ds' = ds ∧ t = ⟨ρ, μ⟩) (h1 : wipe ρ vs = ρ) (h2 : restOk ρ vs = true) (h3 : putBack ρ ρ vs = ρ) (hl : (ds.filterMap f).length ≤ sizeLine)
    (h : ∀ d ∈ ds, wp (lcTurn g c m vs d) ⟨ρ, μ⟩ fun o t => o = f d ∧ t = ⟨ρ, μ⟩) : wp (mLc m g w c vs) ⟨ρ, μ⟩ fun v t => v = .own (.list (ds.filterMap f)) ∧ t = ⟨ρ, μ⟩ := by
  rw [wp_lc]
  refine wp_mono hw ?_
  rintro ds' t ⟨rfl, rfl⟩
  rw [h1]
  refine wp_of (wp_loop_pure f _ ds' fun d hd => eq_of_wp (h d hd)) ⟨⟨hl, h2⟩, rfl, ?_⟩
  dsimp only
  rw [h3]
theorem wp_gtup {gs : List D → M Unit} {ds : List D} {U : Unit → S → Prop} : wp (gTup' gs (.tuple ds)) s U = wp (gs ds) s U := rfl
theorem wp_gcons {g : D → M Unit} {gs : List D → M Unit} {d : D} {ds : List D} {U : Unit → S → Prop} : wp (gCons' g gs (d :: ds)) s U = wp (g d) s fun _ t => wp (gs ds) t U := wp_bind
theorem wp_gnil {U : Unit → S → Prop} : wp (gNil' []) s U = U () s := rfl
theorem wp_zip {m : M (List D)} {W : List D → S → Prop} : wp (wZip m) s W = wp m s fun l t => wp (M.opt (zipD l)) t W := wp_bind
theorem wp_range {m : M (List Val)} {W : List D → S → Prop} : wp (wRange m) s W = wp m s fun vs t => wp (peeks vs) t fun ds t => wp (M.opt (rangeD ds)) t W := by
  unfold wRange
  simp only [wp_bind]
theorem wp_sli {m : M Val} {lo hi : M (Option Int)} : wp (mSli m lo hi) s P = wp (mOpd m) s fun u s1 => wp lo s1 fun i s2 => wp hi s2 fun j s3 => wp (peekM u) s3 fun x s4 => wp (M.opt (sliD x i j)) s4 P := by
  unfold mSli
  simp only [wp_bind]
theorem wp_oint {m : M Val} {i : Int} {O : Option Int → S → Prop} (h : wp m s fun v t => v = .dat (.int i) ∧ t = s) : wp (mOInt m) s O = O (some i) s := by
  obtain ⟨v, t, e, rfl, rfl⟩ := wp_ok h
  unfold mOInt mOpd
  rw [wp_bind, wp_bind]
  unfold wp
  rw [e]
  rfl
theorem oint_cst {i : Int} {O : Option Int → S → Prop} : wp (mOInt (M.ret (.dat (.int i)))) s O = O (some i) s := rfl
end
end Ded
end

section
set_option linter.all false
set_option maxRecDepth 100000
set_option maxHeartbeats 1000000
/-! Loops and comprehensions that draw: the state outside the frame changes. -/
namespace Ded
open PySem
section
variable {α : Type} {s : S}
theorem wp_for_ {I : S → Prop} {turn : D → M Flow} : ∀ (ds : List D) {s : S}, I s → (∀ d ∈ ds, ∀ s, I s → wp (turn d) s fun f t => f = .nx ∧ I t) → wp (forLoop turn ds) s fun f t => f = .nx ∧ I t
  | [], s, hI, _ => ⟨rfl, hI⟩
  | d :: ds, s, hI, h => by
    show wp (M.bind (turn d) fun f => match f with
    | .nx => forLoop turn ds
    | .ct => forLoop turn ds
    | .bk => M.ret .nx
    | .rt v => M.ret (.rt v)) s _
    rw [wp_bind]
    refine wp_mono (h d List.mem_cons_self s hI) ?_
    rintro f t ⟨rfl, ht⟩
    exact wp_for_ ds ht fun x hx => h x (List.mem_cons_of_mem _ hx)
/-- a for whose turns keep I -/
theorem wp_kfor {I : S → Prop} {g : D → M Unit} {w : M (List D)} {b : M Flow} {Q : List D → Prop} (hw : wp w s fun ds t => Q ds ∧ I t) (h : ∀ ds, Q ds → ∀ d ∈ ds, ∀ s, I s → wp (g d) s fun _ t => wp b t fun f t => f = .nx ∧ I t) : wp (kFor g w b) s fun f t => f = .nx ∧ I t := by
  unfold kFor
  rw [wp_bind]
  refine wp_mono hw ?_
  rintro ds t ⟨q, i⟩
  refine wp_for_ ds i fun d hd s hs => ?_
  rw [wp_bind]
  exact h ds q d hd s hs
/-- one that counts: I k ahead of turn k -/
theorem wp_for_n {I : Nat → S → Prop} {turn : D → M Flow} : ∀ (ds : List D) (k : Nat) {s : S}, I k s → (∀ d ∈ ds, ∀ k s, I k s → wp (turn d) s fun f t => f = .nx ∧ I (k + 1) t) → wp (forLoop turn ds) s fun f t => f = .nx ∧ I (k + ds.length) t
  | [], k, s, hI, _ => ⟨rfl, hI⟩
  | d :: ds, k, s, hI, h => by
    show wp (M.bind (turn d) fun f => match f with
    | .nx => forLoop turn ds
    | .ct => forLoop turn ds
    | .bk => M.ret .nx
    | .rt v => M.ret (.rt v)) s _
    rw [wp_bind]
    refine wp_mono (h d List.mem_cons_self k s hI) ?_
    rintro f t ⟨rfl, ht⟩
    refine wp_mono (wp_for_n ds (k + 1) ht fun x hx => h x (List.mem_cons_of_mem _ hx)) ?_
    rintro f t ⟨e, z⟩
    refine ⟨e, ?_⟩
    rw [List.length_cons]
    have : k + (ds.length + 1) = k + 1 + ds.length := by omega
    rw [this]
    exact z
/-- one that counts, k turns at most -/
theorem wp_for_b {I : Nat → S → Prop} {turn : D → M Flow} : ∀ (ds : List D) (k : Nat) {s : S}, I k s → (∀ d ∈ ds, ∀ j, j < k + ds.length → ∀ s, I j s → wp (turn d) s fun f t => f = .nx ∧ I (j + 1) t) → wp (forLoop turn ds) s fun f t => f = .nx ∧ I (k + ds.length) t
  | [], k, s, hI, _ => ⟨rfl, hI⟩
  | d :: ds, k, s, hI, h => by
    show wp (M.bind (turn d) fun f => match f with
    | .nx => forLoop turn ds
    | .ct => forLoop turn ds
    | .bk => M.ret .nx
    | .rt v => M.ret (.rt v)) s _
    rw [wp_bind]
    refine wp_mono (h d List.mem_cons_self k (by rw [List.length_cons]; omega) s hI) ?_
    rintro f t ⟨rfl, ht⟩
    refine wp_mono (wp_for_b ds (k + 1) ht fun x hx j hj => h x (List.mem_cons_of_mem _ hx) j (by rw [List.length_cons]; omega)) ?_
    rintro f t ⟨e, z⟩
    refine ⟨e, ?_⟩
    rw [List.length_cons]
    have : k + (ds.length + 1) = k + 1 + ds.length := by omega
    rw [this]
    exact z
/-- each turn gives one element, that has R -/
theorem wp_loop_all {turn : D → M (Option D)} (I : S → Prop) (R : D → Prop) : ∀ (ds : List D) {s : S}, I s → (∀ d ∈ ds, ∀ s, I s → wp (turn d) s fun o t => (∃ y, o = some y ∧ R y) ∧ I t) → wp (lcLoop turn ds) s fun ys t => (ys.length = ds.length ∧ ∀ y ∈ ys, R y) ∧ I t
  | [], s, hI, _ => ⟨⟨rfl, fun y hy => by cases hy⟩, hI⟩
  | d :: ds, s, hI, h => by
    show wp (M.bind (turn d) fun o => M.bind (lcLoop turn ds) fun ys => M.ret (match o with | some y => y :: ys | none => ys)) s _
    rw [wp_bind]
    refine wp_mono (h d List.mem_cons_self s hI) ?_
    rintro o t ⟨⟨y, rfl, hy⟩, ht⟩
    rw [wp_bind]
    refine wp_mono (wp_loop_all I R ds ht fun x hx => h x (List.mem_cons_of_mem _ hx)) ?_
    rintro ys t ⟨⟨hl, hr⟩, ht⟩
    rw [wp_ret]
    refine ⟨⟨?_, fun z hz => ?_⟩, ht⟩
    · simp only [List.length_cons, hl]
    · rcases List.mem_cons.mp hz with e | e
      · exact e ▸ hy
      · exact hr z e
/-- a comprehension that draws: the frame stays, I holds of the rest -/
theorem lcn {ρ : List (Option Val)} {μ : List D} {vs : List Nat} {m : M Val} {g : D → M Unit} {w : M (List D)} {c : M Bool} (I : List D → Prop) (R : D → Prop) (Q : List D → Prop) (hw : wp w ⟨ρ, μ⟩ fun ds t => Q ds ∧ t.ρ = ρ ∧ I t.μ) (h1 : wipe ρ vs = ρ) (h2 : restOk ρ vs = true) (h3 : putBack ρ ρ vs = ρ) (hl : ∀ ds, Q ds → ds.length ≤ sizeLine)
    (h : ∀ ds, Q ds → ∀ d ∈ ds, ∀ μ, I μ → wp (lcTurn g c m vs d) ⟨ρ, μ⟩ fun o t => (∃ y, o = some y ∧ R y) ∧ t.ρ = ρ ∧ I t.μ) : wp (mLc m g w c vs) ⟨ρ, μ⟩ fun v t => ∃ ds ys μ', v = .own (.list ys) ∧ t = ⟨ρ, μ'⟩ ∧ I μ' ∧ Q ds ∧ ys.length = ds.length ∧ ∀ y ∈ ys, R y := by
  rw [wp_lc]
  refine wp_mono hw ?_
  rintro ds ⟨ρ', μ'⟩ ⟨q, rfl, i⟩
  dsimp only at h1 h2 h3 h hw ⊢
  rw [h1]
  refine wp_mono (wp_loop_all (fun t => t.ρ = ρ' ∧ I t.μ) R ds ⟨rfl, i⟩ ?_) ?_
  · rintro d hd ⟨ρ2, μ2⟩ ⟨e, i2⟩
    dsimp only at e i2
    subst e
    exact h ds q d hd μ2 i2
  · rintro ys ⟨ρ2, μ2⟩ ⟨⟨hy, hr⟩, e, i2⟩
    dsimp only at e i2 ⊢
    subst e
    refine ⟨⟨by rw [hy]; exact hl ds q, h2⟩, ds, ys, μ2, rfl, ?_, i2, q, hy, hr⟩
    rw [h3]
/-- lc1 from another state -/
theorem lc1s {s0 : S} {ρ : List (Option Val)} {μ : List D} {i : Nat} {m : M Val} {w : M (List D)} {c : M Bool} {ds : List D} (f : D → Option D) (hw : wp w s0 fun ds' t => ds' = ds ∧ t = ⟨ρ, μ⟩) (hi : i < ρ.length) (hset : ρ.set i none = ρ) (hl : (ds.filterMap f).length ≤ sizeLine)
    (h : ∀ d ∈ ds, wp c ⟨ρ.set i (some (.dat d)), μ⟩ fun b s2 => (b = true → wp (mFrz m) s2 fun y t => f d = some y ∧ t = ⟨ρ.set i (some (.dat d)), μ⟩) ∧ (b = false → f d = none ∧ s2 = ⟨ρ.set i (some (.dat d)), μ⟩)) :
    wp (mLc m (gVar i) w c [i]) s0 fun v t => v = .own (.list (ds.filterMap f)) ∧ t = ⟨ρ, μ⟩ := by
  have z := lc1 (w := M.ret ds) (m := m) (c := c) f (μ := μ) ⟨rfl, rfl⟩ hi hset hl h
  rw [wp_lc, wp_ret] at z
  rw [wp_lc]
  refine wp_mono hw ?_
  rintro ds' t ⟨rfl, rfl⟩
  exact z
theorem wp_seq {m k : M Flow} {X : Flow → S → Prop} {I : S → Prop} (h : wp m s fun f t => f = .nx ∧ I t) (h2 : ∀ t, I t → wp k t X) : wp (thenK m k) s X := by
  rw [wp_then]
  refine wp_mono h ?_
  rintro f t ⟨rfl, ht⟩
  exact h2 t ht
/-- the same, never looked into -/
@[irreducible] def wpI {α : Type} (m : M α) (s : S) (P : α → S → Prop) : Prop := wp m s P
theorem wpI_eq {α : Type} {m : M α} {s : S} {P : α → S → Prop} : wpI m s P = wp m s P := by
  unfold wpI
  rfl
theorem wpI_seq {m k : M Flow} {X : Flow → S → Prop} {I : S → Prop} (h : wpI m s fun f t => f = .nx ∧ I t) (h2 : ∀ t, I t → wpI k t X) : wpI (thenK m k) s X := by
  rw [wpI_eq] at h ⊢
  exact wp_seq h fun t ht => by
    have := h2 t ht
    rwa [wpI_eq] at this
theorem wpI_mono {α : Type} {m : M α} {P Q : α → S → Prop} (h : wpI m s P) (q : ∀ a t, P a t → Q a t) : wpI m s Q := by
  rw [wpI_eq] at h ⊢
  exact wp_mono h q
theorem wpI_for {I : S → Prop} {turn : D → M Flow} {ds : List D} (hI : I s) (h : ∀ d ∈ ds, ∀ s, I s → wp (turn d) s fun f t => f = .nx ∧ I t) : wpI (forLoop turn ds) s fun f t => f = .nx ∧ I t := by
  rw [wpI_eq]
  exact wp_for_ ds hI h
theorem wpI_for_b {I : Nat → S → Prop} {turn : D → M Flow} {ds : List D} {k : Nat} (hI : I k s) (h : ∀ d ∈ ds, ∀ j, j < k + ds.length → ∀ s, I j s → wp (turn d) s fun f t => f = .nx ∧ I (j + 1) t) : wpI (forLoop turn ds) s fun f t => f = .nx ∧ I (k + ds.length) t := by
  rw [wpI_eq]
  exact wp_for_b ds k hI h
theorem wp_ite_ {t : M Bool} {a b : M Flow} {X : Flow → S → Prop} (h : wp t s fun x s1 => (x = true → wp a s1 X) ∧ (x = false → wp b s1 X)) : wp (kIte t a b) s X := by
  rw [wp_kite]
  refine wp_mono h ?_
  rintro x t ⟨h1, h2⟩
  rw [wp_ifb]
  exact ⟨h1, h2⟩
end
section
variable {s : S} {P : Val → S → Prop} {ρ : List (Option Val)} {μ : List D}
theorem wp_dct {m : M (List (D × D))} : wp (mDct m) s P = wp m s fun ps t => ps.length ≤ 15 ∧ P (.own (.dict (ps.foldl (fun acc p => putIn acc p.1 p.2) []))) t := by
  unfold mDct
  rw [wp_bind]
  congr 1
  funext ps t
  by_cases h : ps.length ≤ 15
  · rw [if_pos h, wp_ret]; simp [h]
  · rw [if_neg h, wp_bad]; simp [h]
theorem wp_lkv {a b : M Val} {l : M (List (D × D))} {A : List (D × D) → S → Prop} : wp (lKv a b l) s A = wp (mFrz a) s fun x s1 => wp (mFrz b) s1 fun y s2 => wp l s2 fun ps s3 => isKey x = true ∧ A ((x, y) :: ps) s3 := by
  unfold lKv
  simp only [wp_bind]
  congr 1; funext x s1; congr 1; funext y s2; congr 1; funext ps s3
  cases h : isKey x <;> simp [wp_bad, wp_ret]
def slsK (lo hi : Option Int) (P : Val → S → Prop) (s : S) : Option Val → Prop
  | some (.scr ns) => ns.length ≤ sizeLine ∧ P (.own (.list ((cutL ns lo hi).map .int))) s
  | _ => False
theorem wp_sls {i : Nat} {lo hi : Option Int} : wp (mSls i lo hi) ⟨ρ, μ⟩ P = slsK lo hi P ⟨ρ, μ⟩ (ρ[i]?).join := by
  unfold wp mSls slsK
  rw [slot_mk]
  cases (ρ[i]?).join with
  | none => rfl
  | some v =>
    cases v with
    | scr ns =>
      dsimp only
      by_cases h : ns.length ≤ sizeLine
      · rw [if_pos h]; simp [h]
      · rw [if_neg h]; simp [h]
    | _ => rfl
theorem wp_rev {m : M Val} : wp (mRev m) s P = wp (mOne m revD) s P := rfl
theorem wp_kfor_ {g : D → M Unit} {w : M (List D)} {b : M Flow} {X : Flow → S → Prop} : wp (kFor g w b) s X = wp w s fun ds t => wp (forLoop (fun d => M.bind (g d) fun _ => b) ds) t X := wp_bind
theorem wp_asg {g : D → M Unit} {m : M Val} {X : Flow → S → Prop} : wp (kAsg g m) s X = wp (mFrz m) s fun d t => wp (g d) t fun _ t => X .nx t := by
  unfold kAsg
  simp only [wp_bind, wp_ret]
theorem wp_dot {k : D → Bool} {m : M Val} : wp (mDot k m) s P = wp (mOpd m) s fun u s1 => wp (peekM u) s1 fun x s2 => k x = true ∧ P u s2 := by
  unfold mDot
  simp only [wp_bind]
  congr 1; funext u s1; congr 1; funext x s2
  cases h : k x <;> simp [wp_bad, wp_ret]
theorem wp_join {m n : M Val} : wp (mJoin m n) s P = wp (mDot isStrD m) s fun u s1 => wp (mOpd n) s1 fun v s2 => wp (peekM u) s2 fun x s3 => wp (peekM v) s3 fun y s4 => wp (M.opt (gJoin x y)) s4 P := by
  unfold mJoin
  simp only [wp_bind]
def ointK (O : Option Int → S → Prop) (s : S) : D → Prop
  | .int i => O (some i) s
  | _ => False
theorem wp_ointg {m : M Val} {O : Option Int → S → Prop} : wp (mOInt m) s O = wp (mOpd m) s fun u s1 => wp (peekM u) s1 fun x s2 => ointK O s2 x := by
  unfold mOInt
  simp only [wp_bind]
  congr 1; funext u s1; congr 1; funext x s2
  cases x <;> simp [wp_bad, wp_ret, ointK]
def chkK (U : Unit → S → Prop) (s : S) : Option Val → Prop
  | some (.own (.list _)) => U () s
  | some (.ext k) => ∃ xs, s.μ[k]? = some (.list xs) ∧ U () s
  | _ => False
theorem wp_chkl {i : Nat} {U : Unit → S → Prop} : wp (chkL i) ⟨ρ, μ⟩ U = chkK U ⟨ρ, μ⟩ (ρ[i]?).join := by
  unfold wp chkL chkK
  rw [slot_mk]
  cases (ρ[i]?).join with
  | none => rfl
  | some v =>
    cases v with
    | own d => cases d <;> rfl
    | ext k =>
      dsimp only
      cases h : μ[k]? with
      | none => simp
      | some d => cases d <;> simp
    | _ => rfl
def putO (i : Nat) (P : Val → S → Prop) (s : S) : Option (List D × D) → Prop
  | some p => P (.dat p.2) (setSlot s i (.own (.list p.1)))
  | none => False
theorem putO_ite {i : Nat} {c : Prop} [Decidable c] {p : List D × D} : putO i P s (if c then some p else none) = (c ∧ P (.dat p.2) (setSlot s i (.own (.list p.1)))) := by
  by_cases h : c <;> simp [h, putO]
theorem putO_some {i : Nat} {p : List D × D} : putO i P s (some p) = P (.dat p.2) (setSlot s i (.own (.list p.1))) := rfl
def putK (i : Nat) (f : List D → Option (List D × D)) (P : Val → S → Prop) (s : S) : Option Val → Prop
  | some (.own (.list xs)) => putO i P s (f xs)
  | some (.ext k) => ∃ xs ys d, s.μ[k]? = some (.list xs) ∧ f xs = some (ys, d) ∧ P (.dat d) { s with μ := s.μ.set k (.list ys) }
  | _ => False
theorem wp_putl {i : Nat} {f : List D → Option (List D × D)} : wp (putL i f) ⟨ρ, μ⟩ P = putK i f P ⟨ρ, μ⟩ (ρ[i]?).join := by
  unfold wp putL putK putO
  rw [slot_mk]
  cases (ρ[i]?).join with
  | none => rfl
  | some v =>
    cases v with
    | own d =>
      cases d with
      | list xs =>
        dsimp only
        cases f xs <;> rfl
      | _ => rfl
    | ext k =>
      dsimp only
      cases h : μ[k]? with
      | none => simp
      | some d =>
        cases d with
        | list xs =>
          dsimp only
          cases h2 : f xs with
          | none => simp [h2]
          | some p => 
            obtain ⟨p1, p2⟩ := p
            simp only [h2, Option.some.injEq, Prod.mk.injEq]
            exact propext ⟨fun h => ⟨xs, p1, p2, rfl, h2, h⟩, fun ⟨xs', y, z, e1, e2, e3⟩ => by
              subst_vars
              simp_all⟩
        | _ => simp
    | _ => rfl
theorem wp_app {i : Nat} {m : M Val} : wp (mApp i m) s P = wp (chkL i) s fun _ s1 => wp (mFrz m) s1 fun d s2 => wp (putL i (appF d)) s2 P := by
  unfold mApp
  simp only [wp_bind]
def popJ (i : Nat) (P : Val → S → Prop) (s : S) : D → Prop
  | .int j => wp (putL i (popF j)) s P
  | _ => False
theorem wp_pop1 {i : Nat} {m : M Val} : wp (mPop1 i m) s P = wp (chkL i) s fun _ s1 => wp (mOpd m) s1 fun v s2 => wp (peekM v) s2 fun x s3 => popJ i P s3 x := by
  unfold mPop1
  simp only [wp_bind]
  congr 1; funext u s1; congr 1; funext x s2; congr 1; funext y s3
  cases y <;> simp [wp_bad, popJ]
theorem app_f {d : D} {xs : List D} (h : xs.length < sizeLine) : appF d xs = some (xs ++ [d], .none) := by
  unfold appF
  rw [if_pos h]
end
theorem len_list {ds : List D} {s : S} {P : Val → S → Prop} : wp (M.opt (bltD .len [.list ds])) s P = P (.dat (.int (ds.length : Int))) s := rfl
theorem len_tup {ds : List D} {s : S} {K : Val → S → Prop} : wp (M.opt (bltD .len [.tuple ds])) s K = K (.dat (.int (ds.length : Int))) s := rfl
theorem idx_list {ds : List D} {r : Int} {e : D} {s : S} {P : Val → S → Prop} (h : L2.atI ds r = some e) : wp (M.opt ((idxD (.list ds) (.int r)).map .dat)) s P = P (.dat e) s := by
  have : idxD (.list ds) (.int r) = some e := h
  rw [this]; rfl
theorem idx_tup {ds : List D} {r : Int} {e : D} {s : S} {P : Val → S → Prop} (h : L2.atI ds r = some e) : wp (M.opt ((idxD (.tuple ds) (.int r)).map .dat)) s P = P (.dat e) s := by
  have : idxD (.tuple ds) (.int r) = some e := h
  rw [this]; rfl
theorem len_lst1 {ds : List D} : bltD .len [.list ds] = some (.dat (.int (ds.length : Int))) := rfl
theorem cmp_gt {i j : Int} : cmpD .gt (.int i) (.int j) = some (decide (j < i)) := rfl
theorem cmp_lt {i j : Int} : cmpD .lt (.int i) (.int j) = some (decide (i < j)) := rfl
theorem cmp_ge {i j : Int} : cmpD .ge (.int i) (.int j) = some (decide (j ≤ i)) := rfl
theorem cmp_le {i j : Int} : cmpD .le (.int i) (.int j) = some (decide (i ≤ j)) := rfl
theorem cmp_eqi {i j : Int} : cmpD .eq (.int i) (.int j) = some (decide (i = j)) := by
  show eqD (.int i) (.int j) = _
  show some (i == j) = some (decide (i = j))
  by_cases h : i = j <;> simp [h]
theorem sli_tup {xs : List D} {lo hi : Option Int} : sliD (.tuple xs) lo hi = some (.dat (.tuple (cutL xs lo hi))) := rfl
theorem sli_list {xs : List D} {lo hi : Option Int} : sliD (.list xs) lo hi = some (.own (.list (cutL xs lo hi))) := rfl
theorem rev_tup {xs : List D} : revD (.tuple xs) = some (.dat (.tuple xs.reverse)) := rfl
theorem add_tup {xs ys : List D} : binD .add (.tuple xs) (.tuple ys) = if xs.length + ys.length ≤ sizeLine then some (.dat (.tuple (xs ++ ys))) else none := rfl
theorem add_list {xs ys : List D} : binD .add (.list xs) (.list ys) = if xs.length + ys.length ≤ sizeLine then some (.own (.list (xs ++ ys))) else none := rfl
theorem add_str {x y : Str} : binD .add (.str x) (.str y) = if x.length + y.length ≤ sizeLine then some (.dat (.str (x ++ y))) else none := rfl
theorem add_int {i j : Int} : binD .add (.int i) (.int j) = some (.dat (.int (i + j))) := rfl
theorem sub_int {i j : Int} : binD .sub (.int i) (.int j) = some (.dat (.int (i - j))) := rfl
theorem ixn_nat {n : Nat} {j : Int} (h0 : 0 ≤ j) (h1 : j < (n : Int)) : ixAt n j = some j.toNat := by
  show L2.ixN n j = _
  unfold L2.ixN
  rw [if_pos h0, if_pos h1]
theorem pop_f {xs : List D} {j : Int} (h0 : 0 ≤ j) (h1 : j < (xs.length : Int)) : ∃ d ∈ xs, popF j xs = some (xs.eraseIdx j.toNat, d) := by
  have hj : j.toNat < xs.length := by omega
  refine ⟨xs[j.toNat], List.getElem_mem _, ?_⟩
  unfold popF
  rw [ixn_nat h0 h1]
  dsimp only
  rw [List.getElem?_eq_getElem hj]
theorem tru_bool {b : Bool} : truD (.bool b) = some b := rfl
theorem tru_int {b : Int} : truD (.int b) = some (decide (b ≠ 0)) := rfl
theorem tru_none : truD .none = some false := rfl
theorem tru_list {b : List D} : truD (.list b) = some (!b.isEmpty) := rfl
theorem tru_tup {b : List D} : truD (.tuple b) = some (!b.isEmpty) := rfl
section
variable {x : Str} {xs : List D} {i : Int}
theorem ty1 : isTy .tuple (.tuple xs) = true := rfl
theorem ty2 : isTy .tuple (.str x) = false := rfl
theorem ty3 : isTy .int (.tuple xs) = false := rfl
theorem ty4 : isTy .int (.str x) = false := rfl
theorem ty5 : isTy .str (.str x) = true := rfl
theorem ty6 : isTy .int (.int i) = true := rfl
theorem ty7 : isTy .bool (.int i) = false := rfl
theorem ty8 : isTy .tuple (.int i) = false := rfl
end
theorem sz {k : Nat} (h : k ≤ 1000) : (k ≤ sizeLine) = True := eq_true (Nat.le_trans h (by decide))
/-! slices -/
theorem cut_mem {xs : List D} {lo hi : Option Int} {d : D} (h : d ∈ cutL xs lo hi) : d ∈ xs := by
  unfold cutL at h
  exact List.mem_of_mem_drop (List.mem_of_mem_take h)
theorem cut_len {α : Type} {xs : List α} {lo hi : Option Int} : (cutL xs lo hi).length ≤ xs.length := by
  unfold cutL
  rw [List.length_take, List.length_drop]
  omega
theorem at_nat {ds : List D} {r : Int} (h0 : 0 ≤ r) (h1 : r < (ds.length : Int)) : ∃ d ∈ ds, L2.atI ds r = some d := by
  obtain ⟨j, rfl⟩ := Int.eq_ofNat_of_zero_le h0
  have hj : j < ds.length := by omega
  exact ⟨ds[j], List.getElem_mem _, L2.atI_nat (List.getElem?_eq_getElem hj)⟩
end Ded
end

section
set_option maxRecDepth 100000
namespace Ded.P
open PySem Ded
def d_is_integer : Def := { slots := 1, pars := 1, body := (.ret (.and (.isi (.var 0) [.int]) (.not (.isi (.var 0) [.bool])))) }
def d_is_number : Def := { slots := 1, pars := 1, body := (.ret (.and (.call 0 (.cons (.var 0) .nil)) (.cmp .ge (.var 0) (.cst (.int 0))))) }
def d_is_name : Def := { slots := 2, pars := 1, body := (.ite (.or (.not (.isi (.var 0) [.str])) (.not (.chn .le .le (.cst (.int 1)) (.blt .len (.cons (.var 0) .nil)) (.glb (PySem.Str.ofString "LONGEST_NAME") (.int 8))))) (.ret (.cst (.bool false))) .nop (.ret (.blt .all (.cons (.lc (.cmp .in_ (.var 1) (.glb (PySem.Str.ofString "LETTERS") (.str (PySem.Str.ofString "abcdefghijklmnopqrstuvwxyz")))) (.var 1) (.var 0) .nil [1]) .nil)))) }
def d_are_rising : Def := { slots := 3, pars := 1, body := (.ret (.blt .all (.cons (.lc (.cmp .lt (.var 1) (.var 2)) (.tup (.cons (.var 1) (.cons (.var 2) .nil))) (.zip (.var 0) (.sli (.var 0) (.cst (.int 1)) .nil)) .nil [1, 2]) .nil))) }
def d_is_names : Def := { slots := 2, pars := 1, body := (.ret (.and (.isi (.var 0) [.tuple]) (.and (.blt .all (.cons (.lc (.call 2 (.cons (.var 1) .nil)) (.var 1) (.var 0) .nil [1]) .nil)) (.call 3 (.cons (.var 0) .nil))))) }
def d__law_feed : Def := { slots := 2, pars := 1, body := (.ret (.dct (.kv (.cst (.str (PySem.Str.ofString "cells"))) (.lc (.blt .int (.cons (.var 1) .nil)) (.var 1) (.sls 0 none (some 63)) .nil [1]) (.kv (.cst (.str (PySem.Str.ofString "spot"))) (.cst (.int 0)) (.kv (.cst (.str (PySem.Str.ofString "left"))) (.cst (.int 0)) (.kv (.cst (.str (PySem.Str.ofString "drawn"))) (.cst (.int 0)) .nil)))))) }
def d__law_draw : Def := { slots := 7, pars := 2, body := (.sti 0 (.cst (.str (PySem.Str.ofString "drawn"))) (.bin .add (.idx (.var 0) (.cst (.str (PySem.Str.ofString "drawn")))) (.cst (.int 1))) (.ite (.cmp .gt (.idx (.var 0) (.cst (.str (PySem.Str.ofString "left")))) (.cst (.int 0))) (.set 4 (.bin .mod (.blt .int (.cons (.idx (.var 0) (.cst (.str (PySem.Str.ofString "left")))) .nil)) (.var 1)) (.sti 0 (.cst (.str (PySem.Str.ofString "left"))) (.bin .fdiv (.idx (.var 0) (.cst (.str (PySem.Str.ofString "left")))) (.var 1)) (.ret (.var 4)))) .nop (.par 5 6 (.idx (.var 0) (.cst (.str (PySem.Str.ofString "cells")))) (.idx (.var 0) (.cst (.str (PySem.Str.ofString "spot")))) (.sti 0 (.cst (.str (PySem.Str.ofString "spot"))) (.bin .add (.var 6) (.cst (.int 1))) (.set 2 (.ite (.cmp .ne (.var 5) (.lst .nil)) (.idx (.var 5) (.bin .mod (.blt .int (.cons (.var 6) .nil)) (.blt .len (.cons (.var 5) .nil)))) (.cst (.int 78182))) (.ite (.and (.cmp .ge (.var 2) (.bin .pow (.cst (.int 10)) (.cst (.int 18)))) (.cmp .lt (.var 6) (.blt .len (.cons (.var 5) .nil)))) (.sti 0 (.cst (.str (PySem.Str.ofString "left"))) (.bin .fdiv (.var 2) (.var 1)) (.ret (.bin .mod (.blt .int (.cons (.var 2) .nil)) (.var 1)))) .nop (.set 3 (.bin .mod (.blt .int (.cons (.bin .add (.bin .add (.bin .mod (.blt .int (.cons (.var 2) .nil)) (.cst (.int 1000005001))) (.bin .mul (.cst (.int 80021)) (.idx (.var 0) (.cst (.str (PySem.Str.ofString "drawn")))))) (.cst (.int 109))) .nil)) (.cst (.int 2147469983))) (.set 3 (.bin .mod (.blt .int (.cons (.bin .add (.bin .add (.bin .mul (.var 3) (.var 3)) (.bin .mul (.cst (.int 5700007)) (.idx (.var 0) (.cst (.str (PySem.Str.ofString "drawn")))))) (.cst (.int 223))) .nil)) (.cst (.int 2147469949))) (.ret (.bin .mod (.blt .int (.cons (.bin .fdiv (.bin .mod (.blt .int (.cons (.bin .add (.bin .mul (.var 3) (.var 3)) (.bin .mul (.cst (.int 511)) (.var 3))) .nil)) (.cst (.int 2147469943))) (.cst (.int 16))) .nil)) (.var 1))))))))))) }
def d__law_any : Def := { slots := 2, pars := 2, body := (.ret (.idx (.var 1) (.call 6 (.cons (.lend 0) (.cons (.blt .len (.cons (.var 1) .nil)) .nil))))) }
def d__law_names : Def := { slots := 10, pars := 2, body := (.asg (.tup (.cons (.var 5) (.cons (.var 6) .nil))) (.tup (.cons (.call 6 (.cons (.lend 0) (.cons (.cst (.int 5)) .nil))) (.cons (.cst (.str (PySem.Str.ofString "abcdefghijklmnopqrstuvwxyz"))) .nil))) (.set 2 (.blt .list (.cons (.var 6) .nil)) (.ite (.cmp .eq (.var 5) (.cst (.int 1))) (.set 2 (.lst (.cons (.cst (.str (PySem.Str.ofString "part"))) (.cons (.cst (.str (PySem.Str.ofString "choice"))) (.cons (.cst (.str (PySem.Str.ofString "pack"))) (.cons (.cst (.str (PySem.Str.ofString "yes"))) (.cons (.cst (.str (PySem.Str.ofString "no"))) (.cons (.cst (.str (PySem.Str.ofString "build"))) (.cons (.cst (.str (PySem.Str.ofString "apart"))) (.cons (.cst (.str (PySem.Str.ofString "sell"))) (.cons (.cst (.str (PySem.Str.ofString "lamp"))) (.cons (.cst (.str (PySem.Str.ofString "box"))) (.cons (.cst (.str (PySem.Str.ofString "trio"))) (.cons (.cst (.str (PySem.Str.ofString "light"))) .nil))))))))))))) (.set 2 (.bin .add (.var 2) (.lst (.cons (.cst (.str (PySem.Str.ofString "a"))) (.cons (.cst (.str (PySem.Str.ofString "z"))) (.cons (.cst (.str (PySem.Str.ofString "zz"))) (.cons (.cst (.str (PySem.Str.ofString "name"))) (.cons (.cst (.str (PySem.Str.ofString "shop"))) (.cons (.cst (.str (PySem.Str.ofString "line"))) .nil)))))))) .nop)) .nop (.ite (.cmp .eq (.var 5) (.cst (.int 2))) (.set 2 (.lst (.cons (.cst (.str (PySem.Str.ofString "a"))) (.cons (.cst (.str (PySem.Str.ofString "aa"))) (.cons (.cst (.str (PySem.Str.ofString "aaa"))) (.cons (.cst (.str (PySem.Str.ofString "aaaa"))) (.cons (.cst (.str (PySem.Str.ofString "aaaaaaaa"))) (.cons (.cst (.str (PySem.Str.ofString "ab"))) (.cons (.cst (.str (PySem.Str.ofString "aab"))) (.cons (.cst (.str (PySem.Str.ofString "aaab"))) (.cons (.cst (.str (PySem.Str.ofString "b"))) (.cons (.cst (.str (PySem.Str.ofString "ba"))) (.cons (.cst (.str (PySem.Str.ofString "abcdefgh"))) (.cons (.cst (.str (PySem.Str.ofString "abcdefgi"))) .nil))))))))))))) (.set 2 (.bin .add (.var 2) (.lst (.cons (.cst (.str (PySem.Str.ofString "zzzzzzzz"))) (.cons (.cst (.str (PySem.Str.ofString "zzzzzzzy"))) (.cons (.cst (.str (PySem.Str.ofString "z"))) (.cons (.cst (.str (PySem.Str.ofString "y"))) (.cons (.cst (.str (PySem.Str.ofString "yz"))) (.cons (.cst (.str (PySem.Str.ofString "zy"))) .nil)))))))) .nop)) .nop (.ite (.cmp .eq (.var 5) (.cst (.int 3))) (.set 7 (.join (.cst (.str (PySem.Str.ofString ""))) (.lc (.idx (.var 6) (.call 6 (.cons (.lend 0) (.cons (.cst (.int 26)) .nil)))) (.var 4) (.range (.cons (.call 6 (.cons (.lend 0) (.cons (.cst (.int 8)) .nil))) .nil)) .nil [4])) (.set 2 (.lc (.bin .add (.var 7) (.var 8)) (.var 8) (.var 6) .nil [8]) .nop)) .nop (.ite (.or (.cmp .gt (.var 1) (.blt .len (.cons (.var 2) .nil))) (.cmp .eq (.var 5) (.cst (.int 4)))) (.set 2 (.lst .nil) (.for_ (.var 8) (.sli (.var 6) .nil (.cst (.int 8))) (.set 2 (.bin .add (.var 2) (.lc (.bin .add (.var 8) (.var 9)) (.var 9) (.sli (.var 6) (.cst (.int 18)) .nil) .nil [9])) .nop) .nop)) .nop (.set 3 (.lst .nil) (.for_ (.var 4) (.range (.cons (.var 1) .nil)) (.exp (.app 3 (.pop1 2 (.call 6 (.cons (.lend 0) (.cons (.blt .len (.cons (.var 2) .nil)) .nil))))) .nop) (.ret (.var 3)))))))))) }
def d__law_is_number : Def := { slots := 1, pars := 1, body := (.ret (.and (.isi (.var 0) [.int]) (.and (.not (.isi (.var 0) [.bool])) (.cmp .ge (.var 0) (.cst (.int 0)))))) }
def d__law_is_name : Def := { slots := 2, pars := 1, body := (.ite (.or (.not (.isi (.var 0) [.str])) (.not (.chn .le .le (.cst (.int 1)) (.blt .len (.cons (.var 0) .nil)) (.cst (.int 8))))) (.ret (.cst (.bool false))) .nop (.ret (.cmp .eq (.lc (.var 1) (.var 1) (.var 0) (.cons (.cmp .notin (.var 1) (.cst (.str (PySem.Str.ofString "abcdefghijklmnopqrstuvwxyz")))) .nil) [1]) (.lst .nil)))) }
def d__law_is_set : Def := { slots := 3, pars := 1, body := (.ite (.or (.not (.isi (.var 0) [.tuple])) (.cmp .ne (.lc (.var 2) (.var 2) (.var 0) (.cons (.not (.call 10 (.cons (.var 2) .nil))) .nil) [2]) (.lst .nil))) (.ret (.cst (.bool false))) .nop (.ret (.cmp .eq (.lc (.var 1) (.var 1) (.range (.cons (.cst (.int 1)) (.cons (.blt .len (.cons (.var 0) .nil)) .nil))) (.cons (.cmp .le (.idx (.var 0) (.var 1)) (.idx (.var 0) (.bin .sub (.var 1) (.cst (.int 1))))) .nil) [1]) (.lst .nil)))) }
def d__law_strange : Def := { slots := 2, pars := 1, body := (.set 1 (.lst (.cons (.cst .none) (.cons (.cst (.bool true)) (.cons (.cst (.bool false)) (.cons (.cst (.int 0)) (.cons (.cst (.int 1)) (.cons (.cst (.int 2)) (.cons (.neg (.cst (.int 1))) (.cons (.bin .pow (.cst (.int 10)) (.cst (.int 59))) (.cons (.cst (.str (PySem.Str.ofString ""))) (.cons (.cst (.str (PySem.Str.ofString "a"))) (.cons (.cst (.str (PySem.Str.ofString "A"))) (.cons (.cst (.str (PySem.Str.ofString "a b"))) (.cons (.cst (.str (PySem.Str.ofString "abcdefghi"))) (.cons (.cst (.str (PySem.Str.ofString "a1"))) (.cons (.cst (.str (PySem.Str.ofString "none"))) (.cons (.tup .nil) (.cons (.lst .nil) (.cons (.tup (.cons (.cst (.int 0)) .nil)) .nil))))))))))))))))))) (.set 1 (.bin .add (.var 1) (.lst (.cons (.lst (.cons (.cst (.str (PySem.Str.ofString "a"))) .nil)) (.cons (.tup (.cons (.cst (.str (PySem.Str.ofString "a"))) .nil)) (.cons (.tup (.cons (.cst (.str (PySem.Str.ofString "a"))) (.cons (.cst (.str (PySem.Str.ofString "b"))) .nil))) (.cons (.tup (.cons (.cst (.str (PySem.Str.ofString "b"))) (.cons (.cst (.str (PySem.Str.ofString "a"))) .nil))) (.cons (.tup (.cons (.cst (.str (PySem.Str.ofString "a"))) (.cons (.cst (.str (PySem.Str.ofString "a"))) .nil))) (.cons (.tup (.cons (.cst (.str (PySem.Str.ofString "a"))) (.cons (.cst (.int 1)) .nil))) (.cons (.lst (.cons (.cst (.str (PySem.Str.ofString "a"))) (.cons (.cst (.int 1)) .nil))) (.cons (.tup (.cons (.cst (.str (PySem.Str.ofString "a"))) (.cons (.cst (.bool true)) .nil))) (.cons (.tup (.cons (.tup (.cons (.cst (.str (PySem.Str.ofString "a"))) (.cons (.cst (.int 1)) .nil))) .nil)) .nil))))))))))) (.ret (.call 7 (.cons (.lend 0) (.cons (.bin .add (.var 1) (.lst (.cons (.tup (.cons (.cst (.str (PySem.Str.ofString "a"))) (.cons (.cst (.int 0)) .nil))) (.cons (.tup (.cons (.cst (.int 1)) (.cons (.cst (.str (PySem.Str.ofString "a"))) .nil))) (.cons (.tup (.cons (.cst (.str (PySem.Str.ofString "sell"))) (.cons (.cst (.str (PySem.Str.ofString "a"))) .nil))) (.cons (.tup (.cons (.cst (.str (PySem.Str.ofString "apart"))) (.cons (.cst (.str (PySem.Str.ofString "a"))) .nil))) (.cons (.tup (.cons (.cst (.str (PySem.Str.ofString "a"))) (.cons (.tup (.cons (.cst (.str (PySem.Str.ofString "a"))) (.cons (.cst (.str (PySem.Str.ofString "b"))) .nil))) .nil))) (.cons (.tup (.cons (.tup .nil) .nil)) (.cons (.cst (.str (PySem.Str.ofString "part"))) .nil))))))))) .nil)))))) }
def d__law_spoilt : Def := { slots := 6, pars := 2, body := (.ite (.and (.isi (.var 1) [.tuple]) (.and (.cmp .gt (.blt .len (.cons (.var 1) .nil)) (.cst (.int 0))) (.cmp .gt (.call 6 (.cons (.lend 0) (.cons (.cst (.int 5)) .nil))) (.cst (.int 0))))) (.set 2 (.call 6 (.cons (.lend 0) (.cons (.blt .len (.cons (.var 1) .nil)) .nil))) (.ret (.bin .add (.bin .add (.sli (.var 1) .nil (.var 2)) (.tup (.cons (.call 13 (.cons (.lend 0) (.cons (.idx (.var 1) (.var 2)) .nil))) .nil))) (.sli (.var 1) (.bin .add (.var 2) (.cst (.int 1))) .nil)))) .nop (.par 3 4 (.call 6 (.cons (.lend 0) (.cons (.cst (.int 6)) .nil))) (.call 12 (.cons (.lend 0) .nil)) (.ite (.and (.isi (.var 1) [.tuple]) (.cmp .lt (.var 3) (.cst (.int 5)))) (.set 2 (.call 6 (.cons (.lend 0) (.cons (.bin .add (.blt .len (.cons (.var 1) .nil)) (.cst (.int 1))) .nil))) (.set 5 (.lst (.cons (.bin .add (.sli (.var 1) .nil (.var 2)) (.sli (.var 1) (.bin .add (.var 2) (.cst (.int 1))) .nil)) (.cons (.bin .add (.bin .add (.sli (.var 1) .nil (.var 2)) (.sli (.var 1) (.var 2) (.bin .add (.var 2) (.cst (.int 1))))) (.sli (.var 1) (.var 2) .nil)) (.cons (.bin .add (.bin .add (.sli (.var 1) .nil (.var 2)) (.tup (.cons (.var 4) .nil))) (.sli (.var 1) (.var 2) .nil)) .nil)))) (.exp (.app 5 (.bin .add (.bin .add (.sli (.var 1) .nil (.var 2)) (.rev (.sli (.var 1) (.var 2) (.bin .add (.var 2) (.cst (.int 2)))))) (.sli (.var 1) (.bin .add (.var 2) (.cst (.int 2))) .nil))) (.ret (.ite (.cmp .eq (.var 3) (.cst (.int 4))) (.blt .list (.cons (.var 1) .nil)) (.idx (.var 5) (.var 3))))))) .nop (.ite (.and (.isi (.var 1) [.int]) (.and (.not (.isi (.var 1) [.bool])) (.cmp .lt (.var 3) (.cst (.int 3))))) (.ret (.idx (.lst (.cons (.bin .add (.var 1) (.cst (.int 1))) (.cons (.bin .sub (.var 1) (.cst (.int 1))) (.cons (.neg (.var 1)) .nil)))) (.var 3))) .nop (.ret (.var 4)))))) }
def d__law_is_right : Def := { slots := 5, pars := 1, body := (.set 1 (.blt .repr (.cons (.var 0) .nil)) (.set 2 (.lst (.cons (.and (.isi (.var 0) [.int]) (.not (.isi (.var 0) [.bool]))) (.cons (.call 9 (.cons (.var 0) .nil)) .nil))) (.set 2 (.bin .add (.var 2) (.lst (.cons (.call 10 (.cons (.var 0) .nil)) (.cons (.call 11 (.cons (.var 0) .nil)) .nil)))) (.set 3 (.lst (.cons (.call 0 (.cons (.var 0) .nil)) (.cons (.call 1 (.cons (.var 0) .nil)) (.cons (.call 2 (.cons (.var 0) .nil)) (.cons (.call 4 (.cons (.var 0) .nil)) .nil))))) (.set 4 (.lst (.cons (.callk 0 [(PySem.Str.ofString "thing")] (.cons (.var 0) .nil)) (.cons (.callk 1 [(PySem.Str.ofString "thing")] (.cons (.var 0) .nil)) (.cons (.callk 2 [(PySem.Str.ofString "thing")] (.cons (.var 0) .nil)) (.cons (.callk 4 [(PySem.Str.ofString "thing")] (.cons (.var 0) .nil)) .nil))))) (.ret (.and (.cmp .eq (.blt .repr (.cons (.lst (.cons (.var 3) (.cons (.var 4) .nil))) .nil)) (.blt .repr (.cons (.lst (.cons (.var 2) (.cons (.var 2) .nil))) .nil))) (.cmp .eq (.blt .repr (.cons (.var 0) .nil)) (.var 1))))))))) }
def d_law : Def := { slots := 8, pars := 1, body := (.set 1 (.call 5 (.cons (.lend 0) .nil)) (.set 2 (.lst (.cons (.cst .none) (.cons (.cst (.bool true)) (.cons (.cst (.bool false)) (.cons (.cst (.int 0)) (.cons (.cst (.int 1)) (.cons (.neg (.cst (.int 1))) (.cons (.cst (.int 7)) (.cons (.bin .pow (.cst (.int 10)) (.cst (.int 59))) (.cons (.neg (.bin .pow (.cst (.int 10)) (.cst (.int 58)))) (.cons (.cst (.str (PySem.Str.ofString ""))) (.cons (.cst (.str (PySem.Str.ofString "a"))) (.cons (.cst (.str (PySem.Str.ofString "z"))) (.cons (.cst (.str (PySem.Str.ofString "abcdefgh"))) (.cons (.cst (.str (PySem.Str.ofString "abcdefghi"))) (.cons (.cst (.str (PySem.Str.ofString "A"))) (.cons (.cst (.str (PySem.Str.ofString "aB"))) .nil))))))))))))))))) (.set 2 (.bin .add (.var 2) (.lst (.cons (.cst (.str (PySem.Str.ofString "a1"))) (.cons (.cst (.str (PySem.Str.ofString "1"))) (.cons (.cst (.str (PySem.Str.ofString " a"))) (.cons (.cst (.str (PySem.Str.ofString "a "))) (.cons (.cst (.str (PySem.Str.ofString "a b"))) (.cons (.cst (.str (PySem.Str.ofString "-"))) (.cons (.cst (.str (PySem.Str.ofString "a-b"))) (.cons (.cst (.str (PySem.Str.ofString "none"))) (.cons (.cst (.str (PySem.Str.ofString "true"))) (.cons (.tup .nil) (.cons (.lst .nil) (.cons (.tup (.cons (.tup .nil) .nil)) (.cons (.tup (.cons (.cst (.str (PySem.Str.ofString "a"))) .nil)) (.cons (.lst (.cons (.cst (.str (PySem.Str.ofString "a"))) .nil)) (.cons (.tup (.cons (.cst (.str (PySem.Str.ofString "A"))) .nil)) .nil))))))))))))))))) (.set 2 (.bin .add (.var 2) (.lst (.cons (.tup (.cons (.cst (.str (PySem.Str.ofString ""))) .nil)) (.cons (.tup (.cons (.cst (.str (PySem.Str.ofString "a"))) (.cons (.cst (.str (PySem.Str.ofString "b"))) .nil))) (.cons (.tup (.cons (.cst (.str (PySem.Str.ofString "b"))) (.cons (.cst (.str (PySem.Str.ofString "a"))) .nil))) (.cons (.tup (.cons (.cst (.str (PySem.Str.ofString "a"))) (.cons (.cst (.str (PySem.Str.ofString "a"))) .nil))) (.cons (.tup (.cons (.cst (.str (PySem.Str.ofString "a"))) (.cons (.cst (.str (PySem.Str.ofString "ab"))) .nil))) (.cons (.tup (.cons (.cst (.str (PySem.Str.ofString "ab"))) (.cons (.cst (.str (PySem.Str.ofString "a"))) .nil))) (.cons (.tup (.cons (.cst (.str (PySem.Str.ofString "b"))) (.cons (.cst (.str (PySem.Str.ofString "aa"))) .nil))) (.cons (.tup (.cons (.cst (.str (PySem.Str.ofString "aa"))) (.cons (.cst (.str (PySem.Str.ofString "b"))) .nil))) .nil)))))))))) (.set 2 (.bin .add (.var 2) (.lst (.cons (.tup (.cons (.cst (.str (PySem.Str.ofString "a"))) (.cons (.cst .none) .nil))) (.cons (.tup (.cons (.cst (.str (PySem.Str.ofString "a"))) (.cons (.cst (.int 1)) .nil))) (.cons (.tup (.cons (.cst (.int 1)) .nil)) (.cons (.tup (.cons (.cst (.bool true)) .nil)) (.cons (.tup (.cons (.tup (.cons (.cst (.str (PySem.Str.ofString "a"))) .nil)) .nil)) (.cons (.tup (.cons (.cst (.str (PySem.Str.ofString "a"))) (.cons (.cst (.str (PySem.Str.ofString "b"))) (.cons (.cst (.str (PySem.Str.ofString "b"))) .nil)))) (.cons (.tup (.cons (.cst (.str (PySem.Str.ofString "a"))) (.cons (.cst (.str (PySem.Str.ofString "c"))) (.cons (.cst (.str (PySem.Str.ofString "b"))) .nil)))) (.cons (.tup (.cons (.cst (.str (PySem.Str.ofString "abcdefghi"))) .nil)) .nil)))))))))) (.ite (.cmp .ne (.lc (.var 6) (.var 6) (.var 2) (.cons (.not (.call 14 (.cons (.var 6) .nil))) .nil) [6]) (.lst .nil)) (.ret (.cst (.bool false))) .nop (.for_ (.var 3) (.range (.cons (.cst (.int 4)) .nil)) (.set 4 (.call 8 (.cons (.lend 1) (.cons (.bin .add (.cst (.int 1)) (.call 6 (.cons (.lend 1) (.cons (.cst (.int 6)) .nil)))) .nil))) (.set 5 (.blt .tuple (.cons (.blt .sorted (.cons (.var 4) .nil)) .nil)) (.set 2 (.lst (.cons (.var 5) (.cons (.blt .tuple (.cons (.var 4) .nil)) (.cons (.rev (.var 5)) (.cons (.bin .add (.var 5) (.sli (.var 5) (.neg (.cst (.int 1))) .nil)) (.cons (.blt .list (.cons (.var 5) .nil)) (.cons (.idx (.var 5) (.cst (.int 0))) (.cons (.bin .add (.idx (.var 5) (.cst (.int 0))) (.cst (.str (PySem.Str.ofString "abcdefgh")))) .nil)))))))) (.set 2 (.bin .add (.bin .add (.var 2) (.lc (.call 13 (.cons (.lend 1) (.cons (.var 5) .nil))) (.var 7) (.range (.cons (.cst (.int 6)) .nil)) .nil [7])) (.lst (.cons (.call 12 (.cons (.lend 1) .nil)) .nil))) (.ite (.cmp .ne (.lc (.var 6) (.var 6) (.var 2) (.cons (.not (.call 14 (.cons (.var 6) .nil))) .nil) [6]) (.lst .nil)) (.ret (.cst (.bool false))) .nop .nop))))) (.ret (.cst (.bool true)))))))))) }
def Ds : List Def := [d_is_integer, d_is_number, d_is_name, d_are_rising, d_is_names, d__law_feed, d__law_draw, d__law_any, d__law_names, d__law_is_number, d__law_is_name, d__law_is_set, d__law_strange, d__law_spoilt, d__law_is_right, d_law]
end Ded.P
end

section
set_option linter.all false
set_option maxRecDepth 100000
set_option maxHeartbeats 1000000
namespace Ded.DM
open PySem Ded.P
abbrev S1 : Str := Str.ofString "cells"
abbrev S2 : Str := Str.ofString "spot"
abbrev S3 : Str := Str.ofString "left"
abbrev S4 : Str := Str.ofString "drawn"
def feedD (cells : List Int) (sp le dr : Int) : D := .dict [(.str S1, .list (cells.map .int)), (.str S2, .int sp), (.str S3, .int le), (.str S4, .int dr)]
theorem ne12 : (decide (S1 = S2)) = false := by decide +kernel
theorem ne13 : (decide (S1 = S3)) = false := by decide +kernel
theorem ne14 : (decide (S1 = S4)) = false := by decide +kernel
theorem ne21 : (decide (S2 = S1)) = false := by decide +kernel
theorem ne23 : (decide (S2 = S3)) = false := by decide +kernel
theorem ne24 : (decide (S2 = S4)) = false := by decide +kernel
theorem ne31 : (decide (S3 = S1)) = false := by decide +kernel
theorem ne32 : (decide (S3 = S2)) = false := by decide +kernel
theorem ne34 : (decide (S3 = S4)) = false := by decide +kernel
theorem ne41 : (decide (S4 = S1)) = false := by decide +kernel
theorem ne42 : (decide (S4 = S2)) = false := by decide +kernel
theorem ne43 : (decide (S4 = S3)) = false := by decide +kernel
section
variable {c : List Int} {sp le dr v : Int}
theorem get1 : keyIn [(.str S1, .list (c.map .int)), (.str S2, .int sp), (.str S3, .int le), (.str S4, .int dr)] (.str S1) = some (.list (c.map .int)) := by
  simp [keyIn, sameKey]
theorem get2 : keyIn [(.str S1, .list (c.map .int)), (.str S2, .int sp), (.str S3, .int le), (.str S4, .int dr)] (.str S2) = some (.int sp) := by
  simp only [keyIn, sameKey, List.find?_cons, ne12, decide_true, Option.map_some]
theorem get3 : keyIn [(.str S1, .list (c.map .int)), (.str S2, .int sp), (.str S3, .int le), (.str S4, .int dr)] (.str S3) = some (.int le) := by
  simp only [keyIn, sameKey, List.find?_cons, ne13, ne23, decide_true, Option.map_some]
theorem get4 : keyIn [(.str S1, .list (c.map .int)), (.str S2, .int sp), (.str S3, .int le), (.str S4, .int dr)] (.str S4) = some (.int dr) := by
  simp only [keyIn, sameKey, List.find?_cons, ne14, ne24, ne34, decide_true, Option.map_some]
theorem put2 : putIn [(.str S1, .list (c.map .int)), (.str S2, .int sp), (.str S3, .int le), (.str S4, .int dr)] (.str S2) (.int v) = [(.str S1, .list (c.map .int)), (.str S2, .int v), (.str S3, .int le), (.str S4, .int dr)] := by
  simp [putIn, sameKey, ne12, ne32, ne42]
theorem put3 : putIn [(.str S1, .list (c.map .int)), (.str S2, .int sp), (.str S3, .int le), (.str S4, .int dr)] (.str S3) (.int v) = [(.str S1, .list (c.map .int)), (.str S2, .int sp), (.str S3, .int v), (.str S4, .int dr)] := by
  simp [putIn, sameKey, ne13, ne23, ne43]
theorem put4 : putIn [(.str S1, .list (c.map .int)), (.str S2, .int sp), (.str S3, .int le), (.str S4, .int dr)] (.str S4) (.int v) = [(.str S1, .list (c.map .int)), (.str S2, .int sp), (.str S3, .int le), (.str S4, .int v)] := by
  simp [putIn, sameKey, ne14, ne24, ne34]
end
theorem get_set_same {α : Type} {l : List α} {k : Nat} {a b : α} (h : l[k]? = some a) : (l.set k b)[k]? = some b := List.getElem?_set_self (List.getElem?_eq_some_iff.mp h).1
theorem set_set {α : Type} (l : List α) (k : Nat) (a b : α) : (l.set k a).set k b = l.set k b := by simp
theorem four {a b c d : D × D} : [a, b, c, d].length < sizeLine := by
  show 4 < sizeLine
  decide
theorem at_mod {c : List Int} (h : c ≠ []) (i : Int) : ∃ x : Int, L2.atI (c.map PyData.int) (i % (c.length : Int)) = some (.int x) := by
  have hl : 0 < c.length := List.length_pos_iff.mpr h
  have h0 : 0 ≤ i % (c.length : Int) := Int.emod_nonneg i (by omega)
  have h1 : i % (c.length : Int) < c.length := Int.emod_lt_of_pos i (by omega)
  obtain ⟨j, hj⟩ := Int.eq_ofNat_of_zero_le h0
  have hj2 : j < c.length := by omega
  refine ⟨c[j], ?_⟩
  rw [hj]
  exact L2.atI_nat (by rw [List.getElem?_map, List.getElem?_eq_getElem hj2]; rfl)
theorem ints_lay : ∀ c : List Int, PyData.canLayAll0 (c.map PyData.int) = true
  | [] => rfl
  | x :: c => by
    show (PyData.canLay0 (.int x) && PyData.canLayAll0 (c.map PyData.int)) = true
    rw [ints_lay c]; rfl
theorem ints_depth : ∀ c : List Int, PyData.depthAll (c.map PyData.int) = 0
  | [] => rfl
  | x :: c => by
    show max (PyData.depth (.int x)) (PyData.depthAll (c.map PyData.int)) = 0
    rw [ints_depth c]; rfl
theorem ints_shaped (c : List Int) : SeqAt.shaped (.list (c.map PyData.int)) = true := by
  show (PyData.canLayAll0 (c.map PyData.int) && decide (PyData.depthAll (c.map PyData.int) + 1 ≤ 64)) = true
  rw [ints_lay, ints_depth]; rfl
theorem nil_shaped : SeqAt.shaped (.list []) = true := rfl
theorem eq_nil {c : List Int} : eqD (.list (c.map .int)) (.list []) = some c.isEmpty := by
  unfold eqD
  rw [ints_shaped, nil_shaped, Bool.and_self, Bool.or_true, if_pos rfl]
  cases c <;> rfl
theorem nil_len : ([] : List D).length ≤ sizeLine := Nat.zero_le _
theorem one_ok {c : List Int} {sp : Int} {a0 a1 a2 a3 a4 : Option Val} {μ : List D} (hc : c.length ≤ 63) :
    wp (mIte (tTru (mCmp Cop.ne (mVar 5) (mLst lNil))) (mIdx (mVar 5) (mBin Bop.mod (mBlt Blt.int (lCons (mOpd (mVar 6)) lNil)) (mBlt Blt.len (lCons (mOpd (mVar 5)) lNil)))) (M.ret (.dat (.int 78182))))
      ⟨[a0, a1, a2, a3, a4, some (.dat (.list (c.map .int))), some (.dat (.int sp))], μ⟩ fun v t => ∃ x, v = .dat (.int x) ∧ t = ⟨[a0, a1, a2, a3, a4, some (.dat (.list (c.map .int))), some (.dat (.int sp))], μ⟩ := by
  simp only [↓wp_ite, ↓wp_tru, ↓wp_opd, ↓wp_cmp, ↓wp_two, ↓wp_var, varK, List.getElem?_cons_zero, List.getElem?_cons_succ, Option.join_some, ↓opd_dat, ↓wp_lst, ↓wp_lnil, nil_len, true_and, ↓opd_own, ↓peek_dat, gCmp, cmpD, eq_nil, Option.map_some, ↓wp_optS, truD, ↓wp_ifb, ↓wp_ret]
  refine ⟨fun h => ?_, fun _ => ⟨_, rfl, trivial⟩⟩
  have hn : c ≠ [] := fun e => by subst e; cases h
  obtain ⟨x, hx⟩ := at_mod hn sp
  have hl : 0 < (c.length : Int) := by
    have := List.length_pos_iff.mpr hn
    omega
  simp only [↓wp_idx, ↓wp_opd, ↓wp_two, ↓wp_bin, ↓wp_blt, ↓wp_lcons, ↓wp_lnil, ↓wp_var, varK, List.getElem?_cons_zero, List.getElem?_cons_succ, Option.join_some, ↓opd_dat, ↓wp_peeks1, ↓wp_peeks0, ↓peek_dat, bltD, lenD, List.length_map, Option.map_some, ↓wp_optS, binD, ↓wp_optI, hl, true_and, gIdx, idxD, hx]
  exact ⟨_, rfl, trivial⟩
theorem fit1 {i j : Int} (h : -(2 ^ 64) < i ∧ i < 2 ^ 64) : fitsMul i j = true := by
  unfold fitsMul
  exact decide_eq_true (.inl h)
def DrawOk (c : List Int) (many : Int) (μ : List D) (k : Nat) (f : Flow) (t : S) : Prop := ∃ r sp le dr, f = .rt (.dat (.int r)) ∧ 0 ≤ r ∧ r < many ∧ t.μ = μ.set k (feedD c sp le dr)
section
variable (cd : Nat → List Val → List D → R Val) (L : Nat)
theorem draw_ok {c : List Int} {sp le dr many : Int} {μ : List D} {k : Nat} (hm : 0 < many) (hm2 : many < 1073741824) (hc : c.length ≤ 63) (hk : μ[k]? = some (feedD c sp le dr)) :
    wp (run cd L d__law_draw.body) ⟨[some (.ext k), some (.dat (.int many)), none, none, none, none, none], μ⟩ (DrawOk c many μ k) := by
  have hk2 : k < μ.length := (List.getElem?_eq_some_iff.mp hk).1
  unfold feedD at hk
  have k2 : isKey (.str (Str.ofString "spot")) = true := rfl
  have k3 : isKey (.str (Str.ofString "left")) = true := rfl
  have k4 : isKey (.str (Str.ofString "drawn")) = true := rfl
  have fin : ∀ (x : Int) (ρ : List (Option Val)) (sp le dr : Int), DrawOk c many μ k (.rt (.dat (.int (x % many)))) ⟨ρ, μ.set k (feedD c sp le dr)⟩ := fun x ρ sp le dr => ⟨_, sp, le, dr, rfl, Int.emod_nonneg x (by omega), Int.emod_lt_of_pos x hm, rfl⟩
  have fin' : ∀ (x : Int) (ρ : List (Option Val)) (sp le dr : Int), DrawOk c many μ k (.rt (.dat (.int (x % many)))) ⟨ρ, μ.set k (.dict [(.str S1, .list (c.map .int)), (.str S2, .int sp), (.str S3, .int le), (.str S4, .int dr)])⟩ := fin
  have l63 : (c.map PyData.int).length ≤ sizeLine := by rw [List.length_map]; exact Nat.le_trans hc (by decide)
  by_cases hl : 0 < le
  · simp only [d__law_draw, run, den, Den.ex, ↓wp_then, ↓wp_sti, ↓wp_frz, ↓wp_bin, ↓wp_two, ↓wp_opd, ↓wp_idx, ↓wp_var, varK, List.getElem?_cons_zero, List.getElem?_cons_succ, Option.join_some, ↓opd_ext, ↓opd_dat, ↓wp_ret, ↓peek_ext hk, ↓peek_dat, gIdx, idxD, isKey, get4, get3, Option.map_some, ↓wp_optS, if_true, binD, ↓frz_dat,
      ↓chk0 hk, ↓put0 hk k4 four, put4, flowK, ↓wp_kite, ↓wp_tru, ↓wp_cmp, gCmp, cmpD, ↓peeks_ hk2, truD, hl, decide_true, ↓wp_set, ↓wp_blt, ↓wp_lcons, ↓wp_lnil, ↓wp_peeks1, ↓wp_peeks0, bltD, hm, hm2, ↓setv_dat, ↓wp_slot, List.length_cons, List.length_nil, Nat.reduceAdd, Nat.reduceLT, ↓chk0s hk2, ↓put0s hk2 k3 four, put3, ↓wp_kret, ↓ret_dat, List.set, and_self, true_and, ↓wp_optI]
    exact fin' _ _ _ _ _
  · simp only [d__law_draw, run, den, Den.ex, ↓wp_then, ↓wp_sti, ↓wp_frz, ↓wp_bin, ↓wp_two, ↓wp_opd, ↓wp_idx, ↓wp_var, varK, List.getElem?_cons_zero, List.getElem?_cons_succ, Option.join_some, ↓opd_ext, ↓opd_dat, ↓wp_ret, ↓peek_ext hk, ↓peek_dat, gIdx, idxD, isKey, get4, get3, get2, get1, Option.map_some, ↓wp_optS, if_true, binD, ↓frz_dat,
      ↓chk0 hk, ↓put0 hk k4 four, put4, flowK, ↓wp_kite, ↓wp_tru, ↓wp_cmp, gCmp, cmpD, ↓peeks_ hk2, truD, hl, decide_true, decide_false, Bool.false_eq_true, if_false, ↓wp_set, ↓wp_blt, ↓wp_lcons, ↓wp_lnil, ↓wp_peeks1, ↓wp_peeks0, bltD, hm, hm2, ↓setv_dat, ↓wp_slot, List.length_cons, List.length_nil, Nat.reduceAdd, Nat.reduceLT, ↓chk0s hk2, ↓put0s hk2 k3 four, ↓put0s hk2 k2 four, put3, put2, ↓wp_kret, ↓ret_dat, List.set, and_self, true_and, ↓wp_optI, ↓wp_par]
    refine wp_mono (one_ok hc) ?_
    rintro v t ⟨x, rfl, rfl⟩
    have e18 : (10 : Int) ^ (18 : Int).toNat = 10 ^ 18 := rfl
    have h10 : (0 ≤ (18 : Int) ∧ (18 : Int) ≤ 1000000 ∧ (10 : Int).natAbs < 2 ^ 64) := by decide
    have f1 : ∀ j, fitsMul 80021 j = true := fun j => fit1 (by decide)
    have f2 : ∀ j, fitsMul 5700007 j = true := fun j => fit1 (by decide)
    have f3 : ∀ j, fitsMul 511 j = true := fun j => fit1 (by decide)
    have f4 : ∀ i j : Int, fitsMul (i % 2147469983) j = true := fun i j => fit1 (by
      have := Int.emod_nonneg i (show (2147469983 : Int) ≠ 0 by decide)
      have := Int.emod_lt_of_pos i (show (0 : Int) < 2147469983 by decide)
      omega)
    have f5 : ∀ i j : Int, fitsMul (i % 2147469949) j = true := fun i j => fit1 (by
      have := Int.emod_nonneg i (show (2147469949 : Int) ≠ 0 by decide)
      have := Int.emod_lt_of_pos i (show (0 : Int) < 2147469949 by decide)
      omega)
    have p1 : (0 : Int) < 1000005001 := by decide
    have p2 : (0 : Int) < 2147469983 := by decide
    have p3 : (0 : Int) < 2147469949 := by decide
    have p4 : (0 : Int) < 2147469943 := by decide
    have p5 : (0 : Int) < 16 ∧ (16 : Int) < 1073741824 := by decide
    simp only [↓wp_then, ↓wp_sti, ↓wp_frz, ↓wp_bin, ↓wp_two, ↓wp_opd, ↓wp_idx, ↓wp_var, varK, List.getElem?_cons_zero, List.getElem?_cons_succ, Option.join_some, ↓opd_ext, ↓opd_dat, ↓wp_ret, ↓peek_dat, gIdx, idxD, isKey, get4, get3, get2, get1, Option.map_some, ↓wp_optS, if_true, binD, ↓frz_dat,
      put4, flowK, ↓wp_kite, ↓wp_tru, ↓wp_cmp, gCmp, cmpD, ↓peeks_ hk2, truD, ↓wp_set, ↓wp_blt, ↓wp_lcons, ↓wp_lnil, ↓wp_peeks1, ↓wp_peeks0, bltD, hm, hm2, ↓setv_dat, ↓wp_slot, List.length_cons, List.length_nil, Nat.reduceAdd, Nat.reduceLT, ↓chk0s hk2, ↓put0s hk2 k3 four, ↓put0s hk2 k2 four, put3, put2, ↓wp_kret, ↓ret_dat, List.set, and_self, true_and, ↓wp_optI, ↓wp_tand, ↓wp_ifb, lenD, List.length_map, h10, e18, f1, f2, f3, f4, f5, p1, p2, p3, p4, p5]
    simp only [Bool.false_eq_true, false_implies, true_implies, true_and, and_true]
    exact ⟨fun _ => ⟨fun _ => fin' _ _ _ _ _, fun _ => fin' _ _ _ _ _⟩, fun _ => fin' _ _ _ _ _⟩
end
end Ded.DM
end

section
set_option linter.all false
set_option maxRecDepth 100000
set_option maxHeartbeats 1000000
namespace Ded.DM
open PySem Ded.P
theorem wpc_is {r : R Val} {v0 : Val} {μ0 : List D} (h : wpc r fun v μ => v = v0 ∧ μ = μ0) (K : Val → List D → Prop) : wpc r K = K v0 μ0 := by
  obtain ⟨v, t, rfl, rfl, h2⟩ := wpc_ok h
  show K v t.μ = _
  rw [h2]
/-- a list that a comprehension of one name makes of a state that stays -/
theorem map_one {d : D} {s : S} : ([some d] : List (Option D)) = [some d] := rfl
section
variable {L n : Nat} {d : D} {μ : List D}
def isInt (d : D) : Bool := isTy .int d && !isTy .bool d
def isNum (d : D) : Bool := isInt d && (match d with
  | .int i => decide (0 ≤ i)
  | _ => false)
theorem s0 (K : Val → List D → Prop) : wpc (callD Ds L (n + 1) 0 [.dat d] μ) K = K (.dat (.bool (isInt d))) μ := by
  refine wpc_is (wpc_call (d := d_is_integer) rfl rfl ?_) K
  simp only [d_is_integer, List.map, List.replicate, Nat.sub, run, den, Den.ex, ↓wp_kret, ↓wp_and, ↓wp_opd, ↓wp_isi, ↓wp_one, ↓wp_not, ↓wp_var, varK, List.cons_append, List.nil_append, List.getElem?_cons_zero, Option.join_some, ↓opd_dat, ↓peek_dat, ↓wp_optS, ↓wp_ifb, ↓wp_ret, ↓ret_dat, endK, truD, List.any_cons, List.any_nil, Bool.or_false, Option.map_some, and_true]
  unfold isInt
  refine ⟨fun h => by rw [h]; rfl, fun h => by rw [h]; rfl⟩
theorem s1 (K : Val → List D → Prop) : wpc (callD Ds L (n + 2) 1 [.dat d] μ) K = K (.dat (.bool (isNum d))) μ := by
  refine wpc_is (wpc_call (d := d_is_number) rfl rfl ?_) K
  simp only [d_is_number, List.map, List.replicate, Nat.sub, run, den, Den.ex, ↓wp_kret, ↓wp_and, ↓wp_opd, ↓wp_call, ↓wp_lcons, ↓wp_lnil, ↓wp_bind, ↓argv_dat, solve_dat, solve_nil, Option.map_some, callK, ↓s0, ↓wp_var, varK, List.cons_append, List.nil_append, List.getElem?_cons_zero, Option.join_some, ↓opd_dat, ↓peek_dat, ↓wp_optS, ↓wp_ifb, ↓wp_ret, ↓ret_dat, endK, truD, and_true, ↓wp_cmp, ↓wp_two, gCmp]
  unfold isNum
  refine ⟨fun h => ?_, fun h => by rw [h]; rfl⟩
  rw [h]
  cases d <;> first | (cases h; done) | exact ⟨rfl, rfl⟩
theorem s9 (K : Val → List D → Prop) : wpc (callD Ds L (n + 1) 9 [.dat d] μ) K = K (.dat (.bool (isNum d))) μ := by
  refine wpc_is (wpc_call (d := d__law_is_number) rfl rfl ?_) K
  simp only [d__law_is_number, List.map, List.replicate, Nat.sub, run, den, Den.ex, ↓wp_kret, ↓wp_and, ↓wp_opd, ↓wp_isi, ↓wp_one, ↓wp_not, ↓wp_var, varK, List.cons_append, List.nil_append, List.getElem?_cons_zero, Option.join_some, ↓opd_dat, ↓peek_dat, ↓wp_optS, ↓wp_ifb, ↓wp_ret, ↓ret_dat, endK, truD, List.any_cons, List.any_nil, Bool.or_false, Option.map_some, and_true, ↓wp_cmp, ↓wp_two, gCmp]
  unfold isNum isInt
  cases d <;> simp [isTy, cmpD, M.opt, wp, retV, M.ret]
end
end Ded.DM
end

section
set_option linter.all false
set_option maxRecDepth 100000
set_option maxHeartbeats 1000000
namespace Ded.DM
open PySem Ded.P
section
variable {L n : Nat} {d : D} {μ : List D}
abbrev LET : Str := Str.ofString "abcdefghijklmnopqrstuvwxyz"
def signs (x : Str) : List D := x.cps.toList.map fun c => .str ⟨#[c]⟩
def okStr (x : Str) : Bool := decide (1 ≤ x.length) && decide (x.length ≤ 8) && x.cps.toList.all fun c => inStr ⟨#[c]⟩ LET
def isName : D → Bool
  | .str x => okStr x
  | _ => false
/-- texts of it are short -/
def Short : D → Prop
  | .str x => x.length ≤ sizeLine
  | _ => True
theorem int_le (x : Str) : (decide ((1 : Int) ≤ (x.length : Int))) = decide (1 ≤ x.length) := by
  congr 1
  apply propext
  omega
theorem int_le8 (x : Str) : (decide ((x.length : Int) ≤ 8)) = decide (x.length ≤ 8) := by
  congr 1
  apply propext
  omega
theorem bools_map (bs : List Bool) : boolsOf (bs.map PyData.bool) = some bs := by
  induction bs with
  | nil => rfl
  | cons b bs ih =>
    show (boolsOf (bs.map PyData.bool)).map (b :: ·) = _
    rw [ih]; rfl
theorem fm_map {α β : Type} (f : α → β) (l : List α) : l.filterMap (fun x => some (f x)) = l.map f := by
  induction l with
  | nil => rfl
  | cons x l ih => rw [List.filterMap_cons, ih]; rfl
theorem in_sign {c : Nat} {z : Str} : inD (.str ⟨#[c]⟩) (.str z) = some (inStr ⟨#[c]⟩ z) := rfl
theorem letters {x : Str} (hs : x.length ≤ sizeLine) : wp (mLc (mCmp Cop.in_ (mVar 1) (M.ret (.dat (.str LET)))) (gVar 1) (wOf (mVar 0)) (M.ret true) [1]) ⟨[some (.dat (.str x)), none], μ⟩ fun v t =>
    v = .own (.list ((x.cps.toList.map fun c => inStr ⟨#[c]⟩ LET).map PyData.bool)) ∧ t = ⟨[some (.dat (.str x)), none], μ⟩ := by
  have z := lc1 (ρ := [some (.dat (.str x)), none]) (μ := μ) (i := 1) (m := mCmp Cop.in_ (mVar 1) (M.ret (.dat (.str LET)))) (w := wOf (mVar 0)) (c := M.ret true) (ds := signs x) (fun d => some (match d with
    | .str y => .bool (inStr y LET)
    | _ => .none)) ?_ (by simp) rfl ?_ fun d hd => ?_
  · rw [fm_map] at z
    unfold signs at z
    rw [List.map_map] at z
    rw [List.map_map]
    exact z
  · simp only [↓wp_wof, ↓wp_frz, ↓wp_var, varK, List.getElem?_cons_zero, Option.join_some, ↓frz_dat, itemsOf, ↓wp_optS]
    exact ⟨rfl, trivial⟩
  · rw [fm_map, List.length_map]
    unfold signs
    rw [List.length_map, Array.length_toList]
    exact hs
  · obtain ⟨c, hc, rfl⟩ := List.mem_map.mp hd
    simp only [↓wp_ret, true_implies, Bool.true_eq_false, false_implies, and_true, ↓wp_frz, ↓wp_cmp, ↓wp_two, ↓wp_opd, ↓wp_var, varK, List.set, List.getElem?_cons_zero, List.getElem?_cons_succ, Option.join_some, ↓opd_dat, ↓peek_dat, gCmp, cmpD, in_sign, Option.map_some, ↓wp_optS, ↓frz_dat]
theorem s2 (hs : Short d) (K : Val → List D → Prop) : wpc (callD Ds L (n + 1) 2 [.dat d] μ) K = K (.dat (.bool (isName d))) μ := by
  refine wpc_is (wpc_call (d := d_is_name) rfl rfl ?_) K
  simp only [d_is_name, List.map, List.replicate, Nat.sub, run, den, Den.ex, ↓wp_then, ↓wp_kite, ↓wp_tor, ↓wp_tnot, ↓wp_tru, ↓wp_kret, ↓wp_opd, ↓wp_isi, ↓wp_one, ↓wp_var, varK, List.cons_append, List.nil_append, List.getElem?_cons_zero, Option.join_some, ↓opd_dat, ↓peek_dat, ↓wp_optS, ↓wp_ifb, ↓wp_ret, ↓ret_dat, endK, flowK, truD, List.any_cons, List.any_nil, Bool.or_false, Option.map_some, and_true, ↓wp_chn]
  cases d with
  | str x =>
    have hs : x.length ≤ sizeLine := hs
    have e1 : isTy .str (.str x) = true := rfl
    have lenk : bltD .len [.str x] = some (.dat (.int (x.length : Int))) := by
      show (if x.length ≤ sizeLine then some x.length else none).map _ = _
      rw [if_pos hs]; rfl
    have allk : bltD .all [.list ((x.cps.toList.map fun c => inStr ⟨#[c]⟩ LET).map PyData.bool)] = some (.dat (.bool (x.cps.toList.all fun c => inStr ⟨#[c]⟩ LET))) := by
      show (boolsOf _).map _ = _
      rw [bools_map]
      show some (Val.dat (.bool ((x.cps.toList.map fun c => inStr ⟨#[c]⟩ LET).all id))) = _
      rw [List.all_map]; rfl
    have tail : ∀ Y : Bool, (x.cps.toList.all fun c => inStr ⟨#[c]⟩ LET) = Y → wp (mLc (mCmp Cop.in_ (mVar 1) (M.ret (.dat (.str LET)))) (gVar 1) (wOf (mVar 0)) (M.ret true) [1]) ⟨[some (.dat (.str x)), none], μ⟩ fun v t => wp (opd v) t fun u s1 => wp (peekM u) s1 fun z s1 => wp (M.opt (bltD .all [z])) s1 fun v t => wp (retV v) t fun v t => v = .dat (.bool Y) ∧ t.μ = μ := fun Y hY => by
      refine wp_mono (letters hs) ?_
      rintro v t ⟨rfl, rfl⟩
      simp only [↓opd_own, ↓peek_dat, allk, ↓wp_optS, ↓ret_dat, hY, and_self]
    simp only [e1, Bool.not_true, true_implies, Bool.false_eq_true, Bool.true_eq_false, false_implies, and_true, true_and, ↓wp_blt, ↓wp_lcons, ↓wp_lnil, ↓wp_opd, ↓wp_var, varK, List.getElem?_cons_zero, Option.join_some, ↓opd_dat, ↓wp_peeks1, ↓wp_peeks0, ↓peek_dat, lenk, ↓wp_optS, cmpD, int_le, int_le8, ↓wp_ret, truD, isName, okStr, Bool.not_false]
    refine ⟨fun h1 => ⟨fun h2 => ?_, fun h2 => ?_⟩, fun h1 => ?_⟩
    · rw [h1]
      have : decide (x.length ≤ 8) = false := by simpa using h2
      rw [this]; rfl
    · rw [h1]
      have : decide (x.length ≤ 8) = true := by simpa using h2
      rw [this]
      exact tail _ rfl
    · rw [h1]; rfl
  | _ => simp [isTy, isName]
end
end Ded.DM
end

section
set_option linter.all false
set_option maxRecDepth 100000
set_option maxHeartbeats 1000000
namespace Ded.DM
open PySem Ded.P
section
variable {L n : Nat} {d : D} {μ : List D}
/-- a text of the machine: signs that there are, not too many -/
def OkS (x : Str) : Prop := x.length ≤ sizeLine ∧ ∀ c ∈ x.cps.toList, c < 0x110000
def Txt' : D → Prop
  | .str x => OkS x
  | _ => True
theorem Txt'.short (h : Txt' d) : Short d := by
  cases d <;> first | exact h.1 | trivial
theorem eq_nil_gen {ys : List D} (h : SeqAt.shaped (.list ys) = true) : eqD (.list ys) (.list []) = some ys.isEmpty := by
  unfold eqD
  rw [h, nil_shaped', Bool.and_self, Bool.or_true, if_pos rfl]
  cases ys <;> rfl
where nil_shaped' : SeqAt.shaped (.list []) = true := rfl
theorem sign_lay {c : Nat} (h : c < 0x110000) : PyData.canLay0 (.str ⟨#[c]⟩) = true := by
  show (#[c].all fun x => decide (x < 0x110000)) = true
  simp [h]
theorem lay_all : ∀ {ys : List D}, (∀ y ∈ ys, PyData.canLay0 y = true ∧ y.depth = 0) → PyData.canLayAll0 ys = true ∧ PyData.depthAll ys = 0
  | [], _ => ⟨rfl, rfl⟩
  | y :: ys, h => by
    obtain ⟨a, b⟩ := h y List.mem_cons_self
    obtain ⟨c, e⟩ := lay_all (ys := ys) fun z hz => h z (List.mem_cons_of_mem _ hz)
    refine ⟨?_, ?_⟩
    · show (PyData.canLay0 y && PyData.canLayAll0 ys) = true
      rw [a, c]; rfl
    · show max y.depth (PyData.depthAll ys) = 0
      rw [b, e]; rfl
theorem flat_shaped {ys : List D} (h : ∀ y ∈ ys, PyData.canLay0 y = true ∧ y.depth = 0) : SeqAt.shaped (.list ys) = true := by
  obtain ⟨a, b⟩ := lay_all h
  show (PyData.canLayAll0 ys && decide (PyData.depthAll ys + 1 ≤ 64)) = true
  rw [a, b]; rfl
def bad1 : D → Option D
  | .str y => if inStr y LET = true then none else some (.str y)
  | _ => none
theorem bad_empty : ∀ (l : List Nat), ((l.map fun c => PyData.str ⟨#[c]⟩).filterMap bad1).isEmpty = l.all fun c => inStr ⟨#[c]⟩ LET
  | [] => rfl
  | c :: l => by
    rw [List.map_cons, List.filterMap_cons, List.all_cons, ← bad_empty l]
    cases h : inStr ⟨#[c]⟩ LET with
    | true =>
      have : bad1 (.str ⟨#[c]⟩) = none := by simp [bad1, h]
      rw [this]; rfl
    | false =>
      have : bad1 (.str ⟨#[c]⟩) = some (.str ⟨#[c]⟩) := by simp [bad1, h]
      rw [this]; rfl
theorem no_letters {x : Str} (hs : OkS x) : wp (mLc (mVar 1) (gVar 1) (wOf (mVar 0)) (tAnd' (tTru (mCmp Cop.notin (mVar 1) (M.ret (.dat (.str LET))))) (M.ret true)) [1]) ⟨[some (.dat (.str x)), none], μ⟩ fun v t =>
    v = .own (.list ((signs x).filterMap bad1)) ∧ t = ⟨[some (.dat (.str x)), none], μ⟩ := by
  refine lc1 (ρ := [some (.dat (.str x)), none]) (μ := μ) (i := 1) (ds := signs x) bad1 ?_ (by simp) rfl ?_ fun d hd => ?_
  · simp only [↓wp_wof, ↓wp_frz, ↓wp_var, varK, List.getElem?_cons_zero, Option.join_some, ↓frz_dat, itemsOf, ↓wp_optS]
    exact ⟨rfl, trivial⟩
  · refine Nat.le_trans (List.length_filterMap_le _ _) ?_
    unfold signs
    rw [List.length_map, Array.length_toList]
    exact hs.1
  · obtain ⟨c, hc, rfl⟩ := List.mem_map.mp hd
    simp only [↓wp_tand, ↓wp_tru, ↓wp_ret, ↓wp_ifb, ↓wp_frz, ↓wp_cmp, ↓wp_two, ↓wp_opd, ↓wp_var, varK, List.set, List.getElem?_cons_zero, List.getElem?_cons_succ, Option.join_some, ↓opd_dat, ↓peek_dat, gCmp, cmpD, in_sign, Option.map_some, ↓wp_optS, truD, ↓frz_dat, true_implies, Bool.true_eq_false, false_implies, and_true, Bool.false_eq_true, true_and]
    cases h : inStr ⟨#[c]⟩ LET <;> simp [bad1, h]
theorem s10 (hs : Txt' d) (K : Val → List D → Prop) : wpc (callD Ds L (n + 1) 10 [.dat d] μ) K = K (.dat (.bool (isName d))) μ := by
  refine wpc_is (wpc_call (d := d__law_is_name) rfl rfl ?_) K
  simp only [d__law_is_name, List.map, List.replicate, Nat.sub, run, den, Den.ex, ↓wp_then, ↓wp_kite, ↓wp_tor, ↓wp_tnot, ↓wp_tru, ↓wp_kret, ↓wp_opd, ↓wp_isi, ↓wp_one, ↓wp_var, varK, List.cons_append, List.nil_append, List.getElem?_cons_zero, Option.join_some, ↓opd_dat, ↓peek_dat, ↓wp_optS, ↓wp_ifb, ↓wp_ret, ↓ret_dat, endK, flowK, truD, List.any_cons, List.any_nil, Bool.or_false, Option.map_some, and_true, ↓wp_chn, ↓wp_cmp, ↓wp_two]
  cases d with
  | str x =>
    have hs : OkS x := hs
    have e1 : isTy .str (.str x) = true := rfl
    have lenk : bltD .len [.str x] = some (.dat (.int (x.length : Int))) := by
      show (if x.length ≤ sizeLine then some x.length else none).map _ = _
      rw [if_pos hs.1]; rfl
    have shp : SeqAt.shaped (.list ((signs x).filterMap bad1)) = true := flat_shaped fun y hy => by
      obtain ⟨z, hz, e⟩ := List.mem_filterMap.mp hy
      obtain ⟨c, hc, rfl⟩ := List.mem_map.mp hz
      cases h : inStr ⟨#[c]⟩ LET with
      | true => simp [bad1, h] at e
      | false =>
        simp [bad1, h] at e
        subst e
        exact ⟨sign_lay (hs.2 c hc), rfl⟩
    have emp : ((signs x).filterMap bad1).isEmpty = x.cps.toList.all fun c => inStr ⟨#[c]⟩ LET := bad_empty _
    have nl : ([] : List D).length ≤ sizeLine := Nat.zero_le _
    have tail : ∀ Y : Bool, (x.cps.toList.all fun c => inStr ⟨#[c]⟩ LET) = Y → wp (mLc (mVar 1) (gVar 1) (wOf (mVar 0)) (tAnd' (tTru (mCmp Cop.notin (mVar 1) (M.ret (.dat (.str LET))))) (M.ret true)) [1]) ⟨[some (.dat (.str x)), none], μ⟩ fun v t => wp (opd v) t fun u s1 => wp (mLst lNil) s1 fun v t => wp (opd v) t fun v s2 => wp (peekM u) s2 fun x s3 => wp (peekM v) s3 fun y s4 => wp (M.opt (gCmp Cop.eq x y)) s4 fun v t => wp (retV v) t fun v t => v = .dat (.bool Y) ∧ t.μ = μ := fun Y hY => by
      refine wp_mono (no_letters hs) ?_
      rintro v t ⟨rfl, rfl⟩
      simp only [↓opd_own, ↓wp_lst, ↓wp_lnil, nl, true_and, ↓peek_dat, gCmp, cmpD, eq_nil_gen shp, emp, Option.map_some, ↓wp_optS, ↓ret_dat, hY, and_self]
    simp only [e1, Bool.not_true, true_implies, Bool.false_eq_true, Bool.true_eq_false, false_implies, and_true, true_and, ↓wp_blt, ↓wp_lcons, ↓wp_lnil, ↓wp_opd, ↓wp_var, varK, List.getElem?_cons_zero, Option.join_some, ↓opd_dat, ↓wp_peeks1, ↓wp_peeks0, ↓peek_dat, lenk, ↓wp_optS, cmpD, int_le, int_le8, ↓wp_ret, truD, isName, okStr, Bool.not_false]
    refine ⟨fun h1 => ⟨fun h2 => ?_, fun h2 => ?_⟩, fun h1 => ?_⟩
    · rw [h1]
      have : decide (x.length ≤ 8) = false := by simpa using h2
      rw [this]; rfl
    · rw [h1]
      have : decide (x.length ≤ 8) = true := by simpa using h2
      rw [this]
      exact tail _ rfl
    · rw [h1]; rfl
  | _ => simp [isTy, isName]
end
end Ded.DM
end

section
set_option linter.all false
set_option maxRecDepth 100000
set_option maxHeartbeats 1000000
namespace Ded.DM
open PySem Ded.P
section
variable {L n : Nat} {d : D} {μ : List D}
def ltD : D → D → Bool
  | .str x, .str y => decide (x.cps.toList < y.cps.toList)
  | _, _ => false
def rising : List D → Bool
  | a :: b :: r => ltD a b && rising (b :: r)
  | _ => true
def isStrD' : D → Bool
  | .str _ => true
  | _ => false
def pairLt : D → D
  | .tuple [a, b] => .bool (ltD a b)
  | _ => .none
theorem rise_zip : ∀ ds : List D, (((ds.zip (ds.drop 1)).map fun p => PyData.tuple [p.1, p.2]).map pairLt) = ((ds.zip (ds.drop 1)).map fun p => ltD p.1 p.2).map PyData.bool := fun ds => by
  rw [List.map_map, List.map_map]
  rfl
theorem rise_all : ∀ ds : List D, ((ds.zip (ds.drop 1)).map fun p => ltD p.1 p.2).all id = rising ds
  | [] => rfl
  | [a] => rfl
  | a :: b :: r => by
    have ih := rise_all (b :: r)
    show (ltD a b && (((b :: r).zip ((b :: r).drop 1)).map fun p => ltD p.1 p.2).all id) = (ltD a b && rising (b :: r))
    rw [ih]
theorem cut_one (ds : List D) : cutL ds (some 1) none = ds.drop 1 := by
  unfold cutL
  rw [show HT.sIx ds.length 0 (some 1) = min 1 ds.length from HT.sIx_nat ds.length 0 1, HT.sIx_none]
  cases ds with
  | nil => rfl
  | cons x r =>
    rw [show min 1 (x :: r).length = 1 by rw [List.length_cons]; omega]
    show List.take ((x :: r).length - 1) r = r
    rw [List.length_cons, Nat.add_sub_cancel]
    exact List.take_length
theorem s3 {ds : List D} (hl : ds.length ≤ sizeLine) (hs : ∀ d ∈ ds, isStrD' d = true) (K : Val → List D → Prop) : wpc (callD Ds L (n + 1) 3 [.dat (.tuple ds)] μ) K = K (.dat (.bool (rising ds))) μ := by
  refine wpc_is (wpc_call (d := d_are_rising) rfl rfl ?_) K
  have cutk : sliD (.tuple ds) (some 1) none = some (.dat (.tuple (ds.drop 1))) := by
    show some (Val.dat (.tuple (cutL ds (some 1) none))) = _
    rw [cut_one]
  have lc := lcg (ρ := [some (.dat (.tuple ds)), none, none]) (μ := μ) (vs := [1, 2]) (m := mCmp Cop.lt (mVar 1) (mVar 2)) (g := gTup' (gCons' (gVar 1) (gCons' (gVar 2) gNil'))) (c := M.ret true)
    (w := wZip (lCons (mFrz (mVar 0)) (lCons (mFrz (mSli (mVar 0) (mOInt (M.ret (.dat (.int 1)))) (M.ret none))) lNil))) (ds := (ds.zip (ds.drop 1)).map fun p => .tuple [p.1, p.2]) (fun d => some (pairLt d)) ?_ rfl rfl rfl ?_ fun d hd => ?_
  · rw [fm_map, rise_zip] at lc
    have allk : bltD .all [.list (((ds.zip (ds.drop 1)).map fun p => ltD p.1 p.2).map PyData.bool)] = some (.dat (.bool (rising ds))) := by
      show (boolsOf _).map _ = _
      rw [bools_map, ← rise_all]
      rfl
    simp only [d_are_rising, List.map, List.replicate, Nat.sub, run, den, Den.ex, ↓wp_kret, ↓wp_blt, ↓wp_lcons, ↓wp_lnil, ↓wp_opd, List.cons_append, List.nil_append]
    refine wp_mono lc ?_
    rintro v t ⟨rfl, rfl⟩
    simp only [↓opd_own, ↓wp_peeks1, ↓wp_peeks0, ↓peek_dat, allk, ↓wp_optS, ↓ret_dat, endK, and_self]
  · simp only [↓wp_zip, ↓wp_lcons, ↓wp_lnil, ↓wp_frz, ↓wp_var, varK, List.getElem?_cons_zero, Option.join_some, ↓frz_dat, ↓wp_sli, ↓wp_opd, ↓opd_dat, ↓oint_cst, ↓wp_ret, ↓peek_dat, cutk, ↓wp_optS, zipD]
    refine ⟨?_, ?_⟩ <;> first | trivial | rfl
  · rw [fm_map, List.length_map, List.length_map, List.length_zip]
    exact Nat.le_trans (Nat.min_le_left _ _) hl
  · obtain ⟨p, hp, rfl⟩ := List.mem_map.mp hd
    have h1 := hs p.1 (List.of_mem_zip hp).1
    have h2 := hs p.2 (List.mem_of_mem_drop (List.of_mem_zip hp).2)
    have key : cmpD .lt p.1 p.2 = some (ltD p.1 p.2) := by
      generalize p.1 = a at h1
      generalize p.2 = b at h2
      cases a <;> first | (cases h1; done) | skip
      cases b <;> first | (cases h2; done) | skip
      rfl
    simp only [↓wp_turn, ↓wp_gtup, ↓wp_gcons, ↓wp_gnil, ↓wp_gvar, ↓wp_slot, List.length_cons, List.length_nil, Nat.reduceAdd, Nat.reduceLT, true_and, List.set, ↓wp_ret, true_implies, Bool.true_eq_false, false_implies, and_true, ↓wp_frz, ↓wp_cmp, ↓wp_two, ↓wp_opd, ↓wp_var, varK, List.getElem?_cons_zero, List.getElem?_cons_succ, Option.join_some, ↓opd_dat, ↓peek_dat, gCmp, key, Option.map_some, ↓wp_optS, ↓frz_dat]
    refine ⟨?_, ?_⟩ <;> first | trivial | rfl
end
end Ded.DM
end

section
set_option linter.all false
set_option maxRecDepth 100000
set_option maxHeartbeats 1000000
namespace Ded.DM
open PySem Ded.P
section
variable {L n : Nat} {d : D} {μ : List D}
def isSetD : D → Bool
  | .tuple ds => ds.all isName && rising ds
  | _ => false
/-- what a tuple must be for the machine -/
structure TupOk (ds : List D) : Prop where
  len : ds.length ≤ sizeLine
  txt : ∀ x ∈ ds, Txt' x
  lay : PyData.canLayAll0 ds = true
  dep : PyData.depthAll ds ≤ 60
def SetOk : D → Prop
  | .tuple ds => TupOk ds
  | _ => True
theorem name_str {d : D} (h : isName d = true) : isStrD' d = true := by
  cases d <;> first | rfl | cases h
theorem s4 (hs : SetOk d) (K : Val → List D → Prop) : wpc (callD Ds L (n + 2) 4 [.dat d] μ) K = K (.dat (.bool (isSetD d))) μ := by
  refine wpc_is (wpc_call (d := d_is_names) rfl rfl ?_) K
  simp only [d_is_names, List.map, List.replicate, Nat.sub, run, den, Den.ex, Den.no, ↓wp_kret, ↓wp_and, ↓wp_opd, ↓wp_isi, ↓wp_one, ↓wp_var, varK, List.cons_append, List.nil_append, List.getElem?_cons_zero, Option.join_some, ↓opd_dat, ↓peek_dat, ↓wp_optS, truD, List.any_cons, List.any_nil, Bool.or_false, ↓wp_ifb, ↓wp_ret, ↓ret_dat, endK, and_true]
  cases d with
  | tuple ds =>
    have hs : TupOk ds := hs
    have e1 : isTy .tuple (.tuple ds) = true := rfl
    have lc := lc1 (ρ := [some (.dat (.tuple ds)), none]) (μ := μ) (i := 1) (m := mCall (callD Ds L (n + 1)) 2 (lCons (M.bind (mVar 1) argV) lNil)) (w := wOf (mVar 0)) (c := M.ret true) (ds := ds) (fun d => some (.bool (isName d))) ?_ (by simp) rfl ?_ fun d hd => ?_
    · have em : (ds.map fun d => PyData.bool (isName d)) = (ds.map isName).map PyData.bool := by rw [List.map_map]; rfl
      rw [fm_map, em] at lc
      have allk : bltD .all [.list ((ds.map isName).map PyData.bool)] = some (.dat (.bool (ds.all isName))) := by
        show (boolsOf _).map _ = _
        rw [bools_map]
        show some (Val.dat (.bool ((ds.map isName).all id))) = _
        rw [List.all_map]; rfl
      simp only [e1, true_implies, Bool.true_eq_false, false_implies, and_true, ↓wp_blt, ↓wp_lcons, ↓wp_lnil, ↓wp_opd]
      refine wp_mono lc ?_
      rintro v t ⟨rfl, rfl⟩
      simp only [↓opd_own, ↓wp_peeks1, ↓wp_peeks0, ↓peek_dat, allk, ↓wp_optS, ↓opd_dat, truD, ↓wp_ifb, ↓wp_ret, ↓ret_dat, ↓wp_call, ↓wp_lcons, ↓wp_lnil, ↓wp_bind, ↓wp_var, varK, List.getElem?_cons_zero, Option.join_some, ↓argv_dat, solve_dat, solve_nil, Option.map_some, callK]
      refine ⟨fun h => ?_, fun h => ?_⟩
      · have hn : ∀ x ∈ ds, isStrD' x = true := fun x hx => name_str (List.all_eq_true.mp h x hx)
        rw [s3 hs.len hn]
        simp only [↓ret_dat, isSetD, h, Bool.true_and, and_self]
      · simp only [isSetD, h, Bool.false_and, and_self]
    · simp only [↓wp_wof, ↓wp_frz, ↓wp_var, varK, List.getElem?_cons_zero, Option.join_some, ↓frz_dat, itemsOf, ↓wp_optS]
      refine ⟨?_, ?_⟩ <;> first | trivial | rfl
    · rw [fm_map, List.length_map]
      exact hs.len
    · simp only [↓wp_ret, true_implies, Bool.true_eq_false, false_implies, and_true, ↓wp_frz, ↓wp_call, ↓wp_lcons, ↓wp_lnil, ↓wp_bind, ↓wp_var, varK, List.set, List.getElem?_cons_zero, List.getElem?_cons_succ, Option.join_some, ↓argv_dat, solve_dat, solve_nil, Option.map_some, callK]
      rw [s2 (hs.txt d hd).short]
      simp only [↓frz_dat, and_self]
  | _ => simp [isTy, isSetD]
theorem rising_iff : ∀ ds : List D, rising ds = true ↔ ∀ (k : Nat) (a b : D), ds[k]? = some a → ds[k + 1]? = some b → ltD a b = true
  | [] => by simp [rising]
  | [a] => by
    simp only [rising, true_iff]
    intro k a b h1 h2
    cases k <;> simp at h2
  | a :: b :: r => by
    show (ltD a b && rising (b :: r)) = true ↔ _
    rw [Bool.and_eq_true, rising_iff (b :: r)]
    constructor
    · rintro ⟨h, h2⟩ k x y e1 e2
      cases k with
      | zero => cases e1; cases e2; exact h
      | succ k => exact h2 k x y (by simpa using e1) (by simpa using e2)
    · intro h
      exact ⟨h 0 a b rfl rfl, fun k x y e1 e2 => h (k + 1) x y (by simpa using e1) (by simpa using e2)⟩
end
end Ded.DM
end

section
set_option linter.all false
set_option maxRecDepth 100000
set_option maxHeartbeats 1000000
namespace Ded.DM
open PySem Ded.P
section
variable {L n : Nat} {d : D} {μ : List D}
theorem sub_lay : ∀ {ds ys : List D}, ys.Sublist ds → PyData.canLayAll0 ds = true → PyData.canLayAll0 ys = true ∧ PyData.depthAll ys ≤ PyData.depthAll ds
  | _, _, .slnil, h => ⟨h, Nat.le_refl _⟩
  | _, _, .cons (l₁ := ys) (l₂ := ds) a s, h => by
    have h : (PyData.canLay0 a && PyData.canLayAll0 ds) = true := h
    obtain ⟨h1, h2⟩ := Bool.and_eq_true_iff.mp h
    obtain ⟨e1, e2⟩ := sub_lay s h2
    exact ⟨e1, Nat.le_trans e2 (Nat.le_max_right _ _)⟩
  | _, _, .cons₂ (l₁ := ys) (l₂ := ds) a s, h => by
    have h : (PyData.canLay0 a && PyData.canLayAll0 ds) = true := h
    obtain ⟨h1, h2⟩ := Bool.and_eq_true_iff.mp h
    obtain ⟨e1, e2⟩ := sub_lay s h2
    refine ⟨?_, ?_⟩
    · show (PyData.canLay0 a && PyData.canLayAll0 ys) = true
      rw [h1, e1]; rfl
    · show max a.depth (PyData.depthAll ys) ≤ max a.depth (PyData.depthAll ds)
      omega
theorem sizeLine_eq' : sizeLine = 16777216 := by decide
def notName (d : D) : Option D := if isName d = true then none else some d
theorem notName_sub : ∀ ds : List D, (ds.filterMap notName).Sublist ds
  | [] => .slnil
  | d :: ds => by
    rw [List.filterMap_cons]
    unfold notName
    by_cases h : isName d = true
    · rw [if_pos h]; exact .cons _ (notName_sub ds)
    · rw [if_neg h]; exact .cons₂ _ (notName_sub ds)
theorem notName_empty : ∀ ds : List D, (ds.filterMap notName).isEmpty = ds.all isName
  | [] => rfl
  | d :: ds => by
    rw [List.filterMap_cons, List.all_cons, ← notName_empty ds]
    unfold notName
    cases h : isName d with
    | true => rw [if_pos rfl]; rfl
    | false => rw [if_neg (by simp)]; rfl
/-- the places where the order breaks -/
def fall (ds : List D) : D → Option D
  | .int i => match ds[(i - 1).toNat]?, ds[i.toNat]? with
    | some a, some b => if ltD a b = true then none else some (.int i)
    | _, _ => none
  | _ => none
def places (ds : List D) : List D := (List.range ((ds.length : Int) - 1).toNat).map fun k => .int (1 + (k : Nat))
theorem fall_at {ds : List D} {k : Nat} {a b : D} (h1 : ds[k]? = some a) (h2 : ds[k + 1]? = some b) : fall ds (.int (1 + (k : Nat))) = if ltD a b = true then none else some (.int (1 + (k : Nat))) := by
  have e1 : ((1 + (k : Int)) - 1).toNat = k := by omega
  have e2 : (1 + (k : Int)).toNat = k + 1 := by omega
  unfold fall
  dsimp only
  rw [e1, e2, h1, h2]
theorem fall_empty (ds : List D) : ((places ds).filterMap (fall ds)).isEmpty = rising ds := by
  have key : ((places ds).filterMap (fall ds)).isEmpty = true ↔ rising ds = true := by
    rw [rising_iff, List.isEmpty_iff, List.filterMap_eq_nil_iff]
    unfold places
    constructor
    · intro h k a b h1 h2
      have hk : k + 1 < ds.length := (List.getElem?_eq_some_iff.mp h2).1
      have := h (.int (1 + (k : Nat))) (List.mem_map.mpr ⟨k, List.mem_range.mpr (by omega), rfl⟩)
      rw [fall_at h1 h2] at this
      by_cases q : ltD a b = true
      · exact q
      · rw [if_neg q] at this; cases this
    · intro h x hx
      obtain ⟨k, hk, rfl⟩ := List.mem_map.mp hx
      have hk := List.mem_range.mp hk
      have h1 : ds[k]? = some ds[k] := List.getElem?_eq_getElem (by omega)
      have h2 : ds[k + 1]? = some ds[k + 1] := List.getElem?_eq_getElem (by omega)
      rw [fall_at h1 h2, if_pos (h k _ _ h1 h2)]
  cases h : rising ds with
  | true => exact key.mpr h
  | false =>
    cases h2 : ((places ds).filterMap (fall ds)).isEmpty with
    | false => rfl
    | true => rw [key.mp h2] at h; cases h
theorem nat_up (k : Nat) : (1 + (k : Int)) = ((k + 1 : Nat) : Int) := by omega
theorem nat_dn (k : Nat) : (1 + (k : Int) - 1) = (k : Int) := by omega
theorem fall_turn {ds : List D} {k : Nat} {a b : D} (h1 : ds[k]? = some a) (h2 : ds[k + 1]? = some b) (n1 : isStrD' a = true) (n2 : isStrD' b = true) :
    wp (tAnd' (tTru (mCmp Cop.le (mIdx (mVar 0) (mVar 1)) (mIdx (mVar 0) (mBin Bop.sub (mVar 1) (M.ret (.dat (.int 1))))))) (M.ret true)) ⟨[some (Val.dat (.tuple ds)), some (.dat (.int (1 + (k : Int)))), none], μ⟩ fun c s2 => (c = true → wp (mFrz (mVar 1)) s2 fun y t => fall ds (.int (1 + (k : Int))) = some y ∧ t = ⟨[some (Val.dat (.tuple ds)), some (.dat (.int (1 + (k : Int)))), none], μ⟩) ∧ (c = false → fall ds (.int (1 + (k : Int))) = none ∧ s2 = ⟨[some (Val.dat (.tuple ds)), some (.dat (.int (1 + (k : Int)))), none], μ⟩) := by
  have a1 : L2.atI ds (1 + (k : Int)) = some b := by
    rw [nat_up]; exact L2.atI_nat h2
  have a2 : L2.atI ds (1 + (k : Int) - 1) = some a := by
    rw [nat_dn]; exact L2.atI_nat h1
  have fk := fall_at h1 h2
  have key : cmpD .le b a = some (!ltD a b) := by
    cases a <;> first | (cases n1; done) | skip
    cases b <;> first | (cases n2; done) | skip
    rfl
  simp only [↓wp_tand, ↓wp_tru, ↓wp_opd, ↓wp_ret, ↓wp_ifb, ↓wp_frz, ↓wp_cmp, ↓wp_two, ↓wp_idx, ↓wp_bin, ↓wp_var, varK, List.set, List.getElem?_cons_zero, List.getElem?_cons_succ, Option.join_some, ↓opd_dat, ↓peek_dat, gIdx, idxD, binD, a1, a2, gCmp, key, Option.map_some, ↓wp_optS, truD, ↓frz_dat, true_implies, Bool.true_eq_false, false_implies, and_true, Bool.false_eq_true, true_and, fk]
  cases ltD a b <;> simp
theorem places_len {ds : List D} (hs : TupOk ds) : ((places ds).filterMap (fall ds)).length ≤ sizeLine := by
  refine Nat.le_trans (List.length_filterMap_le _ _) (Nat.le_trans ?_ hs.len)
  unfold places
  rw [List.length_map, List.length_range]
  omega
theorem place_get {ds : List D} {k : Nat} (hk : k < ((ds.length : Int) - 1).toNat) : ∃ a b, ds[k]? = some a ∧ ds[k + 1]? = some b ∧ a ∈ ds ∧ b ∈ ds := by
  have h1 : k < ds.length := by omega
  have h2 : k + 1 < ds.length := by omega
  exact ⟨ds[k], ds[k + 1], List.getElem?_eq_getElem h1, List.getElem?_eq_getElem h2, List.getElem_mem _, List.getElem_mem _⟩
theorem turns {ds : List D} (hn : ∀ x ∈ ds, isStrD' x = true) : ∀ d ∈ places ds, wp (tAnd' (tTru (mCmp Cop.le (mIdx (mVar 0) (mVar 1)) (mIdx (mVar 0) (mBin Bop.sub (mVar 1) (M.ret (.dat (.int 1))))))) (M.ret true)) ⟨[some (Val.dat (.tuple ds)), some (.dat d), none], μ⟩ fun c s2 => (c = true → wp (mFrz (mVar 1)) s2 fun y t => fall ds d = some y ∧ t = ⟨[some (Val.dat (.tuple ds)), some (.dat d), none], μ⟩) ∧ (c = false → fall ds d = none ∧ s2 = ⟨[some (Val.dat (.tuple ds)), some (.dat d), none], μ⟩) := fun d hd => by
  obtain ⟨k, hk, rfl⟩ := List.mem_map.mp hd
  obtain ⟨a, b, h1, h2, ma, mb⟩ := place_get (List.mem_range.mp hk)
  exact fall_turn h1 h2 (hn a ma) (hn b mb)
theorem falls {ds : List D} {w : M (List D)} (hs : TupOk ds) (hn : ∀ x ∈ ds, isStrD' x = true) (hw : wp w ⟨[some (Val.dat (.tuple ds)), none, none], μ⟩ fun ds' t => ds' = places ds ∧ t = ⟨[some (Val.dat (.tuple ds)), none, none], μ⟩) :
    wp (mLc (mVar 1) (gVar 1) w (tAnd' (tTru (mCmp Cop.le (mIdx (mVar 0) (mVar 1)) (mIdx (mVar 0) (mBin Bop.sub (mVar 1) (M.ret (.dat (.int 1))))))) (M.ret true)) [1]) ⟨[some (Val.dat (.tuple ds)), none, none], μ⟩ fun v t => v = .own (.list ((places ds).filterMap (fall ds))) ∧ t = ⟨[some (Val.dat (.tuple ds)), none, none], μ⟩ :=
  lc1 (ρ := [some (Val.dat (.tuple ds)), none, none]) (i := 1) (fall ds) hw (Nat.succ_lt_succ (Nat.zero_lt_succ _)) rfl (places_len hs) (turns hn)
theorem range_two {i j : Int} {s : S} {W : List D → S → Prop} (h : fit62 i = true ∧ fit62 j = true) : wp (M.opt (rangeD [.int i, .int j])) s W = W ((List.range (j - i).toNat).map fun k => .int (i + (k : Nat))) s := by
  have e : rangeD [.int i, .int j] = some ((List.range (j - i).toNat).map fun k => .int (i + (k : Nat))) := by
    unfold rangeD
    exact if_pos h
  rw [e, wp_optS]
theorem len_fits {l : Nat} (h : l ≤ sizeLine) : fit62 1 = true ∧ fit62 (l : Int) = true := by
  rw [sizeLine_eq'] at h
  rw [fit62_iff, fit62_iff]
  omega
theorem range_any {ds : List D} {i : Int} {ρ : List (Option Val)} (hf : fit62 i = true ∧ fit62 (ds.length : Int) = true) {W : List D → S → Prop} (h : W ((List.range ((ds.length : Int) - i).toNat).map fun k => .int (i + (k : Nat))) ⟨some (Val.dat (.tuple ds)) :: ρ, μ⟩) : wp (wRange (lCons (mOpd (M.ret (.dat (.int i)))) (lCons (mOpd (mBlt Blt.len (lCons (mOpd (mVar 0)) lNil))) lNil))) ⟨some (Val.dat (.tuple ds)) :: ρ, μ⟩ W := by
  simp only [↓wp_range, ↓wp_lcons, ↓wp_lnil, ↓wp_opd, ↓wp_ret, ↓opd_dat, ↓wp_blt, ↓wp_var, varK, List.getElem?_cons_zero, Option.join_some, ↓wp_peeks1, ↓wp_peeks0, ↓peek_dat]
  refine (len_tup (ds := ds)).mpr ?_
  simp only [↓opd_dat, ↓wp_peeks1, ↓wp_peeks0, ↓peek_dat]
  exact (range_two hf).mpr h
theorem range_src {ds : List D} {ρ : List (Option Val)} (hl : ds.length ≤ sizeLine) {W : List D → S → Prop} (h : W (places ds) ⟨some (Val.dat (.tuple ds)) :: ρ, μ⟩) : wp (wRange (lCons (mOpd (M.ret (.dat (.int 1)))) (lCons (mOpd (mBlt Blt.len (lCons (mOpd (mVar 0)) lNil))) lNil))) ⟨some (Val.dat (.tuple ds)) :: ρ, μ⟩ W := range_any (len_fits hl) h
theorem s11 (hs : SetOk d) (K : Val → List D → Prop) : wpc (callD Ds L (n + 2) 11 [.dat d] μ) K = K (.dat (.bool (isSetD d))) μ := by
  refine wpc_is (wpc_call (d := d__law_is_set) rfl rfl ?_) K
  simp only [d__law_is_set, List.map, List.replicate, Nat.sub, run, den, Den.ex, Den.no, ↓wp_then, ↓wp_kite, ↓wp_tor, ↓wp_tnot, ↓wp_tru, ↓wp_kret, ↓wp_opd, ↓wp_isi, ↓wp_one, ↓wp_var, varK, List.cons_append, List.nil_append, List.getElem?_cons_zero, Option.join_some, ↓opd_dat, ↓peek_dat, ↓wp_optS, ↓wp_ifb, ↓wp_ret, ↓ret_dat, endK, flowK, truD, List.any_cons, List.any_nil, Bool.or_false, Option.map_some, and_true, ↓wp_cmp, ↓wp_two]
  cases d with
  | tuple ds =>
    have hs : TupOk ds := hs
    have e1 : isTy .tuple (.tuple ds) = true := rfl
    have nl : ([] : List D).length ≤ sizeLine := Nat.zero_le _
    have lc := lc1 (ρ := [some (.dat (.tuple ds)), none, none]) (μ := μ) (i := 2) (m := mVar 2) (w := wOf (mVar 0)) (c := tAnd' (tNot' (tTru (mCall (callD Ds L (n + 1)) 10 (lCons (M.bind (mVar 2) argV) lNil)))) (M.ret true)) (ds := ds) notName ?_ (by simp) rfl ?_ fun d hd => ?_
    · have shp : SeqAt.shaped (.list (ds.filterMap notName)) = true := by
        obtain ⟨a, b⟩ := sub_lay (notName_sub ds) hs.lay
        have := hs.dep
        show (PyData.canLayAll0 (ds.filterMap notName) && decide (PyData.depthAll (ds.filterMap notName) + 1 ≤ 64)) = true
        rw [a, decide_eq_true (by omega)]; rfl
      simp only [e1, Bool.not_true, true_implies, Bool.false_eq_true, Bool.true_eq_false, false_implies, and_true, true_and]
      refine wp_mono lc ?_
      rintro v t ⟨rfl, rfl⟩
      simp only [↓opd_own, ↓wp_lst, ↓wp_lnil, nl, true_and, ↓peek_dat, gCmp, cmpD, eq_nil_gen shp, notName_empty, Option.map_some, ↓wp_optS, ↓opd_dat, truD]
      refine ⟨fun h => ?_, fun h => ?_⟩
      · have h : ds.all isName = false := by simpa using h
        simp only [isSetD, h, Bool.false_and, and_self]
      · have h : ds.all isName = true := by simpa using h
        have shp2 : SeqAt.shaped (.list ((places ds).filterMap (fall ds))) = true := flat_shaped fun y hy => by
          obtain ⟨z, hz, e⟩ := List.mem_filterMap.mp hy
          obtain ⟨k, hk, rfl⟩ := List.mem_map.mp hz
          unfold fall at e
          dsimp only at e
          split at e
          · split at e <;> cases e
            exact ⟨rfl, rfl⟩
          · cases e
        have hn : ∀ x ∈ ds, isStrD' x = true := fun x hx => name_str (List.all_eq_true.mp h x hx)
        refine wp_mono (falls hs hn (range_src hs.len ⟨rfl, rfl⟩)) ?_
        rintro v t ⟨rfl, rfl⟩
        simp only [↓opd_own, ↓wp_lst, ↓wp_lnil, nl, true_and, ↓peek_dat, gCmp, cmpD, eq_nil_gen shp2, fall_empty, Option.map_some, ↓wp_optS, ↓ret_dat, isSetD, h, Bool.true_and, and_self]
    · simp only [↓wp_wof, ↓wp_frz, ↓wp_var, varK, List.getElem?_cons_zero, Option.join_some, ↓frz_dat, itemsOf, ↓wp_optS]
      refine ⟨?_, ?_⟩ <;> first | trivial | rfl
    · exact Nat.le_trans (notName_sub ds).length_le hs.len
    · simp only [↓wp_tand, ↓wp_tnot, ↓wp_tru, ↓wp_opd, ↓wp_ret, ↓wp_ifb, ↓wp_frz, ↓wp_call, ↓wp_lcons, ↓wp_lnil, ↓wp_bind, ↓wp_var, varK, List.set, List.getElem?_cons_zero, List.getElem?_cons_succ, Option.join_some, ↓argv_dat, solve_dat, solve_nil, Option.map_some, callK]
      rw [s10 (hs.txt d hd)]
      simp only [↓opd_dat, ↓peek_dat, truD, ↓wp_optS, ↓wp_ret, ↓wp_ifb, ↓wp_var, varK, List.getElem?_cons_zero, List.getElem?_cons_succ, Option.join_some, ↓frz_dat, true_implies, Bool.true_eq_false, false_implies, and_true, Bool.false_eq_true, true_and]
      unfold notName
      cases h : isName d <;> simp
  | _ => simp [isTy, isSetD]
end
end Ded.DM
end

section
set_option linter.all false
set_option maxRecDepth 100000
set_option maxHeartbeats 1000000
namespace Ded.DM
open PySem Ded.P
/-! Values that are small enough for the machine. -/
theorem text_from_le (B : Nat) : ∀ (ts : List Str) (k : Nat) (acc : Str), (∀ t ∈ ts, t.length ≤ B) → (textFrom k acc ts).length ≤ acc.length + ts.length * (B + 2)
  | [], k, acc, _ => by show acc.length ≤ _; omega
  | t :: r, k, acc, h => by
    have ih := text_from_le B r (k + 1) (acc ++ (if k > 0 then ", " else "" : String) ++ t) fun u hu => h u (List.mem_cons_of_mem _ hu)
    have ht := h t List.mem_cons_self
    have e : (acc ++ (if k > 0 then ", " else "" : String) ++ t).length ≤ acc.length + 2 + t.length := by
      rw [strLen_append, strLen_append]
      have : ((if k > 0 then ", " else "" : String) : Str).length ≤ 2 := by split <;> decide
      omega
    show (textFrom (k + 1) _ r).length ≤ acc.length + (r.length + 1) * (B + 2)
    have : (r.length + 1) * (B + 2) = r.length * (B + 2) + (B + 2) := by rw [Nat.add_mul, Nat.one_mul]
    omega
theorem list_text_le {B : Nat} {ts : List Str} (h : ∀ t ∈ ts, t.length ≤ B) : (listText ts).length ≤ ts.length * (B + 2) + 2 := by
  unfold listText
  rw [strLen_append]
  have := text_from_le B ts 0 "[" h
  have e1 : (("[" : String) : Str).length = 1 := rfl
  have e2 : (("]" : String) : Str).length = 1 := rfl
  omega
theorem join_le (B : Nat) : ∀ ts : List Str, (∀ t ∈ ts, t.length ≤ B) → (Str.join ", " ts).length ≤ ts.length * (B + 2)
  | [], _ => Nat.zero_le _
  | [x], h => by
    show x.length ≤ _
    have := h x List.mem_cons_self
    simp only [List.length_cons, List.length_nil]
    omega
  | x :: y :: r, h => by
    have ih := join_le B (y :: r) fun u hu => h u (List.mem_cons_of_mem _ hu)
    have hx := h x List.mem_cons_self
    show (x ++ ", " ++ Str.join ", " (y :: r)).length ≤ _
    rw [strLen_append, strLen_append]
    have e2 : ((", " : String) : Str).length = 2 := rfl
    have : ((x :: y :: r).length) * (B + 2) = (y :: r).length * (B + 2) + (B + 2) := by
      show ((y :: r).length + 1) * (B + 2) = _
      rw [Nat.add_mul, Nat.one_mul]
    omega
theorem tuple_text_le {B : Nat} {ts : List Str} (h : ∀ t ∈ ts, t.length ≤ B) : (tupleText ts).length ≤ ts.length * (B + 2) + 3 := by
  unfold tupleText
  rw [strLen_append, strLen_append]
  have := join_le B ts h
  have e1 : (("(" : String) : Str).length = 1 := rfl
  have : ((if ts.length == 1 then ",)" else ")" : String) : Str).length ≤ 2 := by split <;> decide
  omega
theorem shown_all_len : ∀ ds : List D, (PyData.shownAll ds).length = ds.length
  | [] => rfl
  | d :: ds => by
    show (d.shown :: PyData.shownAll ds).length = _
    rw [List.length_cons, shown_all_len ds, List.length_cons]
theorem shown_all_mem : ∀ {ds : List D} {t : Str}, t ∈ PyData.shownAll ds → ∃ d ∈ ds, t = d.shown
  | [], t, h => by cases h
  | d :: ds, t, h => by
    have h : t ∈ d.shown :: PyData.shownAll ds := h
    rcases List.mem_cons.mp h with h | h
    · exact ⟨d, List.mem_cons_self, h⟩
    · obtain ⟨e, he, z⟩ := shown_all_mem h
      exact ⟨e, List.mem_cons_of_mem _ he, z⟩
/-- small: can be shown, and what it has in it -/
def smallB (B n : Nat) (d : D) : Bool := d.canLay0 && d.showable && decide (d.shown.length ≤ B) && decide (d.depth ≤ n)
/-- texts in it are short -/
def shortB : D → Bool
  | .str x => decide (x.length ≤ 1000)
  | _ => true
def atB (d : D) : Bool := smallB 1000 5 d && shortB d
structure At (d : D) : Prop where
  lay : d.canLay0 = true
  shw : d.showable = true
  len : d.shown.length ≤ 1000
  dep : d.depth ≤ 5
  sht : shortB d = true
theorem at_of {d : D} (h : atB d = true) : At d := by
  unfold atB smallB at h
  simp only [Bool.and_eq_true, decide_eq_true_eq] at h
  exact ⟨h.1.1.1.1, h.1.1.1.2, h.1.1.2, h.1.2, h.2⟩
theorem lay_str {x : Str} (h : PyData.canLay0 (.str x) = true) : ∀ c ∈ x.cps.toList, c < 0x110000 := by
  have h : (x.cps.all fun c => decide (c < 0x110000)) = true := h
  intro c hc
  rw [Array.all_eq_true_iff_forall_mem] at h
  exact of_decide_eq_true (h c (Array.mem_toList_iff.mp hc))
theorem At.txt {d : D} (h : At d) : Txt' d := by
  have h1 := h.lay
  have h2 := h.sht
  cases d with
  | str x =>
    refine ⟨?_, lay_str h1⟩
    have : x.length ≤ 1000 := of_decide_eq_true h2
    rw [sizeLine_eq']
    omega
  | _ => trivial
/-- what is_right takes -/
structure Good (d : D) : Prop where
  rep : canRepr d = true
  set : SetOk d
  txt : Txt' d
theorem all_lay {ds : List D} (h : ∀ d ∈ ds, At d) : PyData.canLayAll0 ds = true ∧ PyData.showableAll ds = true ∧ PyData.depthAll ds ≤ 5 := by
  induction ds with
  | nil => exact ⟨rfl, rfl, Nat.zero_le _⟩
  | cons d ds ih =>
    obtain ⟨a, b, c⟩ := ih fun x hx => h x (List.mem_cons_of_mem _ hx)
    have hd := h d List.mem_cons_self
    refine ⟨?_, ?_, ?_⟩
    · show (d.canLay0 && PyData.canLayAll0 ds) = true
      rw [hd.lay, a]; rfl
    · show (d.showable && PyData.showableAll ds) = true
      rw [hd.shw, b]; rfl
    · show max d.depth (PyData.depthAll ds) ≤ 5
      have := hd.dep
      omega
theorem tup_ok {ds : List D} (hl : ds.length ≤ 100) (h : ∀ d ∈ ds, At d) : TupOk ds := by
  obtain ⟨a, b, c⟩ := all_lay h
  refine ⟨by rw [sizeLine_eq']; omega, fun x hx => (h x hx).txt, a, by omega⟩
theorem good_tuple {ds : List D} (hl : ds.length ≤ 100) (h : ∀ d ∈ ds, At d) : Good (.tuple ds) := by
  obtain ⟨a, b, c⟩ := all_lay h
  refine ⟨?_, tup_ok hl h, trivial⟩
  have e : (tupleText (PyData.shownAll ds)).length ≤ ds.length * 1002 + 3 := by
    have := tuple_text_le (B := 1000) (ts := PyData.shownAll ds) fun t ht => by
      obtain ⟨d, hd, rfl⟩ := shown_all_mem ht
      exact (h d hd).len
    rwa [shown_all_len] at this
  have e2 : ds.length * 1002 ≤ 100 * 1002 := Nat.mul_le_mul_right _ hl
  have f1 : PyData.canLay0 (.tuple ds) = true := a
  have f2 : PyData.showable (.tuple ds) = true := b
  have f3 : (PyData.shown (.tuple ds)).length ≤ sizeLine := by
    rw [sizeLine_eq']
    show (tupleText (PyData.shownAll ds)).length ≤ _
    omega
  have f4 : PyData.depth (.tuple ds) ≤ 60 := by
    show PyData.depthAll ds + 1 ≤ 60
    omega
  unfold canRepr
  rw [f1, f2, decide_eq_true f3, decide_eq_true f4]; rfl
theorem good_list {ds : List D} (hl : ds.length ≤ 100) (h : ∀ d ∈ ds, At d) : Good (.list ds) := by
  obtain ⟨a, b, c⟩ := all_lay h
  refine ⟨?_, trivial, trivial⟩
  have e : (listText (PyData.shownAll ds)).length ≤ ds.length * 1002 + 2 := by
    have := list_text_le (B := 1000) (ts := PyData.shownAll ds) fun t ht => by
      obtain ⟨d, hd, rfl⟩ := shown_all_mem ht
      exact (h d hd).len
    rwa [shown_all_len] at this
  have e2 : ds.length * 1002 ≤ 100 * 1002 := Nat.mul_le_mul_right _ hl
  have f1 : PyData.canLay0 (.list ds) = true := a
  have f2 : PyData.showable (.list ds) = true := b
  have f3 : (PyData.shown (.list ds)).length ≤ sizeLine := by
    rw [sizeLine_eq']
    show (listText (PyData.shownAll ds)).length ≤ _
    omega
  have f4 : PyData.depth (.list ds) ≤ 60 := by
    show PyData.depthAll ds + 1 ≤ 60
    omega
  unfold canRepr
  rw [f1, f2, decide_eq_true f3, decide_eq_true f4]; rfl
/-- of a tuple, its parts too -/
def goodB : D → Bool
  | .tuple ds => decide (ds.length ≤ 100) && ds.all atB
  | d => atB d
theorem good_of {d : D} (h : goodB d = true) : Good d := by
  have atom : ∀ d : D, atB d = true → (∀ ds, d ≠ .tuple ds) → Good d := fun d h hn => by
    have a := at_of h
    refine ⟨?_, ?_, a.txt⟩
    · have f3 : d.shown.length ≤ sizeLine := by rw [sizeLine_eq']; have := a.len; omega
      have f4 : d.depth ≤ 60 := by have := a.dep; omega
      unfold canRepr
      rw [a.lay, a.shw, decide_eq_true f3, decide_eq_true f4]; rfl
    · cases d <;> first | trivial | exact absurd rfl (hn _)
  cases d with
  | tuple ds =>
    have h : (decide (ds.length ≤ 100) && ds.all atB) = true := h
    rw [Bool.and_eq_true] at h
    exact good_tuple (of_decide_eq_true h.1) fun d hd => at_of (List.all_eq_true.mp h.2 d hd)
  | _ => exact atom _ h fun ds e => by cases e
/-! names -/
structure Nm (x : Str) : Prop where
  len : x.length ≤ 20
  asc : ∀ c ∈ x.cps.toList, c < 128
theorem repr_char_le : ∀ c, c < 128 → (Builtin.Str.reprChar 39 c).length ≤ 10 ∧ (Builtin.Str.reprChar 34 c).length ≤ 10 := by decide +kernel
theorem repr_fold (q : Nat) : ∀ (l : List Nat) (n : Nat), (∀ c ∈ l, (Builtin.Str.reprChar q c).length ≤ 10) → l.foldl (fun n c => n + (Builtin.Str.reprChar q c).length) n ≤ n + 10 * l.length
  | [], n, _ => by simp
  | c :: l, n, h => by
    rw [List.foldl_cons]
    have := repr_fold q l (n + (Builtin.Str.reprChar q c).length) fun x hx => h x (List.mem_cons_of_mem _ hx)
    have := h c List.mem_cons_self
    rw [List.length_cons]
    omega
theorem nm_at {x : Str} (h : Nm x) : At (.str x) := by
  refine ⟨?_, rfl, ?_, Nat.zero_le _, decide_eq_true (Nat.le_trans h.len (by decide))⟩
  · show (x.cps.all fun c => decide (c < 0x110000)) = true
    rw [Array.all_eq_true_iff_forall_mem]
    intro c hc
    have := h.asc c (Array.mem_toList_iff.mpr hc)
    exact decide_eq_true (by omega)
  · show (reprText x).length ≤ 1000
    rw [← reprLen_eq, ← Array.foldl_toList]
    have hq : ∀ c ∈ x.cps.toList, (Builtin.Str.reprChar (reprQuote x) c).length ≤ 10 := fun c hc => by
      have := repr_char_le c (h.asc c hc)
      unfold reprQuote
      split
      · exact this.2
      · exact this.1
    have := repr_fold (reprQuote x) x.cps.toList 2 hq
    have e : x.cps.toList.length = x.length := Array.length_toList
    have := h.len
    omega
theorem nm_good {x : Str} (h : Nm x) : Good (.str x) := by
  have a := nm_at h
  refine ⟨?_, trivial, a.txt⟩
  have f3 : (PyData.shown (.str x)).length ≤ sizeLine := by rw [sizeLine_eq']; have := a.len; omega
  have f4 : (PyData.depth (.str x)) ≤ 60 := by have := a.dep; omega
  unfold canRepr
  rw [a.lay, a.shw, decide_eq_true f3, decide_eq_true f4]; rfl
theorem nm_add {x y : Str} (hx : ∀ c ∈ x.cps.toList, c < 128) (hy : ∀ c ∈ y.cps.toList, c < 128) (hl : x.length + y.length ≤ 20) : Nm (x ++ y) := by
  refine ⟨by rw [strLen_append]; exact hl, fun c hc => ?_⟩
  have hc : c ∈ (x.cps ++ y.cps).toList := hc
  rw [Array.toList_append] at hc
  rcases List.mem_append.mp hc with h | h
  · exact hx c h
  · exact hy c h
end Ded.DM
end

section
set_option linter.all false
set_option maxRecDepth 100000
set_option maxHeartbeats 1000000
namespace Ded.DM
open PySem Ded.P
section
variable {L n : Nat} {d : D} {μ : List D}
theorem Txt'.shrt (h : Txt' d) : Short d := Txt'.short h
theorem rep_is (h : canRepr d = true) : bltD .repr [d] = some (.dat (.str d.shown)) := by
  show (if canRepr d then some (Val.dat (.str d.shown)) else none) = _
  rw [if_pos h]
theorem eq_str_self (x : Str) : eqD (.str x) (.str x) = some true := by
  simp [eqD, scalD, PyData.eqv]
theorem rep_bools : ∀ a b c e : Bool, canRepr (.list [.list [.bool a, .bool b, .bool c, .bool e], .list [.bool a, .bool b, .bool c, .bool e]]) = true := by decide +kernel
theorem four_ok : ([.bool true] : List D).length ≤ sizeLine := by decide
theorem le_size (k : Nat) (h : k ≤ 1000) : k ≤ sizeLine := by rw [sizeLine_eq']; omega
theorem nat_le_size2 : 2 ≤ sizeLine := by decide
theorem nat_le_size4 : 4 ≤ sizeLine := by decide
theorem s14 (h : Good d) (K : Val → List D → Prop) : wpc (callD Ds L (n + 3) 14 [.dat d] μ) K = K (.dat (.bool true)) μ := by
  refine wpc_is (wpc_call (d := d__law_is_right) rfl rfl ?_) K
  simp only [d__law_is_right, List.map, List.replicate, Nat.sub, run, den, Den.ex, Den.no, List.cons_append, List.nil_append, ↓wp_then, ↓wp_exp, ↓wp_set, ↓wp_kite, ↓wp_kret, ↓wp_sti, ↓wp_par, ↓wp_bind, ↓wp_ret, ↓wp_optS, ↓wp_optI, ↓wp_opd, ↓wp_frz, ↓wp_two, ↓wp_one, ↓wp_bin, ↓wp_cmp, ↓wp_idx, ↓wp_neg, ↓wp_not, ↓wp_isi, ↓wp_tru, ↓wp_tand, ↓wp_tor, ↓wp_tnot, ↓wp_ite, ↓wp_and, ↓wp_or, ↓wp_lnil, ↓wp_lcons, ↓wp_peeks0, ↓wp_peeks1, ↓wp_blt, ↓wp_tup, ↓wp_lst, ↓wp_var, varK, ↓opd_dat, ↓opd_own, ↓opd_ext, ↓opd_loc, ↓peek_dat, ↓peek_loc, locK, ↓frz_dat, ↓frz_own, ↓frz_loc, frzK, ↓setv_dat, ↓setv_own, ↓setv_ext, ↓ret_dat, ↓ret_own, ↓ret_ext, ↓ret_loc, retK, ↓wp_call, callK, ↓argv_dat, ↓argv_own, ↓argv_ext, ↓argv_loc, argK, ↓wp_lend, lendK, solve_nil, solve_dat, solve_ext, solve_scr, ↓wp_slot, flowK, endK, ↓wp_chn, ↓wp_sli, setSlot, List.getElem?_cons_zero, List.getElem?_cons_succ, Option.join_some, Option.map_some, List.length_cons, List.length_nil, Nat.reduceAdd, Nat.reduceLT, List.set_cons_zero, List.set_cons_succ, true_and, and_true, ↓wp_ifb, ↓wp_dct, ↓wp_lkv, ↓wp_sls, slsK, ↓wp_rev, ↓wp_asg, ↓wp_dot, ↓wp_join, ↓wp_app, ↓wp_pop1, true_implies, false_implies, Bool.true_eq_false, Bool.false_eq_true, and_self, List.any_cons, List.any_nil, Bool.or_false, tru_bool, tru_int, tru_none, tru_list, tru_tup, ty1, ty2, ty3, ty4, ty5, ty6, ty7, ty8, Bool.not_true, Bool.not_false, gCmp, gIdx, gNeg, cmp_gt, cmp_lt, cmp_ge, cmp_le, cmp_eqi, sli_tup, sli_list, rev_tup, add_tup, add_list, add_str, add_int, sub_int, ↓wp_ointg, ointK, popJ, ↓wp_chkl, chkK, ↓wp_putl, putK, putO_ite, putO_some, appF, ↓len_list, ↓len_tup, decide_eq_true_eq, decide_eq_false_iff_not, sz, Nat.reduceLeDiff, rep_is h.rep, ↓s0, ↓s1, ↓s2 h.txt.short, ↓s4 h.set, ↓s9, ↓s10 h.txt, ↓s11 h.set, nat_le_size2, nat_le_size4, binD, rep_is (rep_bools _ _ _ _), cmpD, eq_str_self]
  refine ⟨fun hi => ?_, fun hi => ?_⟩
  · have e : isInt d = !isTy .bool d := by unfold isInt; rw [hi]; rfl
    simp only [e, eq_str_self, ↓wp_then, ↓wp_exp, ↓wp_set, ↓wp_kite, ↓wp_kret, ↓wp_sti, ↓wp_par, ↓wp_bind, ↓wp_ret, ↓wp_optS, ↓wp_optI, ↓wp_opd, ↓wp_frz, ↓wp_two, ↓wp_one, ↓wp_bin, ↓wp_cmp, ↓wp_idx, ↓wp_neg, ↓wp_not, ↓wp_isi, ↓wp_tru, ↓wp_tand, ↓wp_tor, ↓wp_tnot, ↓wp_ite, ↓wp_and, ↓wp_or, ↓wp_lnil, ↓wp_lcons, ↓wp_peeks0, ↓wp_peeks1, ↓wp_blt, ↓wp_tup, ↓wp_lst, ↓wp_var, varK, ↓opd_dat, ↓opd_own, ↓opd_ext, ↓opd_loc, ↓peek_dat, ↓peek_loc, locK, ↓frz_dat, ↓frz_own, ↓frz_loc, frzK, ↓setv_dat, ↓setv_own, ↓setv_ext, ↓ret_dat, ↓ret_own, ↓ret_ext, ↓ret_loc, retK, ↓wp_call, callK, ↓argv_dat, ↓argv_own, ↓argv_ext, ↓argv_loc, argK, ↓wp_lend, lendK, solve_nil, solve_dat, solve_ext, solve_scr, ↓wp_slot, flowK, endK, ↓wp_chn, ↓wp_sli, setSlot, List.getElem?_cons_zero, List.getElem?_cons_succ, Option.join_some, Option.map_some, List.length_cons, List.length_nil, Nat.reduceAdd, Nat.reduceLT, List.set_cons_zero, List.set_cons_succ, true_and, and_true, ↓wp_ifb, ↓wp_dct, ↓wp_lkv, ↓wp_sls, slsK, ↓wp_rev, ↓wp_asg, ↓wp_dot, ↓wp_join, ↓wp_app, ↓wp_pop1, true_implies, false_implies, Bool.true_eq_false, Bool.false_eq_true, and_self, List.any_cons, List.any_nil, Bool.or_false, tru_bool, tru_int, tru_none, tru_list, tru_tup, ty1, ty2, ty3, ty4, ty5, ty6, ty7, ty8, Bool.not_true, Bool.not_false, gCmp, gIdx, gNeg, cmp_gt, cmp_lt, cmp_ge, cmp_le, cmp_eqi, sli_tup, sli_list, rev_tup, add_tup, add_list, add_str, add_int, sub_int, ↓wp_ointg, ointK, popJ, ↓wp_chkl, chkK, ↓wp_putl, putK, putO_ite, putO_some, appF, ↓len_list, ↓len_tup, decide_eq_true_eq, decide_eq_false_iff_not, sz, Nat.reduceLeDiff, cmpD, truD, rep_is h.rep, true_implies, Bool.true_eq_false, false_implies, and_self]
  · have e : isInt d = false := by unfold isInt; rw [hi]; rfl
    simp only [e, hi, eq_str_self, ↓wp_then, ↓wp_exp, ↓wp_set, ↓wp_kite, ↓wp_kret, ↓wp_sti, ↓wp_par, ↓wp_bind, ↓wp_ret, ↓wp_optS, ↓wp_optI, ↓wp_opd, ↓wp_frz, ↓wp_two, ↓wp_one, ↓wp_bin, ↓wp_cmp, ↓wp_idx, ↓wp_neg, ↓wp_not, ↓wp_isi, ↓wp_tru, ↓wp_tand, ↓wp_tor, ↓wp_tnot, ↓wp_ite, ↓wp_and, ↓wp_or, ↓wp_lnil, ↓wp_lcons, ↓wp_peeks0, ↓wp_peeks1, ↓wp_blt, ↓wp_tup, ↓wp_lst, ↓wp_var, varK, ↓opd_dat, ↓opd_own, ↓opd_ext, ↓opd_loc, ↓peek_dat, ↓peek_loc, locK, ↓frz_dat, ↓frz_own, ↓frz_loc, frzK, ↓setv_dat, ↓setv_own, ↓setv_ext, ↓ret_dat, ↓ret_own, ↓ret_ext, ↓ret_loc, retK, ↓wp_call, callK, ↓argv_dat, ↓argv_own, ↓argv_ext, ↓argv_loc, argK, ↓wp_lend, lendK, solve_nil, solve_dat, solve_ext, solve_scr, ↓wp_slot, flowK, endK, ↓wp_chn, ↓wp_sli, setSlot, List.getElem?_cons_zero, List.getElem?_cons_succ, Option.join_some, Option.map_some, List.length_cons, List.length_nil, Nat.reduceAdd, Nat.reduceLT, List.set_cons_zero, List.set_cons_succ, true_and, and_true, ↓wp_ifb, ↓wp_dct, ↓wp_lkv, ↓wp_sls, slsK, ↓wp_rev, ↓wp_asg, ↓wp_dot, ↓wp_join, ↓wp_app, ↓wp_pop1, true_implies, false_implies, Bool.true_eq_false, Bool.false_eq_true, and_self, List.any_cons, List.any_nil, Bool.or_false, tru_bool, tru_int, tru_none, tru_list, tru_tup, ty1, ty2, ty3, ty4, ty5, ty6, ty7, ty8, Bool.not_true, Bool.not_false, gCmp, gIdx, gNeg, cmp_gt, cmp_lt, cmp_ge, cmp_le, cmp_eqi, sli_tup, sli_list, rev_tup, add_tup, add_list, add_str, add_int, sub_int, ↓wp_ointg, ointK, popJ, ↓wp_chkl, chkK, ↓wp_putl, putK, putO_ite, putO_some, appF, ↓len_list, ↓len_tup, decide_eq_true_eq, decide_eq_false_iff_not, sz, Nat.reduceLeDiff, cmpD, truD, rep_is h.rep, true_implies, Bool.true_eq_false, false_implies, and_self]
end
end Ded.DM
end

section
set_option linter.all false
set_option maxRecDepth 100000
set_option maxHeartbeats 2000000
namespace Ded.DM
open PySem Ded.P
def Fd (μ : List D) : Prop := ∃ (c : List Int) (sp le dr : Int), c.length ≤ 63 ∧ μ = [feedD c sp le dr]
section
variable {L n : Nat} {d : D} {μ : List D} {K : Val → List D → Prop}
theorem t6 {many : Int} (hm : 0 < many) (hm2 : many < 1073741824) (hf : Fd μ) (h : ∀ r μ', 0 ≤ r → r < many → Fd μ' → K (.dat (.int r)) μ') : wpc (callD Ds L (n + 1) 6 [.ext 0, .dat (.int many)] μ) K := by
  obtain ⟨c, sp, le, dr, hc, rfl⟩ := hf
  refine wpc_call (d := d__law_draw) rfl rfl (wp_mono (draw_ok (callD Ds L n) L (k := 0) hm hm2 hc rfl) ?_)
  rintro f t ⟨r, sp', le', dr', rfl, h0, h1, e⟩
  show K (.dat (.int r)) t.μ
  rw [e]
  exact h r _ h0 h1 ⟨c, sp', le', dr', hc, rfl⟩
theorem t7 {ds : List D} (h0 : 0 < ds.length) (h1 : ds.length < 1000) (hf : Fd μ) (h : ∀ d ∈ ds, ∀ μ', Fd μ' → K (.dat d) μ') : wpc (callD Ds L (n + 2) 7 [.ext 0, .dat (.list ds)] μ) K := by
  refine wpc_call (d := d__law_any) rfl rfl ?_
  simp only [d__law_any, List.map, List.replicate, Nat.sub, run, den, Den.ex, Den.no, List.cons_append, List.nil_append, ↓wp_then, ↓wp_exp, ↓wp_set, ↓wp_kite, ↓wp_kret, ↓wp_sti, ↓wp_par, ↓wp_bind, ↓wp_ret, ↓wp_optS, ↓wp_optI, ↓wp_opd, ↓wp_frz, ↓wp_two, ↓wp_one, ↓wp_bin, ↓wp_cmp, ↓wp_idx, ↓wp_neg, ↓wp_not, ↓wp_isi, ↓wp_tru, ↓wp_tand, ↓wp_tor, ↓wp_tnot, ↓wp_ite, ↓wp_and, ↓wp_or, ↓wp_lnil, ↓wp_lcons, ↓wp_peeks0, ↓wp_peeks1, ↓wp_blt, ↓wp_tup, ↓wp_lst, ↓wp_var, varK, ↓opd_dat, ↓opd_own, ↓opd_ext, ↓opd_loc, ↓peek_dat, ↓peek_loc, locK, ↓frz_dat, ↓frz_own, ↓frz_loc, frzK, ↓setv_dat, ↓setv_own, ↓setv_ext, ↓ret_dat, ↓ret_own, ↓ret_ext, ↓ret_loc, retK, ↓wp_call, callK, ↓argv_dat, ↓argv_own, ↓argv_ext, ↓argv_loc, argK, ↓wp_lend, lendK, solve_nil, solve_dat, solve_ext, solve_scr, ↓wp_slot, flowK, endK, ↓wp_chn, ↓wp_sli, setSlot, List.getElem?_cons_zero, List.getElem?_cons_succ, Option.join_some, Option.map_some, List.length_cons, List.length_nil, Nat.reduceAdd, Nat.reduceLT, List.set_cons_zero, List.set_cons_succ, true_and, and_true, ↓wp_ifb, ↓wp_dct, ↓wp_lkv, ↓wp_sls, slsK, ↓wp_rev, ↓wp_asg, ↓wp_dot, ↓wp_join, ↓wp_app, ↓wp_pop1, true_implies, false_implies, Bool.true_eq_false, Bool.false_eq_true, and_self, List.any_cons, List.any_nil, Bool.or_false, tru_bool, tru_int, tru_none, tru_list, tru_tup, ty1, ty2, ty3, ty4, ty5, ty6, ty7, ty8, Bool.not_true, Bool.not_false, gCmp, gIdx, gNeg, cmp_gt, cmp_lt, cmp_ge, cmp_le, cmp_eqi, sli_tup, sli_list, rev_tup, add_tup, add_list, add_str, add_int, sub_int, ↓wp_ointg, ointK, popJ, ↓wp_chkl, chkK, ↓wp_putl, putK, putO_ite, putO_some, appF, ↓len_list, ↓len_tup, decide_eq_true_eq, decide_eq_false_iff_not, sz, Nat.reduceLeDiff, ↓len_list]
  refine t6 (by omega) (by omega) hf fun r μ' h0 h1 hf' => ?_
  obtain ⟨e, he, ha⟩ := at_nat h0 h1
  simp only [↓wp_then, ↓wp_exp, ↓wp_set, ↓wp_kite, ↓wp_kret, ↓wp_sti, ↓wp_par, ↓wp_bind, ↓wp_ret, ↓wp_optS, ↓wp_optI, ↓wp_opd, ↓wp_frz, ↓wp_two, ↓wp_one, ↓wp_bin, ↓wp_cmp, ↓wp_idx, ↓wp_neg, ↓wp_not, ↓wp_isi, ↓wp_tru, ↓wp_tand, ↓wp_tor, ↓wp_tnot, ↓wp_ite, ↓wp_and, ↓wp_or, ↓wp_lnil, ↓wp_lcons, ↓wp_peeks0, ↓wp_peeks1, ↓wp_blt, ↓wp_tup, ↓wp_lst, ↓wp_var, varK, ↓opd_dat, ↓opd_own, ↓opd_ext, ↓opd_loc, ↓peek_dat, ↓peek_loc, locK, ↓frz_dat, ↓frz_own, ↓frz_loc, frzK, ↓setv_dat, ↓setv_own, ↓setv_ext, ↓ret_dat, ↓ret_own, ↓ret_ext, ↓ret_loc, retK, ↓wp_call, callK, ↓argv_dat, ↓argv_own, ↓argv_ext, ↓argv_loc, argK, ↓wp_lend, lendK, solve_nil, solve_dat, solve_ext, solve_scr, ↓wp_slot, flowK, endK, ↓wp_chn, ↓wp_sli, setSlot, List.getElem?_cons_zero, List.getElem?_cons_succ, Option.join_some, Option.map_some, List.length_cons, List.length_nil, Nat.reduceAdd, Nat.reduceLT, List.set_cons_zero, List.set_cons_succ, true_and, and_true, ↓wp_ifb, ↓wp_dct, ↓wp_lkv, ↓wp_sls, slsK, ↓wp_rev, ↓wp_asg, ↓wp_dot, ↓wp_join, ↓wp_app, ↓wp_pop1, true_implies, false_implies, Bool.true_eq_false, Bool.false_eq_true, and_self, List.any_cons, List.any_nil, Bool.or_false, tru_bool, tru_int, tru_none, tru_list, tru_tup, ty1, ty2, ty3, ty4, ty5, ty6, ty7, ty8, Bool.not_true, Bool.not_false, gCmp, gIdx, gNeg, cmp_gt, cmp_lt, cmp_ge, cmp_le, cmp_eqi, sli_tup, sli_list, rev_tup, add_tup, add_list, add_str, add_int, sub_int, ↓wp_ointg, ointK, popJ, ↓wp_chkl, chkK, ↓wp_putl, putK, putO_ite, putO_some, appF, ↓len_list, ↓len_tup, decide_eq_true_eq, decide_eq_false_iff_not, sz, Nat.reduceLeDiff, ↓idx_list ha]
  exact h e he μ' hf'
/-! the feed -/
theorem t5 {ns : List Int} (hn : ns.length ≤ 63) (h : ∀ c : List Int, c.length ≤ 63 → K (.own (feedD c 0 0 0)) []) : wpc (callD Ds L (n + 1) 5 [.scr ns] []) K := by
  refine wpc_call (d := d__law_feed) rfl rfl ?_
  simp only [d__law_feed, List.map, List.replicate, Nat.sub, run, den, Den.ex, Den.no, List.cons_append, List.nil_append, ↓wp_then, ↓wp_exp, ↓wp_set, ↓wp_kite, ↓wp_kret, ↓wp_sti, ↓wp_par, ↓wp_bind, ↓wp_ret, ↓wp_optS, ↓wp_optI, ↓wp_opd, ↓wp_frz, ↓wp_two, ↓wp_one, ↓wp_bin, ↓wp_cmp, ↓wp_idx, ↓wp_neg, ↓wp_not, ↓wp_isi, ↓wp_tru, ↓wp_tand, ↓wp_tor, ↓wp_tnot, ↓wp_ite, ↓wp_and, ↓wp_or, ↓wp_lnil, ↓wp_lcons, ↓wp_peeks0, ↓wp_peeks1, ↓wp_blt, ↓wp_tup, ↓wp_lst, ↓wp_var, varK, ↓opd_dat, ↓opd_own, ↓opd_ext, ↓opd_loc, ↓peek_dat, ↓peek_loc, locK, ↓frz_dat, ↓frz_own, ↓frz_loc, frzK, ↓setv_dat, ↓setv_own, ↓setv_ext, ↓ret_dat, ↓ret_own, ↓ret_ext, ↓ret_loc, retK, ↓wp_call, callK, ↓argv_dat, ↓argv_own, ↓argv_ext, ↓argv_loc, argK, ↓wp_lend, lendK, solve_nil, solve_dat, solve_ext, solve_scr, ↓wp_slot, flowK, endK, ↓wp_chn, ↓wp_sli, setSlot, List.getElem?_cons_zero, List.getElem?_cons_succ, Option.join_some, Option.map_some, List.length_cons, List.length_nil, Nat.reduceAdd, Nat.reduceLT, List.set_cons_zero, List.set_cons_succ, true_and, and_true, ↓wp_ifb, ↓wp_dct, ↓wp_lkv, ↓wp_sls, slsK, ↓wp_rev, ↓wp_asg, ↓wp_dot, ↓wp_join, ↓wp_app, ↓wp_pop1, true_implies, false_implies, Bool.true_eq_false, Bool.false_eq_true, and_self, List.any_cons, List.any_nil, Bool.or_false, tru_bool, tru_int, tru_none, tru_list, tru_tup, ty1, ty2, ty3, ty4, ty5, ty6, ty7, ty8, Bool.not_true, Bool.not_false, gCmp, gIdx, gNeg, cmp_gt, cmp_lt, cmp_ge, cmp_le, cmp_eqi, sli_tup, sli_list, rev_tup, add_tup, add_list, add_str, add_int, sub_int, ↓wp_ointg, ointK, popJ, ↓wp_chkl, chkK, ↓wp_putl, putK, putO_ite, putO_some, appF, ↓len_list, ↓len_tup, decide_eq_true_eq, decide_eq_false_iff_not, sz, Nat.reduceLeDiff]
  have hl : ∀ {α : Type} (xs : List α), xs.length ≤ 63 → xs.length ≤ sizeLine := fun xs h => by rw [sizeLine_eq']; omega
  have lc := lc1 (ρ := [some (.scr ns), none]) (μ := []) (i := 1) (m := mBlt Blt.int (lCons (mOpd (mVar 1)) lNil)) (w := wOf (mSls 0 none (some 63))) (c := M.ret true) (ds := (cutL ns none (some 63)).map .int) (fun d => some d) ?_ (by simp) rfl ?_ fun d hd => ?_
  · refine wp_mono lc ?_
    rintro v t ⟨rfl, rfl⟩
    have k1 : isKey (.str (Str.ofString "cells")) = true := rfl
    have k2 : isKey (.str (Str.ofString "spot")) = true := rfl
    have k3 : isKey (.str (Str.ofString "left")) = true := rfl
    have k4 : isKey (.str (Str.ofString "drawn")) = true := rfl
    simp only [↓wp_then, ↓wp_exp, ↓wp_set, ↓wp_kite, ↓wp_kret, ↓wp_sti, ↓wp_par, ↓wp_bind, ↓wp_ret, ↓wp_optS, ↓wp_optI, ↓wp_opd, ↓wp_frz, ↓wp_two, ↓wp_one, ↓wp_bin, ↓wp_cmp, ↓wp_idx, ↓wp_neg, ↓wp_not, ↓wp_isi, ↓wp_tru, ↓wp_tand, ↓wp_tor, ↓wp_tnot, ↓wp_ite, ↓wp_and, ↓wp_or, ↓wp_lnil, ↓wp_lcons, ↓wp_peeks0, ↓wp_peeks1, ↓wp_blt, ↓wp_tup, ↓wp_lst, ↓wp_var, varK, ↓opd_dat, ↓opd_own, ↓opd_ext, ↓opd_loc, ↓peek_dat, ↓peek_loc, locK, ↓frz_dat, ↓frz_own, ↓frz_loc, frzK, ↓setv_dat, ↓setv_own, ↓setv_ext, ↓ret_dat, ↓ret_own, ↓ret_ext, ↓ret_loc, retK, ↓wp_call, callK, ↓argv_dat, ↓argv_own, ↓argv_ext, ↓argv_loc, argK, ↓wp_lend, lendK, solve_nil, solve_dat, solve_ext, solve_scr, ↓wp_slot, flowK, endK, ↓wp_chn, ↓wp_sli, setSlot, List.getElem?_cons_zero, List.getElem?_cons_succ, Option.join_some, Option.map_some, List.length_cons, List.length_nil, Nat.reduceAdd, Nat.reduceLT, List.set_cons_zero, List.set_cons_succ, true_and, and_true, ↓wp_ifb, ↓wp_dct, ↓wp_lkv, ↓wp_sls, slsK, ↓wp_rev, ↓wp_asg, ↓wp_dot, ↓wp_join, ↓wp_app, ↓wp_pop1, true_implies, false_implies, Bool.true_eq_false, Bool.false_eq_true, and_self, List.any_cons, List.any_nil, Bool.or_false, tru_bool, tru_int, tru_none, tru_list, tru_tup, ty1, ty2, ty3, ty4, ty5, ty6, ty7, ty8, Bool.not_true, Bool.not_false, gCmp, gIdx, gNeg, cmp_gt, cmp_lt, cmp_ge, cmp_le, cmp_eqi, sli_tup, sli_list, rev_tup, add_tup, add_list, add_str, add_int, sub_int, ↓wp_ointg, ointK, popJ, ↓wp_chkl, chkK, ↓wp_putl, putK, putO_ite, putO_some, appF, ↓len_list, ↓len_tup, decide_eq_true_eq, decide_eq_false_iff_not, sz, Nat.reduceLeDiff, k1, k2, k3, k4]
    have z := h (cutL ns none (some 63)) (Nat.le_trans cut_len hn)
    have e1 : ((cutL ns none (some 63)).map PyData.int).filterMap (fun d => some d) = (cutL ns none (some 63)).map PyData.int := by rw [fm_map, List.map_id']
    rw [e1]
    exact z
  · simp only [↓wp_wof, ↓wp_then, ↓wp_exp, ↓wp_set, ↓wp_kite, ↓wp_kret, ↓wp_sti, ↓wp_par, ↓wp_bind, ↓wp_ret, ↓wp_optS, ↓wp_optI, ↓wp_opd, ↓wp_frz, ↓wp_two, ↓wp_one, ↓wp_bin, ↓wp_cmp, ↓wp_idx, ↓wp_neg, ↓wp_not, ↓wp_isi, ↓wp_tru, ↓wp_tand, ↓wp_tor, ↓wp_tnot, ↓wp_ite, ↓wp_and, ↓wp_or, ↓wp_lnil, ↓wp_lcons, ↓wp_peeks0, ↓wp_peeks1, ↓wp_blt, ↓wp_tup, ↓wp_lst, ↓wp_var, varK, ↓opd_dat, ↓opd_own, ↓opd_ext, ↓opd_loc, ↓peek_dat, ↓peek_loc, locK, ↓frz_dat, ↓frz_own, ↓frz_loc, frzK, ↓setv_dat, ↓setv_own, ↓setv_ext, ↓ret_dat, ↓ret_own, ↓ret_ext, ↓ret_loc, retK, ↓wp_call, callK, ↓argv_dat, ↓argv_own, ↓argv_ext, ↓argv_loc, argK, ↓wp_lend, lendK, solve_nil, solve_dat, solve_ext, solve_scr, ↓wp_slot, flowK, endK, ↓wp_chn, ↓wp_sli, setSlot, List.getElem?_cons_zero, List.getElem?_cons_succ, Option.join_some, Option.map_some, List.length_cons, List.length_nil, Nat.reduceAdd, Nat.reduceLT, List.set_cons_zero, List.set_cons_succ, true_and, and_true, ↓wp_ifb, ↓wp_dct, ↓wp_lkv, ↓wp_sls, slsK, ↓wp_rev, ↓wp_asg, ↓wp_dot, ↓wp_join, ↓wp_app, ↓wp_pop1, true_implies, false_implies, Bool.true_eq_false, Bool.false_eq_true, and_self, List.any_cons, List.any_nil, Bool.or_false, tru_bool, tru_int, tru_none, tru_list, tru_tup, ty1, ty2, ty3, ty4, ty5, ty6, ty7, ty8, Bool.not_true, Bool.not_false, gCmp, gIdx, gNeg, cmp_gt, cmp_lt, cmp_ge, cmp_le, cmp_eqi, sli_tup, sli_list, rev_tup, add_tup, add_list, add_str, add_int, sub_int, ↓wp_ointg, ointK, popJ, ↓wp_chkl, chkK, ↓wp_putl, putK, putO_ite, putO_some, appF, ↓len_list, ↓len_tup, decide_eq_true_eq, decide_eq_false_iff_not, sz, Nat.reduceLeDiff]
    exact ⟨hl _ hn, rfl, rfl⟩
  · rw [fm_map, List.length_map, List.length_map]
    exact Nat.le_trans cut_len (hl _ hn)
  · obtain ⟨x, hx, rfl⟩ := List.mem_map.mp hd
    simp only [↓wp_then, ↓wp_exp, ↓wp_set, ↓wp_kite, ↓wp_kret, ↓wp_sti, ↓wp_par, ↓wp_bind, ↓wp_ret, ↓wp_optS, ↓wp_optI, ↓wp_opd, ↓wp_frz, ↓wp_two, ↓wp_one, ↓wp_bin, ↓wp_cmp, ↓wp_idx, ↓wp_neg, ↓wp_not, ↓wp_isi, ↓wp_tru, ↓wp_tand, ↓wp_tor, ↓wp_tnot, ↓wp_ite, ↓wp_and, ↓wp_or, ↓wp_lnil, ↓wp_lcons, ↓wp_peeks0, ↓wp_peeks1, ↓wp_blt, ↓wp_tup, ↓wp_lst, ↓wp_var, varK, ↓opd_dat, ↓opd_own, ↓opd_ext, ↓opd_loc, ↓peek_dat, ↓peek_loc, locK, ↓frz_dat, ↓frz_own, ↓frz_loc, frzK, ↓setv_dat, ↓setv_own, ↓setv_ext, ↓ret_dat, ↓ret_own, ↓ret_ext, ↓ret_loc, retK, ↓wp_call, callK, ↓argv_dat, ↓argv_own, ↓argv_ext, ↓argv_loc, argK, ↓wp_lend, lendK, solve_nil, solve_dat, solve_ext, solve_scr, ↓wp_slot, flowK, endK, ↓wp_chn, ↓wp_sli, setSlot, List.getElem?_cons_zero, List.getElem?_cons_succ, Option.join_some, Option.map_some, List.length_cons, List.length_nil, Nat.reduceAdd, Nat.reduceLT, List.set_cons_zero, List.set_cons_succ, true_and, and_true, ↓wp_ifb, ↓wp_dct, ↓wp_lkv, ↓wp_sls, slsK, ↓wp_rev, ↓wp_asg, ↓wp_dot, ↓wp_join, ↓wp_app, ↓wp_pop1, true_implies, false_implies, Bool.true_eq_false, Bool.false_eq_true, and_self, List.any_cons, List.any_nil, Bool.or_false, tru_bool, tru_int, tru_none, tru_list, tru_tup, ty1, ty2, ty3, ty4, ty5, ty6, ty7, ty8, Bool.not_true, Bool.not_false, gCmp, gIdx, gNeg, cmp_gt, cmp_lt, cmp_ge, cmp_le, cmp_eqi, sli_tup, sli_list, rev_tup, add_tup, add_list, add_str, add_int, sub_int, ↓wp_ointg, ointK, popJ, ↓wp_chkl, chkK, ↓wp_putl, putK, putO_ite, putO_some, appF, ↓len_list, ↓len_tup, decide_eq_true_eq, decide_eq_false_iff_not, sz, Nat.reduceLeDiff, bltD, true_implies, Bool.true_eq_false, false_implies, and_self]
end
end Ded.DM
end

section
set_option linter.all false
set_option maxRecDepth 100000
set_option maxHeartbeats 4000000
namespace Ded.DM
open PySem Ded.P
section
variable {L n : Nat} {d : D} {μ : List D} {K : Val → List D → Prop}
/-- odd values -/
def Odd' (d : D) : Prop := goodB d = true ∧ atB d = true
theorem ten59 : (0 ≤ (59 : Int) ∧ (59 : Int) ≤ 1000000 ∧ (10 : Int).natAbs < 2 ^ 64) := by decide
theorem t12 (hf : Fd μ) (h : ∀ d μ', Odd' d → Fd μ' → K (.dat d) μ') : wpc (callD Ds L (n + 3) 12 [.ext 0] μ) K := by
  refine wpc_call (d := d__law_strange) rfl rfl ?_
  simp only [d__law_strange, List.map, List.replicate, Nat.sub, run, den, Den.ex, Den.no, List.cons_append, List.nil_append, ↓wp_then, ↓wp_exp, ↓wp_set, ↓wp_kite, ↓wp_kret, ↓wp_sti, ↓wp_par, ↓wp_bind, ↓wp_ret, ↓wp_optS, ↓wp_optI, ↓wp_opd, ↓wp_frz, ↓wp_two, ↓wp_one, ↓wp_bin, ↓wp_cmp, ↓wp_idx, ↓wp_neg, ↓wp_not, ↓wp_isi, ↓wp_tru, ↓wp_tand, ↓wp_tor, ↓wp_tnot, ↓wp_ite, ↓wp_and, ↓wp_or, ↓wp_lnil, ↓wp_lcons, ↓wp_peeks0, ↓wp_peeks1, ↓wp_blt, ↓wp_tup, ↓wp_lst, ↓wp_var, varK, ↓opd_dat, ↓opd_own, ↓opd_ext, ↓opd_loc, ↓peek_dat, ↓peek_loc, locK, ↓frz_dat, ↓frz_own, ↓frz_loc, frzK, ↓setv_dat, ↓setv_own, ↓setv_ext, ↓ret_dat, ↓ret_own, ↓ret_ext, ↓ret_loc, retK, ↓wp_call, callK, ↓argv_dat, ↓argv_own, ↓argv_ext, ↓argv_loc, argK, ↓wp_lend, lendK, solve_nil, solve_dat, solve_ext, solve_scr, ↓wp_slot, flowK, endK, ↓wp_chn, ↓wp_sli, setSlot, List.getElem?_cons_zero, List.getElem?_cons_succ, Option.join_some, Option.map_some, List.length_cons, List.length_nil, Nat.reduceAdd, Nat.reduceLT, List.set_cons_zero, List.set_cons_succ, true_and, and_true, ↓wp_ifb, ↓wp_dct, ↓wp_lkv, ↓wp_sls, slsK, ↓wp_rev, ↓wp_asg, ↓wp_dot, ↓wp_join, ↓wp_app, ↓wp_pop1, true_implies, false_implies, Bool.true_eq_false, Bool.false_eq_true, and_self, List.any_cons, List.any_nil, Bool.or_false, tru_bool, tru_int, tru_none, tru_list, tru_tup, ty1, ty2, ty3, ty4, ty5, ty6, ty7, ty8, Bool.not_true, Bool.not_false, gCmp, gIdx, gNeg, cmp_gt, cmp_lt, cmp_ge, cmp_le, cmp_eqi, sli_tup, sli_list, rev_tup, add_tup, add_list, add_str, add_int, sub_int, ↓wp_ointg, ointK, popJ, ↓wp_chkl, chkK, ↓wp_putl, putK, putO_ite, putO_some, appF, ↓len_list, ↓len_tup, decide_eq_true_eq, decide_eq_false_iff_not, sz, Nat.reduceLeDiff, binD, ten59]
  refine t7 (by simp only [List.length_cons]; omega) (by simp only [List.length_cons, List.length_nil]; omega) hf fun d hd μ' hf' => ?_
  simp only [↓wp_then, ↓wp_exp, ↓wp_set, ↓wp_kite, ↓wp_kret, ↓wp_sti, ↓wp_par, ↓wp_bind, ↓wp_ret, ↓wp_optS, ↓wp_optI, ↓wp_opd, ↓wp_frz, ↓wp_two, ↓wp_one, ↓wp_bin, ↓wp_cmp, ↓wp_idx, ↓wp_neg, ↓wp_not, ↓wp_isi, ↓wp_tru, ↓wp_tand, ↓wp_tor, ↓wp_tnot, ↓wp_ite, ↓wp_and, ↓wp_or, ↓wp_lnil, ↓wp_lcons, ↓wp_peeks0, ↓wp_peeks1, ↓wp_blt, ↓wp_tup, ↓wp_lst, ↓wp_var, varK, ↓opd_dat, ↓opd_own, ↓opd_ext, ↓opd_loc, ↓peek_dat, ↓peek_loc, locK, ↓frz_dat, ↓frz_own, ↓frz_loc, frzK, ↓setv_dat, ↓setv_own, ↓setv_ext, ↓ret_dat, ↓ret_own, ↓ret_ext, ↓ret_loc, retK, ↓wp_call, callK, ↓argv_dat, ↓argv_own, ↓argv_ext, ↓argv_loc, argK, ↓wp_lend, lendK, solve_nil, solve_dat, solve_ext, solve_scr, ↓wp_slot, flowK, endK, ↓wp_chn, ↓wp_sli, setSlot, List.getElem?_cons_zero, List.getElem?_cons_succ, Option.join_some, Option.map_some, List.length_cons, List.length_nil, Nat.reduceAdd, Nat.reduceLT, List.set_cons_zero, List.set_cons_succ, true_and, and_true, ↓wp_ifb, ↓wp_dct, ↓wp_lkv, ↓wp_sls, slsK, ↓wp_rev, ↓wp_asg, ↓wp_dot, ↓wp_join, ↓wp_app, ↓wp_pop1, true_implies, false_implies, Bool.true_eq_false, Bool.false_eq_true, and_self, List.any_cons, List.any_nil, Bool.or_false, tru_bool, tru_int, tru_none, tru_list, tru_tup, ty1, ty2, ty3, ty4, ty5, ty6, ty7, ty8, Bool.not_true, Bool.not_false, gCmp, gIdx, gNeg, cmp_gt, cmp_lt, cmp_ge, cmp_le, cmp_eqi, sli_tup, sli_list, rev_tup, add_tup, add_list, add_str, add_int, sub_int, ↓wp_ointg, ointK, popJ, ↓wp_chkl, chkK, ↓wp_putl, putK, putO_ite, putO_some, appF, ↓len_list, ↓len_tup, decide_eq_true_eq, decide_eq_false_iff_not, sz, Nat.reduceLeDiff]
  refine h d μ' ?_ hf'
  have e := (List.all_eq_true (p := fun d => goodB d && atB d)).mp ?_ d hd
  · rw [Bool.and_eq_true] at e
    exact e
  · decide +kernel
theorem size_add {a b : Nat} (h1 : a ≤ 1000) (h2 : b ≤ 1000) : a + b ≤ sizeLine := by rw [sizeLine_eq']; omega
/-- a text spoilt: an odd value -/
theorem t13s {x : Str} (hf : Fd μ) (h : ∀ d μ', Odd' d → Fd μ' → K (.dat d) μ') : wpc (callD Ds L (n + 4) 13 [.ext 0, .dat (.str x)] μ) K := by
  refine wpc_call (d := d__law_spoilt) rfl rfl ?_
  simp only [d__law_spoilt, List.map, List.replicate, Nat.sub, run, den, Den.ex, Den.no, List.cons_append, List.nil_append, ↓wp_then, ↓wp_exp, ↓wp_set, ↓wp_kite, ↓wp_kret, ↓wp_sti, ↓wp_par, ↓wp_bind, ↓wp_ret, ↓wp_optS, ↓wp_optI, ↓wp_opd, ↓wp_frz, ↓wp_two, ↓wp_one, ↓wp_bin, ↓wp_cmp, ↓wp_idx, ↓wp_neg, ↓wp_not, ↓wp_isi, ↓wp_tru, ↓wp_tand, ↓wp_tor, ↓wp_tnot, ↓wp_ite, ↓wp_and, ↓wp_or, ↓wp_lnil, ↓wp_lcons, ↓wp_peeks0, ↓wp_peeks1, ↓wp_blt, ↓wp_tup, ↓wp_lst, ↓wp_var, varK, ↓opd_dat, ↓opd_own, ↓opd_ext, ↓opd_loc, ↓peek_dat, ↓peek_loc, locK, ↓frz_dat, ↓frz_own, ↓frz_loc, frzK, ↓setv_dat, ↓setv_own, ↓setv_ext, ↓ret_dat, ↓ret_own, ↓ret_ext, ↓ret_loc, retK, ↓wp_call, callK, ↓argv_dat, ↓argv_own, ↓argv_ext, ↓argv_loc, argK, ↓wp_lend, lendK, solve_nil, solve_dat, solve_ext, solve_scr, ↓wp_slot, flowK, endK, ↓wp_chn, ↓wp_sli, setSlot, List.getElem?_cons_zero, List.getElem?_cons_succ, Option.join_some, Option.map_some, List.length_cons, List.length_nil, Nat.reduceAdd, Nat.reduceLT, List.set_cons_zero, List.set_cons_succ, true_and, and_true, ↓wp_ifb, ↓wp_dct, ↓wp_lkv, ↓wp_sls, slsK, ↓wp_rev, ↓wp_asg, ↓wp_dot, ↓wp_join, ↓wp_app, ↓wp_pop1, true_implies, false_implies, Bool.true_eq_false, Bool.false_eq_true, and_self, List.any_cons, List.any_nil, Bool.or_false, tru_bool, tru_int, tru_none, tru_list, tru_tup, ty1, ty2, ty3, ty4, ty5, ty6, ty7, ty8, Bool.not_true, Bool.not_false, gCmp, gIdx, gNeg, cmp_gt, cmp_lt, cmp_ge, cmp_le, cmp_eqi, sli_tup, sli_list, rev_tup, add_tup, add_list, add_str, add_int, sub_int, ↓wp_ointg, ointK, popJ, ↓wp_chkl, chkK, ↓wp_putl, putK, putO_ite, putO_some, appF, ↓len_list, ↓len_tup, decide_eq_true_eq, decide_eq_false_iff_not, sz, Nat.reduceLeDiff]
  refine t6 (by decide) (by decide) hf fun r μ1 _ _ hf1 => ?_
  simp only [↓wp_then, ↓wp_exp, ↓wp_set, ↓wp_kite, ↓wp_kret, ↓wp_sti, ↓wp_par, ↓wp_bind, ↓wp_ret, ↓wp_optS, ↓wp_optI, ↓wp_opd, ↓wp_frz, ↓wp_two, ↓wp_one, ↓wp_bin, ↓wp_cmp, ↓wp_idx, ↓wp_neg, ↓wp_not, ↓wp_isi, ↓wp_tru, ↓wp_tand, ↓wp_tor, ↓wp_tnot, ↓wp_ite, ↓wp_and, ↓wp_or, ↓wp_lnil, ↓wp_lcons, ↓wp_peeks0, ↓wp_peeks1, ↓wp_blt, ↓wp_tup, ↓wp_lst, ↓wp_var, varK, ↓opd_dat, ↓opd_own, ↓opd_ext, ↓opd_loc, ↓peek_dat, ↓peek_loc, locK, ↓frz_dat, ↓frz_own, ↓frz_loc, frzK, ↓setv_dat, ↓setv_own, ↓setv_ext, ↓ret_dat, ↓ret_own, ↓ret_ext, ↓ret_loc, retK, ↓wp_call, callK, ↓argv_dat, ↓argv_own, ↓argv_ext, ↓argv_loc, argK, ↓wp_lend, lendK, solve_nil, solve_dat, solve_ext, solve_scr, ↓wp_slot, flowK, endK, ↓wp_chn, ↓wp_sli, setSlot, List.getElem?_cons_zero, List.getElem?_cons_succ, Option.join_some, Option.map_some, List.length_cons, List.length_nil, Nat.reduceAdd, Nat.reduceLT, List.set_cons_zero, List.set_cons_succ, true_and, and_true, ↓wp_ifb, ↓wp_dct, ↓wp_lkv, ↓wp_sls, slsK, ↓wp_rev, ↓wp_asg, ↓wp_dot, ↓wp_join, ↓wp_app, ↓wp_pop1, true_implies, false_implies, Bool.true_eq_false, Bool.false_eq_true, and_self, List.any_cons, List.any_nil, Bool.or_false, tru_bool, tru_int, tru_none, tru_list, tru_tup, ty1, ty2, ty3, ty4, ty5, ty6, ty7, ty8, Bool.not_true, Bool.not_false, gCmp, gIdx, gNeg, cmp_gt, cmp_lt, cmp_ge, cmp_le, cmp_eqi, sli_tup, sli_list, rev_tup, add_tup, add_list, add_str, add_int, sub_int, ↓wp_ointg, ointK, popJ, ↓wp_chkl, chkK, ↓wp_putl, putK, putO_ite, putO_some, appF, ↓len_list, ↓len_tup, decide_eq_true_eq, decide_eq_false_iff_not, sz, Nat.reduceLeDiff]
  refine t12 hf1 fun d μ2 hd hf2 => ?_
  simp only [↓wp_then, ↓wp_exp, ↓wp_set, ↓wp_kite, ↓wp_kret, ↓wp_sti, ↓wp_par, ↓wp_bind, ↓wp_ret, ↓wp_optS, ↓wp_optI, ↓wp_opd, ↓wp_frz, ↓wp_two, ↓wp_one, ↓wp_bin, ↓wp_cmp, ↓wp_idx, ↓wp_neg, ↓wp_not, ↓wp_isi, ↓wp_tru, ↓wp_tand, ↓wp_tor, ↓wp_tnot, ↓wp_ite, ↓wp_and, ↓wp_or, ↓wp_lnil, ↓wp_lcons, ↓wp_peeks0, ↓wp_peeks1, ↓wp_blt, ↓wp_tup, ↓wp_lst, ↓wp_var, varK, ↓opd_dat, ↓opd_own, ↓opd_ext, ↓opd_loc, ↓peek_dat, ↓peek_loc, locK, ↓frz_dat, ↓frz_own, ↓frz_loc, frzK, ↓setv_dat, ↓setv_own, ↓setv_ext, ↓ret_dat, ↓ret_own, ↓ret_ext, ↓ret_loc, retK, ↓wp_call, callK, ↓argv_dat, ↓argv_own, ↓argv_ext, ↓argv_loc, argK, ↓wp_lend, lendK, solve_nil, solve_dat, solve_ext, solve_scr, ↓wp_slot, flowK, endK, ↓wp_chn, ↓wp_sli, setSlot, List.getElem?_cons_zero, List.getElem?_cons_succ, Option.join_some, Option.map_some, List.length_cons, List.length_nil, Nat.reduceAdd, Nat.reduceLT, List.set_cons_zero, List.set_cons_succ, true_and, and_true, ↓wp_ifb, ↓wp_dct, ↓wp_lkv, ↓wp_sls, slsK, ↓wp_rev, ↓wp_asg, ↓wp_dot, ↓wp_join, ↓wp_app, ↓wp_pop1, true_implies, false_implies, Bool.true_eq_false, Bool.false_eq_true, and_self, List.any_cons, List.any_nil, Bool.or_false, tru_bool, tru_int, tru_none, tru_list, tru_tup, ty1, ty2, ty3, ty4, ty5, ty6, ty7, ty8, Bool.not_true, Bool.not_false, gCmp, gIdx, gNeg, cmp_gt, cmp_lt, cmp_ge, cmp_le, cmp_eqi, sli_tup, sli_list, rev_tup, add_tup, add_list, add_str, add_int, sub_int, ↓wp_ointg, ointK, popJ, ↓wp_chkl, chkK, ↓wp_putl, putK, putO_ite, putO_some, appF, ↓len_list, ↓len_tup, decide_eq_true_eq, decide_eq_false_iff_not, sz, Nat.reduceLeDiff]
  exact h d μ2 hd hf2
def Names' (xs : List D) : Prop := ∀ d ∈ xs, ∃ x, d = .str x ∧ Nm x
def MidP (xs : List D) (f : Flow) (t : S) : Prop := (f = .nx ∧ t.ρ = [some (.ext 0), some (.dat (.tuple xs)), none, none, none, none] ∧ Fd t.μ) ∨ ∃ d, f = .rt (.dat d) ∧ Good d ∧ Fd t.μ
theorem t13t {xs : List D} (hx : Names' xs) (hl : xs.length ≤ 30) (hf : Fd μ) (h : ∀ d μ', Good d → Fd μ' → K (.dat d) μ' ∧ K (.own d) μ') : wpc (callD Ds L (n + 5) 13 [.ext 0, .dat (.tuple xs)] μ) K := by
  have hxa : ∀ y ∈ xs, At y := fun y hy => by
    obtain ⟨x, rfl, hn⟩ := hx y hy
    exact nm_at hn
  refine wpc_call (d := d__law_spoilt) rfl rfl ?_
  simp only [d__law_spoilt, run, List.map, List.replicate, Nat.reduceSub, List.length_cons, List.length_nil, Nat.reduceAdd, List.cons_append, List.nil_append]
  rw [wp_then]
  refine wp_mono (P := MidP xs) ?_ ?_
  · simp only [run, den, Den.ex, Den.no, ↓wp_then, ↓wp_exp, ↓wp_set, ↓wp_kite, ↓wp_kret, ↓wp_sti, ↓wp_par, ↓wp_bind, ↓wp_ret, ↓wp_optS, ↓wp_optI, ↓wp_opd, ↓wp_frz, ↓wp_two, ↓wp_one, ↓wp_bin, ↓wp_cmp, ↓wp_idx, ↓wp_neg, ↓wp_not, ↓wp_isi, ↓wp_tru, ↓wp_tand, ↓wp_tor, ↓wp_tnot, ↓wp_ite, ↓wp_and, ↓wp_or, ↓wp_lnil, ↓wp_lcons, ↓wp_peeks0, ↓wp_peeks1, ↓wp_blt, ↓wp_tup, ↓wp_lst, ↓wp_var, varK, ↓opd_dat, ↓opd_own, ↓opd_ext, ↓opd_loc, ↓peek_dat, ↓peek_loc, locK, ↓frz_dat, ↓frz_own, ↓frz_loc, frzK, ↓setv_dat, ↓setv_own, ↓setv_ext, ↓ret_dat, ↓ret_own, ↓ret_ext, ↓ret_loc, retK, ↓wp_call, callK, ↓argv_dat, ↓argv_own, ↓argv_ext, ↓argv_loc, argK, ↓wp_lend, lendK, solve_nil, solve_dat, solve_ext, solve_scr, ↓wp_slot, flowK, endK, ↓wp_chn, ↓wp_sli, setSlot, List.getElem?_cons_zero, List.getElem?_cons_succ, Option.join_some, Option.map_some, List.length_cons, List.length_nil, Nat.reduceAdd, Nat.reduceLT, List.set_cons_zero, List.set_cons_succ, true_and, and_true, ↓wp_ifb, ↓wp_dct, ↓wp_lkv, ↓wp_sls, slsK, ↓wp_rev, ↓wp_asg, ↓wp_dot, ↓wp_join, ↓wp_app, ↓wp_pop1, true_implies, false_implies, Bool.true_eq_false, Bool.false_eq_true, and_self, List.any_cons, List.any_nil, Bool.or_false, tru_bool, tru_int, tru_none, tru_list, tru_tup, ty1, ty2, ty3, ty4, ty5, ty6, ty7, ty8, Bool.not_true, Bool.not_false, gCmp, gIdx, gNeg, cmp_gt, cmp_lt, cmp_ge, cmp_le, cmp_eqi, sli_tup, sli_list, rev_tup, add_tup, add_list, add_str, add_int, sub_int, ↓wp_ointg, ointK, popJ, ↓wp_chkl, chkK, ↓wp_putl, putK, putO_ite, putO_some, appF, ↓len_list, ↓len_tup, decide_eq_true_eq, decide_eq_false_iff_not, sz, Nat.reduceLeDiff, cmp_gt]
    refine ⟨fun h0 => ?_, fun _ => .inl ⟨rfl, rfl, hf⟩⟩
    refine t6 (by decide) (by decide) hf fun r μ1 _ _ hf1 => ?_
    simp only [↓wp_then, ↓wp_exp, ↓wp_set, ↓wp_kite, ↓wp_kret, ↓wp_sti, ↓wp_par, ↓wp_bind, ↓wp_ret, ↓wp_optS, ↓wp_optI, ↓wp_opd, ↓wp_frz, ↓wp_two, ↓wp_one, ↓wp_bin, ↓wp_cmp, ↓wp_idx, ↓wp_neg, ↓wp_not, ↓wp_isi, ↓wp_tru, ↓wp_tand, ↓wp_tor, ↓wp_tnot, ↓wp_ite, ↓wp_and, ↓wp_or, ↓wp_lnil, ↓wp_lcons, ↓wp_peeks0, ↓wp_peeks1, ↓wp_blt, ↓wp_tup, ↓wp_lst, ↓wp_var, varK, ↓opd_dat, ↓opd_own, ↓opd_ext, ↓opd_loc, ↓peek_dat, ↓peek_loc, locK, ↓frz_dat, ↓frz_own, ↓frz_loc, frzK, ↓setv_dat, ↓setv_own, ↓setv_ext, ↓ret_dat, ↓ret_own, ↓ret_ext, ↓ret_loc, retK, ↓wp_call, callK, ↓argv_dat, ↓argv_own, ↓argv_ext, ↓argv_loc, argK, ↓wp_lend, lendK, solve_nil, solve_dat, solve_ext, solve_scr, ↓wp_slot, flowK, endK, ↓wp_chn, ↓wp_sli, setSlot, List.getElem?_cons_zero, List.getElem?_cons_succ, Option.join_some, Option.map_some, List.length_cons, List.length_nil, Nat.reduceAdd, Nat.reduceLT, List.set_cons_zero, List.set_cons_succ, true_and, and_true, ↓wp_ifb, ↓wp_dct, ↓wp_lkv, ↓wp_sls, slsK, ↓wp_rev, ↓wp_asg, ↓wp_dot, ↓wp_join, ↓wp_app, ↓wp_pop1, true_implies, false_implies, Bool.true_eq_false, Bool.false_eq_true, and_self, List.any_cons, List.any_nil, Bool.or_false, tru_bool, tru_int, tru_none, tru_list, tru_tup, ty1, ty2, ty3, ty4, ty5, ty6, ty7, ty8, Bool.not_true, Bool.not_false, gCmp, gIdx, gNeg, cmp_gt, cmp_lt, cmp_ge, cmp_le, cmp_eqi, sli_tup, sli_list, rev_tup, add_tup, add_list, add_str, add_int, sub_int, ↓wp_ointg, ointK, popJ, ↓wp_chkl, chkK, ↓wp_putl, putK, putO_ite, putO_some, appF, ↓len_list, ↓len_tup, decide_eq_true_eq, decide_eq_false_iff_not, sz, Nat.reduceLeDiff, cmp_gt]
    refine ⟨fun _ => ?_, fun _ => .inl ⟨rfl, rfl, hf1⟩⟩
    refine t6 h0 (by omega) hf1 fun k μ2 hk0 hk1 hf2 => ?_
    obtain ⟨e, he, hae⟩ := at_nat hk0 hk1
    simp only [↓wp_then, ↓wp_exp, ↓wp_set, ↓wp_kite, ↓wp_kret, ↓wp_sti, ↓wp_par, ↓wp_bind, ↓wp_ret, ↓wp_optS, ↓wp_optI, ↓wp_opd, ↓wp_frz, ↓wp_two, ↓wp_one, ↓wp_bin, ↓wp_cmp, ↓wp_idx, ↓wp_neg, ↓wp_not, ↓wp_isi, ↓wp_tru, ↓wp_tand, ↓wp_tor, ↓wp_tnot, ↓wp_ite, ↓wp_and, ↓wp_or, ↓wp_lnil, ↓wp_lcons, ↓wp_peeks0, ↓wp_peeks1, ↓wp_blt, ↓wp_tup, ↓wp_lst, ↓wp_var, varK, ↓opd_dat, ↓opd_own, ↓opd_ext, ↓opd_loc, ↓peek_dat, ↓peek_loc, locK, ↓frz_dat, ↓frz_own, ↓frz_loc, frzK, ↓setv_dat, ↓setv_own, ↓setv_ext, ↓ret_dat, ↓ret_own, ↓ret_ext, ↓ret_loc, retK, ↓wp_call, callK, ↓argv_dat, ↓argv_own, ↓argv_ext, ↓argv_loc, argK, ↓wp_lend, lendK, solve_nil, solve_dat, solve_ext, solve_scr, ↓wp_slot, flowK, endK, ↓wp_chn, ↓wp_sli, setSlot, List.getElem?_cons_zero, List.getElem?_cons_succ, Option.join_some, Option.map_some, List.length_cons, List.length_nil, Nat.reduceAdd, Nat.reduceLT, List.set_cons_zero, List.set_cons_succ, true_and, and_true, ↓wp_ifb, ↓wp_dct, ↓wp_lkv, ↓wp_sls, slsK, ↓wp_rev, ↓wp_asg, ↓wp_dot, ↓wp_join, ↓wp_app, ↓wp_pop1, true_implies, false_implies, Bool.true_eq_false, Bool.false_eq_true, and_self, List.any_cons, List.any_nil, Bool.or_false, tru_bool, tru_int, tru_none, tru_list, tru_tup, ty1, ty2, ty3, ty4, ty5, ty6, ty7, ty8, Bool.not_true, Bool.not_false, gCmp, gIdx, gNeg, cmp_gt, cmp_lt, cmp_ge, cmp_le, cmp_eqi, sli_tup, sli_list, rev_tup, add_tup, add_list, add_str, add_int, sub_int, ↓wp_ointg, ointK, popJ, ↓wp_chkl, chkK, ↓wp_putl, putK, putO_ite, putO_some, appF, ↓len_list, ↓len_tup, decide_eq_true_eq, decide_eq_false_iff_not, sz, Nat.reduceLeDiff, ↓idx_tup hae, sli_tup, add_tup, add_int]
    obtain ⟨x, rfl, hxn⟩ := hx e he
    refine t13s hf2 fun d μ3 hd hf3 => ?_
    have hc : ∀ lo hi, (cutL xs lo hi).length ≤ 30 := fun lo hi => Nat.le_trans cut_len hl
    have a1 : (cutL xs none (some k)).length + 1 ≤ sizeLine := by have := hc none (some k); rw [sizeLine_eq']; omega
    have a2 : (cutL xs none (some k) ++ [d]).length + (cutL xs (some (k + 1)) none).length ≤ sizeLine := by
      have := hc none (some k); have := hc (some (k + 1)) none
      rw [List.length_append, sizeLine_eq']
      simp only [List.length_cons, List.length_nil]
      omega
    simp only [↓wp_then, ↓wp_exp, ↓wp_set, ↓wp_kite, ↓wp_kret, ↓wp_sti, ↓wp_par, ↓wp_bind, ↓wp_ret, ↓wp_optS, ↓wp_optI, ↓wp_opd, ↓wp_frz, ↓wp_two, ↓wp_one, ↓wp_bin, ↓wp_cmp, ↓wp_idx, ↓wp_neg, ↓wp_not, ↓wp_isi, ↓wp_tru, ↓wp_tand, ↓wp_tor, ↓wp_tnot, ↓wp_ite, ↓wp_and, ↓wp_or, ↓wp_lnil, ↓wp_lcons, ↓wp_peeks0, ↓wp_peeks1, ↓wp_blt, ↓wp_tup, ↓wp_lst, ↓wp_var, varK, ↓opd_dat, ↓opd_own, ↓opd_ext, ↓opd_loc, ↓peek_dat, ↓peek_loc, locK, ↓frz_dat, ↓frz_own, ↓frz_loc, frzK, ↓setv_dat, ↓setv_own, ↓setv_ext, ↓ret_dat, ↓ret_own, ↓ret_ext, ↓ret_loc, retK, ↓wp_call, callK, ↓argv_dat, ↓argv_own, ↓argv_ext, ↓argv_loc, argK, ↓wp_lend, lendK, solve_nil, solve_dat, solve_ext, solve_scr, ↓wp_slot, flowK, endK, ↓wp_chn, ↓wp_sli, setSlot, List.getElem?_cons_zero, List.getElem?_cons_succ, Option.join_some, Option.map_some, List.length_cons, List.length_nil, Nat.reduceAdd, Nat.reduceLT, List.set_cons_zero, List.set_cons_succ, true_and, and_true, ↓wp_ifb, ↓wp_dct, ↓wp_lkv, ↓wp_sls, slsK, ↓wp_rev, ↓wp_asg, ↓wp_dot, ↓wp_join, ↓wp_app, ↓wp_pop1, true_implies, false_implies, Bool.true_eq_false, Bool.false_eq_true, and_self, List.any_cons, List.any_nil, Bool.or_false, tru_bool, tru_int, tru_none, tru_list, tru_tup, ty1, ty2, ty3, ty4, ty5, ty6, ty7, ty8, Bool.not_true, Bool.not_false, gCmp, gIdx, gNeg, cmp_gt, cmp_lt, cmp_ge, cmp_le, cmp_eqi, sli_tup, sli_list, rev_tup, add_tup, add_list, add_str, add_int, sub_int, ↓wp_ointg, ointK, popJ, ↓wp_chkl, chkK, ↓wp_putl, putK, putO_ite, putO_some, appF, ↓len_list, ↓len_tup, decide_eq_true_eq, decide_eq_false_iff_not, sz, Nat.reduceLeDiff, sli_tup, add_int, add_tup, a1, a2]
    refine .inr ⟨_, rfl, good_tuple ?_ ?_, hf3⟩
    · have := hc none (some k); have := hc (some (k + 1)) none
      simp only [List.length_append, List.length_cons, List.length_nil]
      omega
    · intro y hy
      rcases List.mem_append.mp hy with hy | hy
      · rcases List.mem_append.mp hy with hy | hy
        · exact hxa y (cut_mem hy)
        · rw [List.mem_singleton.mp hy]; exact at_of hd.2
      · exact hxa y (cut_mem hy)
  · rintro f ⟨ρ, μ'⟩ (⟨rfl, e, hf'⟩ | ⟨d, rfl, hd, hf'⟩)
    · dsimp only at e hf'
      subst e
      simp only [run, den, Den.ex, Den.no, ↓wp_then, ↓wp_exp, ↓wp_set, ↓wp_kite, ↓wp_kret, ↓wp_sti, ↓wp_par, ↓wp_bind, ↓wp_ret, ↓wp_optS, ↓wp_optI, ↓wp_opd, ↓wp_frz, ↓wp_two, ↓wp_one, ↓wp_bin, ↓wp_cmp, ↓wp_idx, ↓wp_neg, ↓wp_not, ↓wp_isi, ↓wp_tru, ↓wp_tand, ↓wp_tor, ↓wp_tnot, ↓wp_ite, ↓wp_and, ↓wp_or, ↓wp_lnil, ↓wp_lcons, ↓wp_peeks0, ↓wp_peeks1, ↓wp_blt, ↓wp_tup, ↓wp_lst, ↓wp_var, varK, ↓opd_dat, ↓opd_own, ↓opd_ext, ↓opd_loc, ↓peek_dat, ↓peek_loc, locK, ↓frz_dat, ↓frz_own, ↓frz_loc, frzK, ↓setv_dat, ↓setv_own, ↓setv_ext, ↓ret_dat, ↓ret_own, ↓ret_ext, ↓ret_loc, retK, ↓wp_call, callK, ↓argv_dat, ↓argv_own, ↓argv_ext, ↓argv_loc, argK, ↓wp_lend, lendK, solve_nil, solve_dat, solve_ext, solve_scr, ↓wp_slot, flowK, endK, ↓wp_chn, ↓wp_sli, setSlot, List.getElem?_cons_zero, List.getElem?_cons_succ, Option.join_some, Option.map_some, List.length_cons, List.length_nil, Nat.reduceAdd, Nat.reduceLT, List.set_cons_zero, List.set_cons_succ, true_and, and_true, ↓wp_ifb, ↓wp_dct, ↓wp_lkv, ↓wp_sls, slsK, ↓wp_rev, ↓wp_asg, ↓wp_dot, ↓wp_join, ↓wp_app, ↓wp_pop1, true_implies, false_implies, Bool.true_eq_false, Bool.false_eq_true, and_self, List.any_cons, List.any_nil, Bool.or_false, tru_bool, tru_int, tru_none, tru_list, tru_tup, ty1, ty2, ty3, ty4, ty5, ty6, ty7, ty8, Bool.not_true, Bool.not_false, gCmp, gIdx, gNeg, cmp_gt, cmp_lt, cmp_ge, cmp_le, cmp_eqi, sli_tup, sli_list, rev_tup, add_tup, add_list, add_str, add_int, sub_int, ↓wp_ointg, ointK, popJ, ↓wp_chkl, chkK, ↓wp_putl, putK, putO_ite, putO_some, appF, ↓len_list, ↓len_tup, decide_eq_true_eq, decide_eq_false_iff_not, sz, Nat.reduceLeDiff, sli_tup, add_tup, add_int, cmp_lt, cmp_eqi, rev_tup]
      refine t6 (by decide) (by decide) hf' fun r μ1 r0 r1 hf1 => ?_
      simp only [↓wp_then, ↓wp_exp, ↓wp_set, ↓wp_kite, ↓wp_kret, ↓wp_sti, ↓wp_par, ↓wp_bind, ↓wp_ret, ↓wp_optS, ↓wp_optI, ↓wp_opd, ↓wp_frz, ↓wp_two, ↓wp_one, ↓wp_bin, ↓wp_cmp, ↓wp_idx, ↓wp_neg, ↓wp_not, ↓wp_isi, ↓wp_tru, ↓wp_tand, ↓wp_tor, ↓wp_tnot, ↓wp_ite, ↓wp_and, ↓wp_or, ↓wp_lnil, ↓wp_lcons, ↓wp_peeks0, ↓wp_peeks1, ↓wp_blt, ↓wp_tup, ↓wp_lst, ↓wp_var, varK, ↓opd_dat, ↓opd_own, ↓opd_ext, ↓opd_loc, ↓peek_dat, ↓peek_loc, locK, ↓frz_dat, ↓frz_own, ↓frz_loc, frzK, ↓setv_dat, ↓setv_own, ↓setv_ext, ↓ret_dat, ↓ret_own, ↓ret_ext, ↓ret_loc, retK, ↓wp_call, callK, ↓argv_dat, ↓argv_own, ↓argv_ext, ↓argv_loc, argK, ↓wp_lend, lendK, solve_nil, solve_dat, solve_ext, solve_scr, ↓wp_slot, flowK, endK, ↓wp_chn, ↓wp_sli, setSlot, List.getElem?_cons_zero, List.getElem?_cons_succ, Option.join_some, Option.map_some, List.length_cons, List.length_nil, Nat.reduceAdd, Nat.reduceLT, List.set_cons_zero, List.set_cons_succ, true_and, and_true, ↓wp_ifb, ↓wp_dct, ↓wp_lkv, ↓wp_sls, slsK, ↓wp_rev, ↓wp_asg, ↓wp_dot, ↓wp_join, ↓wp_app, ↓wp_pop1, true_implies, false_implies, Bool.true_eq_false, Bool.false_eq_true, and_self, List.any_cons, List.any_nil, Bool.or_false, tru_bool, tru_int, tru_none, tru_list, tru_tup, ty1, ty2, ty3, ty4, ty5, ty6, ty7, ty8, Bool.not_true, Bool.not_false, gCmp, gIdx, gNeg, cmp_gt, cmp_lt, cmp_ge, cmp_le, cmp_eqi, sli_tup, sli_list, rev_tup, add_tup, add_list, add_str, add_int, sub_int, ↓wp_ointg, ointK, popJ, ↓wp_chkl, chkK, ↓wp_putl, putK, putO_ite, putO_some, appF, ↓len_list, ↓len_tup, decide_eq_true_eq, decide_eq_false_iff_not, sz, Nat.reduceLeDiff]
      refine t12 hf1 fun d μ2 hd hf2 => ?_
      simp only [↓wp_then, ↓wp_exp, ↓wp_set, ↓wp_kite, ↓wp_kret, ↓wp_sti, ↓wp_par, ↓wp_bind, ↓wp_ret, ↓wp_optS, ↓wp_optI, ↓wp_opd, ↓wp_frz, ↓wp_two, ↓wp_one, ↓wp_bin, ↓wp_cmp, ↓wp_idx, ↓wp_neg, ↓wp_not, ↓wp_isi, ↓wp_tru, ↓wp_tand, ↓wp_tor, ↓wp_tnot, ↓wp_ite, ↓wp_and, ↓wp_or, ↓wp_lnil, ↓wp_lcons, ↓wp_peeks0, ↓wp_peeks1, ↓wp_blt, ↓wp_tup, ↓wp_lst, ↓wp_var, varK, ↓opd_dat, ↓opd_own, ↓opd_ext, ↓opd_loc, ↓peek_dat, ↓peek_loc, locK, ↓frz_dat, ↓frz_own, ↓frz_loc, frzK, ↓setv_dat, ↓setv_own, ↓setv_ext, ↓ret_dat, ↓ret_own, ↓ret_ext, ↓ret_loc, retK, ↓wp_call, callK, ↓argv_dat, ↓argv_own, ↓argv_ext, ↓argv_loc, argK, ↓wp_lend, lendK, solve_nil, solve_dat, solve_ext, solve_scr, ↓wp_slot, flowK, endK, ↓wp_chn, ↓wp_sli, setSlot, List.getElem?_cons_zero, List.getElem?_cons_succ, Option.join_some, Option.map_some, List.length_cons, List.length_nil, Nat.reduceAdd, Nat.reduceLT, List.set_cons_zero, List.set_cons_succ, true_and, and_true, ↓wp_ifb, ↓wp_dct, ↓wp_lkv, ↓wp_sls, slsK, ↓wp_rev, ↓wp_asg, ↓wp_dot, ↓wp_join, ↓wp_app, ↓wp_pop1, true_implies, false_implies, Bool.true_eq_false, Bool.false_eq_true, and_self, List.any_cons, List.any_nil, Bool.or_false, tru_bool, tru_int, tru_none, tru_list, tru_tup, ty1, ty2, ty3, ty4, ty5, ty6, ty7, ty8, Bool.not_true, Bool.not_false, gCmp, gIdx, gNeg, cmp_gt, cmp_lt, cmp_ge, cmp_le, cmp_eqi, sli_tup, sli_list, rev_tup, add_tup, add_list, add_str, add_int, sub_int, ↓wp_ointg, ointK, popJ, ↓wp_chkl, chkK, ↓wp_putl, putK, putO_ite, putO_some, appF, ↓len_list, ↓len_tup, decide_eq_true_eq, decide_eq_false_iff_not, sz, Nat.reduceLeDiff, cmp_lt]
      refine ⟨fun r5 => ?_, fun _ => (h d μ2 (good_of hd.1) hf2).1⟩
      refine t6 (by omega) (by omega) hf2 fun k μ3 k0 k1 hf3 => ?_
      have hc : ∀ lo hi, (cutL xs lo hi).length ≤ 30 := fun lo hi => Nat.le_trans cut_len hl
      have hc2 : ∀ lo hi lo' hi', (cutL xs lo hi).length + (cutL xs lo' hi').length ≤ 1000 := fun lo hi lo' hi' => by
        have := hc lo hi; have := hc lo' hi'; omega
      have hc3 : ∀ lo hi, (cutL xs lo hi).length + 1 ≤ 1000 := fun lo hi => by
        have := hc lo hi; omega
      have hc4 : ∀ lo hi lo' hi' lo2 hi2, (cutL xs lo hi).length + (cutL xs lo' hi').length + (cutL xs lo2 hi2).length ≤ 1000 := fun lo hi lo' hi' lo2 hi2 => by
        have := hc lo hi; have := hc lo' hi'; have := hc lo2 hi2; omega
      have hc5 : ∀ lo hi lo' hi', (cutL xs lo hi).length + 1 + (cutL xs lo' hi').length ≤ 1000 := fun lo hi lo' hi' => by
        have := hc lo hi; have := hc lo' hi'; omega
      simp only [↓wp_then, ↓wp_exp, ↓wp_set, ↓wp_kite, ↓wp_kret, ↓wp_sti, ↓wp_par, ↓wp_bind, ↓wp_ret, ↓wp_optS, ↓wp_optI, ↓wp_opd, ↓wp_frz, ↓wp_two, ↓wp_one, ↓wp_bin, ↓wp_cmp, ↓wp_idx, ↓wp_neg, ↓wp_not, ↓wp_isi, ↓wp_tru, ↓wp_tand, ↓wp_tor, ↓wp_tnot, ↓wp_ite, ↓wp_and, ↓wp_or, ↓wp_lnil, ↓wp_lcons, ↓wp_peeks0, ↓wp_peeks1, ↓wp_blt, ↓wp_tup, ↓wp_lst, ↓wp_var, varK, ↓opd_dat, ↓opd_own, ↓opd_ext, ↓opd_loc, ↓peek_dat, ↓peek_loc, locK, ↓frz_dat, ↓frz_own, ↓frz_loc, frzK, ↓setv_dat, ↓setv_own, ↓setv_ext, ↓ret_dat, ↓ret_own, ↓ret_ext, ↓ret_loc, retK, ↓wp_call, callK, ↓argv_dat, ↓argv_own, ↓argv_ext, ↓argv_loc, argK, ↓wp_lend, lendK, solve_nil, solve_dat, solve_ext, solve_scr, ↓wp_slot, flowK, endK, ↓wp_chn, ↓wp_sli, setSlot, List.getElem?_cons_zero, List.getElem?_cons_succ, Option.join_some, Option.map_some, List.length_cons, List.length_nil, Nat.reduceAdd, Nat.reduceLT, List.set_cons_zero, List.set_cons_succ, true_and, and_true, ↓wp_ifb, ↓wp_dct, ↓wp_lkv, ↓wp_sls, slsK, ↓wp_rev, ↓wp_asg, ↓wp_dot, ↓wp_join, ↓wp_app, ↓wp_pop1, true_implies, false_implies, Bool.true_eq_false, Bool.false_eq_true, and_self, List.any_cons, List.any_nil, Bool.or_false, tru_bool, tru_int, tru_none, tru_list, tru_tup, ty1, ty2, ty3, ty4, ty5, ty6, ty7, ty8, Bool.not_true, Bool.not_false, gCmp, gIdx, gNeg, cmp_gt, cmp_lt, cmp_ge, cmp_le, cmp_eqi, sli_tup, sli_list, rev_tup, add_tup, add_list, add_str, add_int, sub_int, ↓wp_ointg, ointK, popJ, ↓wp_chkl, chkK, ↓wp_putl, putK, putO_ite, putO_some, appF, ↓len_list, ↓len_tup, decide_eq_true_eq, decide_eq_false_iff_not, sz, Nat.reduceLeDiff, sli_tup, add_int, add_tup, rev_tup, List.length_append, List.length_reverse, sz, hc2, hc3, hc4, hc5, cmp_eqi, Nat.reduceLT, Nat.zero_add]
      refine ⟨by decide, fun _ => ?_, fun h4 => ?_⟩
      · have e : bltD .list [.tuple xs] = some (.own (.list xs)) := rfl
        simp only [e, ↓wp_then, ↓wp_exp, ↓wp_set, ↓wp_kite, ↓wp_kret, ↓wp_sti, ↓wp_par, ↓wp_bind, ↓wp_ret, ↓wp_optS, ↓wp_optI, ↓wp_opd, ↓wp_frz, ↓wp_two, ↓wp_one, ↓wp_bin, ↓wp_cmp, ↓wp_idx, ↓wp_neg, ↓wp_not, ↓wp_isi, ↓wp_tru, ↓wp_tand, ↓wp_tor, ↓wp_tnot, ↓wp_ite, ↓wp_and, ↓wp_or, ↓wp_lnil, ↓wp_lcons, ↓wp_peeks0, ↓wp_peeks1, ↓wp_blt, ↓wp_tup, ↓wp_lst, ↓wp_var, varK, ↓opd_dat, ↓opd_own, ↓opd_ext, ↓opd_loc, ↓peek_dat, ↓peek_loc, locK, ↓frz_dat, ↓frz_own, ↓frz_loc, frzK, ↓setv_dat, ↓setv_own, ↓setv_ext, ↓ret_dat, ↓ret_own, ↓ret_ext, ↓ret_loc, retK, ↓wp_call, callK, ↓argv_dat, ↓argv_own, ↓argv_ext, ↓argv_loc, argK, ↓wp_lend, lendK, solve_nil, solve_dat, solve_ext, solve_scr, ↓wp_slot, flowK, endK, ↓wp_chn, ↓wp_sli, setSlot, List.getElem?_cons_zero, List.getElem?_cons_succ, Option.join_some, Option.map_some, List.length_cons, List.length_nil, Nat.reduceAdd, Nat.reduceLT, List.set_cons_zero, List.set_cons_succ, true_and, and_true, ↓wp_ifb, ↓wp_dct, ↓wp_lkv, ↓wp_sls, slsK, ↓wp_rev, ↓wp_asg, ↓wp_dot, ↓wp_join, ↓wp_app, ↓wp_pop1, true_implies, false_implies, Bool.true_eq_false, Bool.false_eq_true, and_self, List.any_cons, List.any_nil, Bool.or_false, tru_bool, tru_int, tru_none, tru_list, tru_tup, ty1, ty2, ty3, ty4, ty5, ty6, ty7, ty8, Bool.not_true, Bool.not_false, gCmp, gIdx, gNeg, cmp_gt, cmp_lt, cmp_ge, cmp_le, cmp_eqi, sli_tup, sli_list, rev_tup, add_tup, add_list, add_str, add_int, sub_int, ↓wp_ointg, ointK, popJ, ↓wp_chkl, chkK, ↓wp_putl, putK, putO_ite, putO_some, appF, ↓len_list, ↓len_tup, decide_eq_true_eq, decide_eq_false_iff_not, sz, Nat.reduceLeDiff]
        exact (h _ μ3 (good_list (by omega) hxa) hf3).2
      · obtain ⟨e, he, ha⟩ := at_nat (ds := [PyData.tuple (cutL xs none (some k) ++ cutL xs (some (k + 1)) none), PyData.tuple (cutL xs none (some k) ++ cutL xs (some k) (some (k + 1)) ++ cutL xs (some k) none), PyData.tuple (cutL xs none (some k) ++ [d] ++ cutL xs (some k) none)] ++ [PyData.tuple (cutL xs none (some k) ++ (cutL xs (some k) (some (k + 2))).reverse ++ cutL xs (some (k + 2)) none)]) (r := r) r0 (by simp only [List.length_append, List.length_cons, List.length_nil]; omega)
        simp only [↓idx_list ha, ↓wp_then, ↓wp_exp, ↓wp_set, ↓wp_kite, ↓wp_kret, ↓wp_sti, ↓wp_par, ↓wp_bind, ↓wp_ret, ↓wp_optS, ↓wp_optI, ↓wp_opd, ↓wp_frz, ↓wp_two, ↓wp_one, ↓wp_bin, ↓wp_cmp, ↓wp_idx, ↓wp_neg, ↓wp_not, ↓wp_isi, ↓wp_tru, ↓wp_tand, ↓wp_tor, ↓wp_tnot, ↓wp_ite, ↓wp_and, ↓wp_or, ↓wp_lnil, ↓wp_lcons, ↓wp_peeks0, ↓wp_peeks1, ↓wp_blt, ↓wp_tup, ↓wp_lst, ↓wp_var, varK, ↓opd_dat, ↓opd_own, ↓opd_ext, ↓opd_loc, ↓peek_dat, ↓peek_loc, locK, ↓frz_dat, ↓frz_own, ↓frz_loc, frzK, ↓setv_dat, ↓setv_own, ↓setv_ext, ↓ret_dat, ↓ret_own, ↓ret_ext, ↓ret_loc, retK, ↓wp_call, callK, ↓argv_dat, ↓argv_own, ↓argv_ext, ↓argv_loc, argK, ↓wp_lend, lendK, solve_nil, solve_dat, solve_ext, solve_scr, ↓wp_slot, flowK, endK, ↓wp_chn, ↓wp_sli, setSlot, List.getElem?_cons_zero, List.getElem?_cons_succ, Option.join_some, Option.map_some, List.length_cons, List.length_nil, Nat.reduceAdd, Nat.reduceLT, List.set_cons_zero, List.set_cons_succ, true_and, and_true, ↓wp_ifb, ↓wp_dct, ↓wp_lkv, ↓wp_sls, slsK, ↓wp_rev, ↓wp_asg, ↓wp_dot, ↓wp_join, ↓wp_app, ↓wp_pop1, true_implies, false_implies, Bool.true_eq_false, Bool.false_eq_true, and_self, List.any_cons, List.any_nil, Bool.or_false, tru_bool, tru_int, tru_none, tru_list, tru_tup, ty1, ty2, ty3, ty4, ty5, ty6, ty7, ty8, Bool.not_true, Bool.not_false, gCmp, gIdx, gNeg, cmp_gt, cmp_lt, cmp_ge, cmp_le, cmp_eqi, sli_tup, sli_list, rev_tup, add_tup, add_list, add_str, add_int, sub_int, ↓wp_ointg, ointK, popJ, ↓wp_chkl, chkK, ↓wp_putl, putK, putO_ite, putO_some, appF, ↓len_list, ↓len_tup, decide_eq_true_eq, decide_eq_false_iff_not, sz, Nat.reduceLeDiff]
        refine (h e μ3 ?_ hf3).1
        have hd2 := at_of hd.2
        simp only [List.cons_append, List.nil_append, List.mem_cons, List.not_mem_nil, or_false] at he
        have c1 := hc none (some k)
        have c2 := hc (some (k + 1)) none
        have c3 := hc (some k) (some (k + 1))
        have c4 := hc (some k) none
        have c5 := hc (some k) (some (k + 2))
        have c6 := hc (some (k + 2)) none
        rcases he with rfl | rfl | rfl | rfl
        · refine good_tuple (by rw [List.length_append]; omega) fun y hy => ?_
          rcases List.mem_append.mp hy with hy | hy <;> exact hxa y (cut_mem hy)
        · refine good_tuple (by rw [List.length_append, List.length_append]; omega) fun y hy => ?_
          rcases List.mem_append.mp hy with hy | hy
          · rcases List.mem_append.mp hy with hy | hy <;> exact hxa y (cut_mem hy)
          · exact hxa y (cut_mem hy)
        · refine good_tuple (by rw [List.length_append, List.length_append, List.length_singleton]; omega) fun y hy => ?_
          rcases List.mem_append.mp hy with hy | hy
          · rcases List.mem_append.mp hy with hy | hy
            · exact hxa y (cut_mem hy)
            · exact List.mem_singleton.mp hy ▸ hd2
          · exact hxa y (cut_mem hy)
        · refine good_tuple (by rw [List.length_append, List.length_append, List.length_reverse]; omega) fun y hy => ?_
          rcases List.mem_append.mp hy with hy | hy
          · rcases List.mem_append.mp hy with hy | hy
            · exact hxa y (cut_mem hy)
            · exact hxa y (cut_mem (List.mem_reverse.mp hy))
          · exact hxa y (cut_mem hy)
    · exact (h d _ hd hf').1
end
end Ded.DM
end

section
set_option linter.all false
set_option maxRecDepth 100000
set_option maxHeartbeats 400000
namespace Ded.DM
open PySem Ded.P
/-! drawn names -/
def Asc (x : Str) : Prop := ∀ c ∈ x.cps.toList, c < 128
def Nm8 (k : Nat) (d : D) : Prop := ∃ x, d = .str x ∧ x.length ≤ k ∧ Asc x
def nm8B (k : Nat) : D → Bool
  | .str x => decide (x.length ≤ k) && x.cps.toList.all fun c => decide (c < 128)
  | _ => false
theorem nm8_of {k : Nat} {d : D} (h : nm8B k d = true) : Nm8 k d := by
  cases d with
  | str x =>
    have h : (decide (x.length ≤ k) && x.cps.toList.all fun c => decide (c < 128)) = true := h
    rw [Bool.and_eq_true] at h
    exact ⟨x, rfl, of_decide_eq_true h.1, fun c hc => of_decide_eq_true (List.all_eq_true.mp h.2 c hc)⟩
  | _ => cases h
theorem asc_add {x y : Str} (hx : Asc x) (hy : Asc y) : Asc (x ++ y) := fun c hc => by
  have hc : c ∈ (x.cps ++ y.cps).toList := hc
  rw [Array.toList_append] at hc
  rcases List.mem_append.mp hc with h | h
  · exact hx c h
  · exact hy c h
theorem join_asc : ∀ ss : List Str, (∀ x ∈ ss, x.length ≤ 1 ∧ Asc x) → (Str.join (Str.ofString "") ss).length ≤ ss.length ∧ Asc (Str.join (Str.ofString "") ss)
  | [], _ => ⟨by decide, fun c hc => by cases hc⟩
  | [x], h => h x List.mem_cons_self
  | x :: y :: r, h => by
    obtain ⟨a, b⟩ := join_asc (y :: r) fun z hz => h z (List.mem_cons_of_mem _ hz)
    obtain ⟨c, e⟩ := h x List.mem_cons_self
    have e0 : (Str.ofString "").length = 0 := by decide
    refine ⟨?_, ?_⟩
    · show (x ++ Str.ofString "" ++ Str.join (Str.ofString "") (y :: r)).length ≤ _
      rw [strLen_append, strLen_append, e0]
      simp only [List.length_cons] at a ⊢
      omega
    · show Asc (x ++ Str.ofString "" ++ Str.join (Str.ofString "") (y :: r))
      exact asc_add (asc_add e fun c hc => by cases hc) b
theorem strs_of {P : Str → Prop} : ∀ {ys : List D}, (∀ y ∈ ys, ∃ x, y = .str x ∧ P x) → ∃ ss, strsOf ys = some ss ∧ ss.length = ys.length ∧ ∀ x ∈ ss, P x
  | [], _ => ⟨[], rfl, rfl, fun x hx => by cases hx⟩
  | y :: ys, h => by
    obtain ⟨ss, a, b, c⟩ := strs_of fun z hz => h z (List.mem_cons_of_mem _ hz)
    obtain ⟨x, rfl, hx⟩ := h y List.mem_cons_self
    refine ⟨x :: ss, ?_, by rw [List.length_cons, b, List.length_cons], fun z hz => ?_⟩
    · show (strsOf ys).map (x :: ·) = _
      rw [a]; rfl
    · rcases List.mem_cons.mp hz with e | e
      · exact e ▸ hx
      · exact c z e
section
variable {L n : Nat} {d : D} {μ : List D} {K : Val → List D → Prop}
structure Pool (xs : List D) : Prop where
  lo : 18 ≤ xs.length
  hi : xs.length ≤ 100
  all : ∀ d ∈ xs, Nm8 8 d
def PoolS (many st : Int) (s : S) : Prop := ∃ pool a7, s.ρ = [some (.ext 0), some (.dat (.int many)), some (.own (.list pool)), none, none, some (.dat (.int st)), some (.dat (.str LET)), a7, none, none] ∧ Pool pool ∧ Fd s.μ
theorem pool_cst {xs : List D} (h : (decide (18 ≤ xs.length) && decide (xs.length ≤ 100) && xs.all (nm8B 8)) = true) : Pool xs := by
  simp only [Bool.and_eq_true, decide_eq_true_eq] at h
  exact ⟨h.1.1, h.1.2, fun d hd => nm8_of (List.all_eq_true.mp h.2 d hd)⟩
theorem let_list : bltD .list [.str LET] = some (.own (.list (LET.cps.toList.map fun c => .str ⟨#[c]⟩))) := by
  show (if LET.length ≤ sizeLine then _ else none) = _
  rw [if_pos (by decide)]; rfl
theorem range_one {j : Int} {s : S} {W : List D → S → Prop} (h : fit62 j = true) : wp (M.opt (rangeD [.int j])) s W = W ((List.range j.toNat).map fun k => .int (k : Nat)) s := by
  have e : rangeD [.int j] = some ((List.range j.toNat).map fun k => .int (k : Nat)) := by
    unfold rangeD
    exact if_pos h
  rw [e, wp_optS]
theorem fit_small {j : Int} (h0 : 0 ≤ j) (h1 : j ≤ 1000) : fit62 j = true := by
  rw [fit62_iff]
  omega
theorem let_asc : ∀ c ∈ LET.cps.toList, c < 128 := by decide +kernel
theorem let_len : LET.cps.toList.length = 26 := by decide +kernel
theorem idx_let {r : Int} (h0 : 0 ≤ r) (h1 : r < 26) : ∃ c, c < 128 ∧ idxD (.str LET) (.int r) = some (.str ⟨#[c]⟩) := by
  obtain ⟨j, rfl⟩ := Int.eq_ofNat_of_zero_le h0
  have hj : j < LET.cps.toList.length := by rw [let_len]; omega
  refine ⟨LET.cps.toList[j], let_asc _ (List.getElem_mem _), ?_⟩
  show (if LET.length ≤ sizeLine then (L2.atI LET.cps.toList (j : Int)).map (fun c => PyData.str ⟨#[c]⟩) else none) = _
  rw [if_pos (by decide), L2.atI_nat (List.getElem?_eq_getElem hj)]
  rfl
theorem nm_sign {c : Nat} (h : c < 128) : Nm8 1 (.str ⟨#[c]⟩) := ⟨_, rfl, Nat.le_refl _, fun x hx => by
  have : x ∈ [c] := hx
  rw [List.mem_singleton.mp this]; exact h⟩
theorem str_items {x : Str} : itemsOf (.str x) = some (x.cps.toList.map fun c => .str ⟨#[c]⟩) := rfl
def glueTo (stem : Str) : D → Option D
  | .str s => some (.str (stem ++ s))
  | _ => none
theorem glue_all {stem : Str} {k : Nat} (hs : stem.length ≤ k) (ha : Asc stem) : ∀ (l : List Nat), (∀ c ∈ l, c < 128) → ((l.map fun c => PyData.str ⟨#[c]⟩).filterMap (glueTo stem)).length = l.length ∧ ∀ d ∈ (l.map fun c => PyData.str ⟨#[c]⟩).filterMap (glueTo stem), Nm8 (k + 1) d := fun l h => by
  have e : (l.map fun c => PyData.str ⟨#[c]⟩).filterMap (glueTo stem) = l.map fun c => PyData.str (stem ++ ⟨#[c]⟩) := by
    induction l with
    | nil => rfl
    | cons c l ih =>
      rw [List.map_cons, List.filterMap_cons]
      show PyData.str (stem ++ ⟨#[c]⟩) :: _ = _
      rw [ih fun x hx => h x (List.mem_cons_of_mem _ hx), List.map_cons]
  rw [e]
  refine ⟨List.length_map _, fun d hd => ?_⟩
  obtain ⟨c, hc, rfl⟩ := List.mem_map.mp hd
  refine ⟨_, rfl, ?_, asc_add ha fun x hx => ?_⟩
  · rw [strLen_append]
    show stem.length + 1 ≤ k + 1
    omega
  · have : x ∈ [c] := hx
    rw [List.mem_singleton.mp this]; exact h c hc
theorem asc_one {c : Nat} (h : c < 128) : Asc ⟨#[c]⟩ := fun x hx => by
  have : x ∈ [c] := hx
  rw [List.mem_singleton.mp this]; exact h
theorem cut8 : sliD (.str LET) none (some 8) = some (.dat (.str (Str.ofString "abcdefgh"))) := by rfl
theorem cut18 : sliD (.str LET) (some 18) none = some (.dat (.str (Str.ofString "stuvwxyz"))) := by rfl
abbrev St8 (many st : Int) (pool : List D) (a7 a8 : Option Val) : List (Option Val) := [some (.ext 0), some (.dat (.int many)), some (.own (.list pool)), none, none, some (.dat (.int st)), some (.dat (.str LET)), a7, a8, none]
abbrev St8' (x6 : Str) (many st : Int) (pool : List D) (a7 a8 : Option Val) : List (Option Val) := [some (.ext 0), some (.dat (.int many)), some (.own (.list pool)), none, none, some (.dat (.int st)), some (.dat (.str x6)), a7, a8, none]
theorem ab_asc : ∀ c ∈ (Str.ofString "abcdefgh").cps.toList, c < 128 := by decide +kernel
theorem st_asc : ∀ c ∈ (Str.ofString "stuvwxyz").cps.toList, c < 128 := by decide +kernel
theorem t8a' {x6 ab zz : Str} (c8 : sliD (.str x6) none (some 8) = some (.dat (.str ab))) (c18 : sliD (.str x6) (some 18) none = some (.dat (.str zz))) (e8 : ab.cps.toList.length = 8) (e9 : zz.cps.toList.length = 8) (aa : ∀ c ∈ ab.cps.toList, c < 128) (az : ∀ c ∈ zz.cps.toList, c < 128) {many st : Int} {pool : List D} {a7 : Option Val} (hp : Pool pool) (hf2 : Fd μ) : wp (kIte (den (callD Ds L (n + 2)) (.or (.cmp .gt (.var 1) (.blt .len (.cons (.var 2) .nil))) (.cmp .eq (.var 5) (.cst (.int 4))))).t (run (callD Ds L (n + 2)) L (.set 2 (.lst .nil) (.for_ (.var 8) (.sli (.var 6) .nil (.cst (.int 8))) (.set 2 (.bin .add (.var 2) (.lc (.bin .add (.var 8) (.var 9)) (.var 9) (.sli (.var 6) (.cst (.int 18)) .nil) .nil [9])) .nop) .nop))) (run (callD Ds L (n + 2)) L .nop)) ⟨St8' x6 many st pool a7 none, μ⟩ fun f s => f = .nx ∧ ∃ pool a7 a8, s.ρ = St8' x6 many st pool a7 a8 ∧ Pool pool ∧ Fd s.μ := by
  refine wp_ite_ (wp_mono (P := fun x s => s = ⟨St8' x6 many st pool a7 none, μ⟩) ?_ ?_)
  · simp only [den, Den.ex, Den.no, ↓wp_then, ↓wp_exp, ↓wp_set, ↓wp_kite, ↓wp_kret, ↓wp_sti, ↓wp_par, ↓wp_bind, ↓wp_ret, ↓wp_optS, ↓wp_optI, ↓wp_opd, ↓wp_frz, ↓wp_two, ↓wp_one, ↓wp_bin, ↓wp_cmp, ↓wp_idx, ↓wp_neg, ↓wp_not, ↓wp_isi, ↓wp_tru, ↓wp_tand, ↓wp_tor, ↓wp_tnot, ↓wp_ite, ↓wp_and, ↓wp_or, ↓wp_lnil, ↓wp_lcons, ↓wp_peeks0, ↓wp_peeks1, ↓wp_blt, ↓wp_tup, ↓wp_lst, ↓wp_var, varK, ↓opd_dat, ↓opd_own, ↓opd_ext, ↓opd_loc, ↓peek_dat, ↓peek_loc, locK, ↓frz_dat, ↓frz_own, ↓frz_loc, frzK, ↓setv_dat, ↓setv_own, ↓setv_ext, ↓ret_dat, ↓ret_own, ↓ret_ext, ↓ret_loc, retK, ↓wp_call, callK, ↓argv_dat, ↓argv_own, ↓argv_ext, ↓argv_loc, argK, ↓wp_lend, lendK, solve_nil, solve_dat, solve_ext, solve_scr, ↓wp_slot, flowK, endK, ↓wp_chn, ↓wp_sli, setSlot, List.getElem?_cons_zero, List.getElem?_cons_succ, Option.join_some, Option.map_some, List.length_cons, List.length_nil, Nat.reduceAdd, Nat.reduceLT, List.set_cons_zero, List.set_cons_succ, true_and, and_true, ↓wp_ifb, ↓wp_dct, ↓wp_lkv, ↓wp_sls, slsK, ↓wp_rev, ↓wp_asg, ↓wp_dot, ↓wp_join, ↓wp_app, ↓wp_pop1, true_implies, false_implies, Bool.true_eq_false, Bool.false_eq_true, and_self, List.any_cons, List.any_nil, Bool.or_false, tru_bool, tru_int, tru_none, tru_list, tru_tup, ty1, ty2, ty3, ty4, ty5, ty6, ty7, ty8, Bool.not_true, Bool.not_false, gCmp, gIdx, gNeg, cmp_gt, cmp_lt, cmp_ge, cmp_le, cmp_eqi, sli_tup, sli_list, rev_tup, add_tup, add_list, add_str, add_int, sub_int, ↓wp_ointg, ointK, popJ, ↓wp_chkl, chkK, ↓wp_putl, putK, putO_ite, putO_some, appF, ↓len_list, ↓len_tup, decide_eq_true_eq, decide_eq_false_iff_not, sz, Nat.reduceLeDiff]
    simp
  · rintro x t rfl
    refine ⟨fun _ => ?_, fun _ => by rw [run, wp_ret]; exact ⟨rfl, pool, a7, none, rfl, hp, hf2⟩⟩
    rw [run, ← wpI_eq]
    refine wpI_seq (I := fun s => s = ⟨St8' x6 many st [] a7 none, μ⟩) ?_ ?_
    · rw [wpI_eq]
      simp only [den, Den.ex, Den.no, ↓wp_then, ↓wp_exp, ↓wp_set, ↓wp_kite, ↓wp_kret, ↓wp_sti, ↓wp_par, ↓wp_bind, ↓wp_ret, ↓wp_optS, ↓wp_optI, ↓wp_opd, ↓wp_frz, ↓wp_two, ↓wp_one, ↓wp_bin, ↓wp_cmp, ↓wp_idx, ↓wp_neg, ↓wp_not, ↓wp_isi, ↓wp_tru, ↓wp_tand, ↓wp_tor, ↓wp_tnot, ↓wp_ite, ↓wp_and, ↓wp_or, ↓wp_lnil, ↓wp_lcons, ↓wp_peeks0, ↓wp_peeks1, ↓wp_blt, ↓wp_tup, ↓wp_lst, ↓wp_var, varK, ↓opd_dat, ↓opd_own, ↓opd_ext, ↓opd_loc, ↓peek_dat, ↓peek_loc, locK, ↓frz_dat, ↓frz_own, ↓frz_loc, frzK, ↓setv_dat, ↓setv_own, ↓setv_ext, ↓ret_dat, ↓ret_own, ↓ret_ext, ↓ret_loc, retK, ↓wp_call, callK, ↓argv_dat, ↓argv_own, ↓argv_ext, ↓argv_loc, argK, ↓wp_lend, lendK, solve_nil, solve_dat, solve_ext, solve_scr, ↓wp_slot, flowK, endK, ↓wp_chn, ↓wp_sli, setSlot, List.getElem?_cons_zero, List.getElem?_cons_succ, Option.join_some, Option.map_some, List.length_cons, List.length_nil, Nat.reduceAdd, Nat.reduceLT, List.set_cons_zero, List.set_cons_succ, true_and, and_true, ↓wp_ifb, ↓wp_dct, ↓wp_lkv, ↓wp_sls, slsK, ↓wp_rev, ↓wp_asg, ↓wp_dot, ↓wp_join, ↓wp_app, ↓wp_pop1, true_implies, false_implies, Bool.true_eq_false, Bool.false_eq_true, and_self, List.any_cons, List.any_nil, Bool.or_false, tru_bool, tru_int, tru_none, tru_list, tru_tup, ty1, ty2, ty3, ty4, ty5, ty6, ty7, ty8, Bool.not_true, Bool.not_false, gCmp, gIdx, gNeg, cmp_gt, cmp_lt, cmp_ge, cmp_le, cmp_eqi, sli_tup, sli_list, rev_tup, add_tup, add_list, add_str, add_int, sub_int, ↓wp_ointg, ointK, popJ, ↓wp_chkl, chkK, ↓wp_putl, putK, putO_ite, putO_some, appF, ↓len_list, ↓len_tup, decide_eq_true_eq, decide_eq_false_iff_not, sz, Nat.reduceLeDiff]
    rintro t rfl
    rw [wpI_eq]
    rw [run, wp_then, wp_kfor_]
    simp only [run, den, Den.ex, Den.no, ↓wp_wof, ↓wp_then, ↓wp_exp, ↓wp_set, ↓wp_kite, ↓wp_kret, ↓wp_sti, ↓wp_par, ↓wp_bind, ↓wp_ret, ↓wp_optS, ↓wp_optI, ↓wp_opd, ↓wp_frz, ↓wp_two, ↓wp_one, ↓wp_bin, ↓wp_cmp, ↓wp_idx, ↓wp_neg, ↓wp_not, ↓wp_isi, ↓wp_tru, ↓wp_tand, ↓wp_tor, ↓wp_tnot, ↓wp_ite, ↓wp_and, ↓wp_or, ↓wp_lnil, ↓wp_lcons, ↓wp_peeks0, ↓wp_peeks1, ↓wp_blt, ↓wp_tup, ↓wp_lst, ↓wp_var, varK, ↓opd_dat, ↓opd_own, ↓opd_ext, ↓opd_loc, ↓peek_dat, ↓peek_loc, locK, ↓frz_dat, ↓frz_own, ↓frz_loc, frzK, ↓setv_dat, ↓setv_own, ↓setv_ext, ↓ret_dat, ↓ret_own, ↓ret_ext, ↓ret_loc, retK, ↓wp_call, callK, ↓argv_dat, ↓argv_own, ↓argv_ext, ↓argv_loc, argK, ↓wp_lend, lendK, solve_nil, solve_dat, solve_ext, solve_scr, ↓wp_slot, flowK, endK, ↓wp_chn, ↓wp_sli, setSlot, List.getElem?_cons_zero, List.getElem?_cons_succ, Option.join_some, Option.map_some, List.length_cons, List.length_nil, Nat.reduceAdd, Nat.reduceLT, List.set_cons_zero, List.set_cons_succ, true_and, and_true, ↓wp_ifb, ↓wp_dct, ↓wp_lkv, ↓wp_sls, slsK, ↓wp_rev, ↓wp_asg, ↓wp_dot, ↓wp_join, ↓wp_app, ↓wp_pop1, true_implies, false_implies, Bool.true_eq_false, Bool.false_eq_true, and_self, List.any_cons, List.any_nil, Bool.or_false, tru_bool, tru_int, tru_none, tru_list, tru_tup, ty1, ty2, ty3, ty4, ty5, ty6, ty7, ty8, Bool.not_true, Bool.not_false, gCmp, gIdx, gNeg, cmp_gt, cmp_lt, cmp_ge, cmp_le, cmp_eqi, sli_tup, sli_list, rev_tup, add_tup, add_list, add_str, add_int, sub_int, ↓wp_ointg, ointK, popJ, ↓wp_chkl, chkK, ↓wp_putl, putK, putO_ite, putO_some, appF, ↓len_list, ↓len_tup, decide_eq_true_eq, decide_eq_false_iff_not, sz, Nat.reduceLeDiff, c8, str_items]
    rw [← wpI_eq]
    refine wpI_mono (wpI_for_b (k := 0) (I := fun k s => ∃ pool a8, s.ρ = St8' x6 many st pool a7 a8 ∧ pool.length = 8 * k ∧ (∀ d ∈ pool, Nm8 8 d) ∧ Fd s.μ) ⟨[], none, rfl, rfl, fun d hd => (by cases hd), hf2⟩ ?_) ?_
    · rintro d hd j hj ⟨ρ, μ3⟩ ⟨pool, a8, e, hl, ha, hf3⟩
      dsimp only at e hf3
      subst e
      rw [List.length_map, e8] at hj
      obtain ⟨c, hc, rfl⟩ := List.mem_map.mp hd
      have hc := aa c hc
      obtain ⟨g1, g2⟩ := glue_all (stem := ⟨#[c]⟩) (k := 1) (Nat.le_refl _) (asc_one hc) _ az
      rw [e9] at g1
      simp only [↓wp_bind, ↓wp_gvar, ↓wp_then, ↓wp_exp, ↓wp_set, ↓wp_kite, ↓wp_kret, ↓wp_sti, ↓wp_par, ↓wp_bind, ↓wp_ret, ↓wp_optS, ↓wp_optI, ↓wp_opd, ↓wp_frz, ↓wp_two, ↓wp_one, ↓wp_bin, ↓wp_cmp, ↓wp_idx, ↓wp_neg, ↓wp_not, ↓wp_isi, ↓wp_tru, ↓wp_tand, ↓wp_tor, ↓wp_tnot, ↓wp_ite, ↓wp_and, ↓wp_or, ↓wp_lnil, ↓wp_lcons, ↓wp_peeks0, ↓wp_peeks1, ↓wp_blt, ↓wp_tup, ↓wp_lst, ↓wp_var, varK, ↓opd_dat, ↓opd_own, ↓opd_ext, ↓opd_loc, ↓peek_dat, ↓peek_loc, locK, ↓frz_dat, ↓frz_own, ↓frz_loc, frzK, ↓setv_dat, ↓setv_own, ↓setv_ext, ↓ret_dat, ↓ret_own, ↓ret_ext, ↓ret_loc, retK, ↓wp_call, callK, ↓argv_dat, ↓argv_own, ↓argv_ext, ↓argv_loc, argK, ↓wp_lend, lendK, solve_nil, solve_dat, solve_ext, solve_scr, ↓wp_slot, flowK, endK, ↓wp_chn, ↓wp_sli, setSlot, List.getElem?_cons_zero, List.getElem?_cons_succ, Option.join_some, Option.map_some, List.length_cons, List.length_nil, Nat.reduceAdd, Nat.reduceLT, List.set_cons_zero, List.set_cons_succ, true_and, and_true, ↓wp_ifb, ↓wp_dct, ↓wp_lkv, ↓wp_sls, slsK, ↓wp_rev, ↓wp_asg, ↓wp_dot, ↓wp_join, ↓wp_app, ↓wp_pop1, true_implies, false_implies, Bool.true_eq_false, Bool.false_eq_true, and_self, List.any_cons, List.any_nil, Bool.or_false, tru_bool, tru_int, tru_none, tru_list, tru_tup, ty1, ty2, ty3, ty4, ty5, ty6, ty7, ty8, Bool.not_true, Bool.not_false, gCmp, gIdx, gNeg, cmp_gt, cmp_lt, cmp_ge, cmp_le, cmp_eqi, sli_tup, sli_list, rev_tup, add_tup, add_list, add_str, add_int, sub_int, ↓wp_ointg, ointK, popJ, ↓wp_chkl, chkK, ↓wp_putl, putK, putO_ite, putO_some, appF, ↓len_list, ↓len_tup, decide_eq_true_eq, decide_eq_false_iff_not, sz, Nat.reduceLeDiff]
      refine wp_mono (lc1 (ρ := St8' x6 many st pool a7 (some (.dat (.str ⟨#[c]⟩)))) (i := 9) (ds := zz.cps.toList.map fun c => .str ⟨#[c]⟩) (glueTo ⟨#[c]⟩) ?_ (by simp) rfl ?_ ?_) ?_
      · simp only [↓wp_wof, ↓wp_then, ↓wp_exp, ↓wp_set, ↓wp_kite, ↓wp_kret, ↓wp_sti, ↓wp_par, ↓wp_bind, ↓wp_ret, ↓wp_optS, ↓wp_optI, ↓wp_opd, ↓wp_frz, ↓wp_two, ↓wp_one, ↓wp_bin, ↓wp_cmp, ↓wp_idx, ↓wp_neg, ↓wp_not, ↓wp_isi, ↓wp_tru, ↓wp_tand, ↓wp_tor, ↓wp_tnot, ↓wp_ite, ↓wp_and, ↓wp_or, ↓wp_lnil, ↓wp_lcons, ↓wp_peeks0, ↓wp_peeks1, ↓wp_blt, ↓wp_tup, ↓wp_lst, ↓wp_var, varK, ↓opd_dat, ↓opd_own, ↓opd_ext, ↓opd_loc, ↓peek_dat, ↓peek_loc, locK, ↓frz_dat, ↓frz_own, ↓frz_loc, frzK, ↓setv_dat, ↓setv_own, ↓setv_ext, ↓ret_dat, ↓ret_own, ↓ret_ext, ↓ret_loc, retK, ↓wp_call, callK, ↓argv_dat, ↓argv_own, ↓argv_ext, ↓argv_loc, argK, ↓wp_lend, lendK, solve_nil, solve_dat, solve_ext, solve_scr, ↓wp_slot, flowK, endK, ↓wp_chn, ↓wp_sli, setSlot, List.getElem?_cons_zero, List.getElem?_cons_succ, Option.join_some, Option.map_some, List.length_cons, List.length_nil, Nat.reduceAdd, Nat.reduceLT, List.set_cons_zero, List.set_cons_succ, true_and, and_true, ↓wp_ifb, ↓wp_dct, ↓wp_lkv, ↓wp_sls, slsK, ↓wp_rev, ↓wp_asg, ↓wp_dot, ↓wp_join, ↓wp_app, ↓wp_pop1, true_implies, false_implies, Bool.true_eq_false, Bool.false_eq_true, and_self, List.any_cons, List.any_nil, Bool.or_false, tru_bool, tru_int, tru_none, tru_list, tru_tup, ty1, ty2, ty3, ty4, ty5, ty6, ty7, ty8, Bool.not_true, Bool.not_false, gCmp, gIdx, gNeg, cmp_gt, cmp_lt, cmp_ge, cmp_le, cmp_eqi, sli_tup, sli_list, rev_tup, add_tup, add_list, add_str, add_int, sub_int, ↓wp_ointg, ointK, popJ, ↓wp_chkl, chkK, ↓wp_putl, putK, putO_ite, putO_some, appF, ↓len_list, ↓len_tup, decide_eq_true_eq, decide_eq_false_iff_not, sz, Nat.reduceLeDiff, c18, str_items]
      · rw [g1]; decide
      · intro d hd
        obtain ⟨c', hc', rfl⟩ := List.mem_map.mp hd
        have hz : (⟨#[c]⟩ : Str).length + (⟨#[c']⟩ : Str).length ≤ sizeLine := by
          show 1 + 1 ≤ sizeLine
          decide
        simp only [↓wp_then, ↓wp_exp, ↓wp_set, ↓wp_kite, ↓wp_kret, ↓wp_sti, ↓wp_par, ↓wp_bind, ↓wp_ret, ↓wp_optS, ↓wp_optI, ↓wp_opd, ↓wp_frz, ↓wp_two, ↓wp_one, ↓wp_bin, ↓wp_cmp, ↓wp_idx, ↓wp_neg, ↓wp_not, ↓wp_isi, ↓wp_tru, ↓wp_tand, ↓wp_tor, ↓wp_tnot, ↓wp_ite, ↓wp_and, ↓wp_or, ↓wp_lnil, ↓wp_lcons, ↓wp_peeks0, ↓wp_peeks1, ↓wp_blt, ↓wp_tup, ↓wp_lst, ↓wp_var, varK, ↓opd_dat, ↓opd_own, ↓opd_ext, ↓opd_loc, ↓peek_dat, ↓peek_loc, locK, ↓frz_dat, ↓frz_own, ↓frz_loc, frzK, ↓setv_dat, ↓setv_own, ↓setv_ext, ↓ret_dat, ↓ret_own, ↓ret_ext, ↓ret_loc, retK, ↓wp_call, callK, ↓argv_dat, ↓argv_own, ↓argv_ext, ↓argv_loc, argK, ↓wp_lend, lendK, solve_nil, solve_dat, solve_ext, solve_scr, ↓wp_slot, flowK, endK, ↓wp_chn, ↓wp_sli, setSlot, List.getElem?_cons_zero, List.getElem?_cons_succ, Option.join_some, Option.map_some, List.length_cons, List.length_nil, Nat.reduceAdd, Nat.reduceLT, List.set_cons_zero, List.set_cons_succ, true_and, and_true, ↓wp_ifb, ↓wp_dct, ↓wp_lkv, ↓wp_sls, slsK, ↓wp_rev, ↓wp_asg, ↓wp_dot, ↓wp_join, ↓wp_app, ↓wp_pop1, true_implies, false_implies, Bool.true_eq_false, Bool.false_eq_true, and_self, List.any_cons, List.any_nil, Bool.or_false, tru_bool, tru_int, tru_none, tru_list, tru_tup, ty1, ty2, ty3, ty4, ty5, ty6, ty7, ty8, Bool.not_true, Bool.not_false, gCmp, gIdx, gNeg, cmp_gt, cmp_lt, cmp_ge, cmp_le, cmp_eqi, sli_tup, sli_list, rev_tup, add_tup, add_list, add_str, add_int, sub_int, ↓wp_ointg, ointK, popJ, ↓wp_chkl, chkK, ↓wp_putl, putK, putO_ite, putO_some, appF, ↓len_list, ↓len_tup, decide_eq_true_eq, decide_eq_false_iff_not, sz, Nat.reduceLeDiff, hz]
        rfl
      · rintro v t ⟨rfl, rfl⟩
        have hq : pool.length + ((List.map (fun c => PyData.str ⟨#[c]⟩) zz.cps.toList).filterMap (glueTo ⟨#[c]⟩)).length ≤ sizeLine := by rw [g1, sizeLine_eq']; omega
        simp only [↓wp_then, ↓wp_exp, ↓wp_set, ↓wp_kite, ↓wp_kret, ↓wp_sti, ↓wp_par, ↓wp_bind, ↓wp_ret, ↓wp_optS, ↓wp_optI, ↓wp_opd, ↓wp_frz, ↓wp_two, ↓wp_one, ↓wp_bin, ↓wp_cmp, ↓wp_idx, ↓wp_neg, ↓wp_not, ↓wp_isi, ↓wp_tru, ↓wp_tand, ↓wp_tor, ↓wp_tnot, ↓wp_ite, ↓wp_and, ↓wp_or, ↓wp_lnil, ↓wp_lcons, ↓wp_peeks0, ↓wp_peeks1, ↓wp_blt, ↓wp_tup, ↓wp_lst, ↓wp_var, varK, ↓opd_dat, ↓opd_own, ↓opd_ext, ↓opd_loc, ↓peek_dat, ↓peek_loc, locK, ↓frz_dat, ↓frz_own, ↓frz_loc, frzK, ↓setv_dat, ↓setv_own, ↓setv_ext, ↓ret_dat, ↓ret_own, ↓ret_ext, ↓ret_loc, retK, ↓wp_call, callK, ↓argv_dat, ↓argv_own, ↓argv_ext, ↓argv_loc, argK, ↓wp_lend, lendK, solve_nil, solve_dat, solve_ext, solve_scr, ↓wp_slot, flowK, endK, ↓wp_chn, ↓wp_sli, setSlot, List.getElem?_cons_zero, List.getElem?_cons_succ, Option.join_some, Option.map_some, List.length_cons, List.length_nil, Nat.reduceAdd, Nat.reduceLT, List.set_cons_zero, List.set_cons_succ, true_and, and_true, ↓wp_ifb, ↓wp_dct, ↓wp_lkv, ↓wp_sls, slsK, ↓wp_rev, ↓wp_asg, ↓wp_dot, ↓wp_join, ↓wp_app, ↓wp_pop1, true_implies, false_implies, Bool.true_eq_false, Bool.false_eq_true, and_self, List.any_cons, List.any_nil, Bool.or_false, tru_bool, tru_int, tru_none, tru_list, tru_tup, ty1, ty2, ty3, ty4, ty5, ty6, ty7, ty8, Bool.not_true, Bool.not_false, gCmp, gIdx, gNeg, cmp_gt, cmp_lt, cmp_ge, cmp_le, cmp_eqi, sli_tup, sli_list, rev_tup, add_tup, add_list, add_str, add_int, sub_int, ↓wp_ointg, ointK, popJ, ↓wp_chkl, chkK, ↓wp_putl, putK, putO_ite, putO_some, appF, ↓len_list, ↓len_tup, decide_eq_true_eq, decide_eq_false_iff_not, sz, Nat.reduceLeDiff, hq]
        refine ⟨_, _, rfl, ?_, ?_, hf3⟩
        · rw [List.length_append, g1, hl]; omega
        · intro z hz
          rcases List.mem_append.mp hz with hz | hz
          · exact ha z hz
          · obtain ⟨x, rfl, h1, h2⟩ := g2 z hz
            exact ⟨x, rfl, by omega, h2⟩
    · rintro f ⟨ρ, μ3⟩ ⟨rfl, pool, a8, e, hl, ha, hf3⟩
      dsimp only at e hf3
      subst e
      rw [List.length_map, e8] at hl
      simp only [↓wp_then, ↓wp_exp, ↓wp_set, ↓wp_kite, ↓wp_kret, ↓wp_sti, ↓wp_par, ↓wp_bind, ↓wp_ret, ↓wp_optS, ↓wp_optI, ↓wp_opd, ↓wp_frz, ↓wp_two, ↓wp_one, ↓wp_bin, ↓wp_cmp, ↓wp_idx, ↓wp_neg, ↓wp_not, ↓wp_isi, ↓wp_tru, ↓wp_tand, ↓wp_tor, ↓wp_tnot, ↓wp_ite, ↓wp_and, ↓wp_or, ↓wp_lnil, ↓wp_lcons, ↓wp_peeks0, ↓wp_peeks1, ↓wp_blt, ↓wp_tup, ↓wp_lst, ↓wp_var, varK, ↓opd_dat, ↓opd_own, ↓opd_ext, ↓opd_loc, ↓peek_dat, ↓peek_loc, locK, ↓frz_dat, ↓frz_own, ↓frz_loc, frzK, ↓setv_dat, ↓setv_own, ↓setv_ext, ↓ret_dat, ↓ret_own, ↓ret_ext, ↓ret_loc, retK, ↓wp_call, callK, ↓argv_dat, ↓argv_own, ↓argv_ext, ↓argv_loc, argK, ↓wp_lend, lendK, solve_nil, solve_dat, solve_ext, solve_scr, ↓wp_slot, flowK, endK, ↓wp_chn, ↓wp_sli, setSlot, List.getElem?_cons_zero, List.getElem?_cons_succ, Option.join_some, Option.map_some, List.length_cons, List.length_nil, Nat.reduceAdd, Nat.reduceLT, List.set_cons_zero, List.set_cons_succ, true_and, and_true, ↓wp_ifb, ↓wp_dct, ↓wp_lkv, ↓wp_sls, slsK, ↓wp_rev, ↓wp_asg, ↓wp_dot, ↓wp_join, ↓wp_app, ↓wp_pop1, true_implies, false_implies, Bool.true_eq_false, Bool.false_eq_true, and_self, List.any_cons, List.any_nil, Bool.or_false, tru_bool, tru_int, tru_none, tru_list, tru_tup, ty1, ty2, ty3, ty4, ty5, ty6, ty7, ty8, Bool.not_true, Bool.not_false, gCmp, gIdx, gNeg, cmp_gt, cmp_lt, cmp_ge, cmp_le, cmp_eqi, sli_tup, sli_list, rev_tup, add_tup, add_list, add_str, add_int, sub_int, ↓wp_ointg, ointK, popJ, ↓wp_chkl, chkK, ↓wp_putl, putK, putO_ite, putO_some, appF, ↓len_list, ↓len_tup, decide_eq_true_eq, decide_eq_false_iff_not, sz, Nat.reduceLeDiff]
      exact ⟨pool, a7, a8, rfl, ⟨by omega, by omega, ha⟩, hf3⟩
theorem t8a {many st : Int} {pool : List D} {a7 : Option Val} (hp : Pool pool) (hf2 : Fd μ) : wp (kIte (den (callD Ds L (n + 2)) (.or (.cmp .gt (.var 1) (.blt .len (.cons (.var 2) .nil))) (.cmp .eq (.var 5) (.cst (.int 4))))).t (run (callD Ds L (n + 2)) L (.set 2 (.lst .nil) (.for_ (.var 8) (.sli (.var 6) .nil (.cst (.int 8))) (.set 2 (.bin .add (.var 2) (.lc (.bin .add (.var 8) (.var 9)) (.var 9) (.sli (.var 6) (.cst (.int 18)) .nil) .nil [9])) .nop) .nop))) (run (callD Ds L (n + 2)) L .nop)) ⟨St8 many st pool a7 none, μ⟩ fun f s => f = .nx ∧ ∃ pool a7 a8, s.ρ = St8 many st pool a7 a8 ∧ Pool pool ∧ Fd s.μ :=
  t8a' cut8 cut18 (by decide +kernel) (by decide +kernel) ab_asc st_asc hp hf2
theorem t8b {many st : Int} {pool : List D} {a7 a8 : Option Val} (hm : 1 ≤ many) (hm2 : many ≤ 6) (h : ∀ ds μ', (ds.length : Int) = many → (∀ d ∈ ds, Nm8 8 d) → Fd μ' → K (.own (.list ds)) μ') (hp : Pool pool) (hf2 : Fd μ) : wp (run (callD Ds L (n + 2)) L (.set 3 (.lst .nil) (.for_ (.var 4) (.range (.cons (.var 1) .nil)) (.exp (.app 3 (.pop1 2 (.call 6 (.cons (.lend 0) (.cons (.blt .len (.cons (.var 2) .nil)) .nil))))) .nop) (.ret (.var 3))))) ⟨St8 many st pool a7 a8, μ⟩ (endK K) := by
  rw [run]
  refine wp_seq (I := fun s => s = ⟨[some (.ext 0), some (.dat (.int many)), some (.own (.list pool)), some (.own (.list [])), none, some (.dat (.int st)), some (.dat (.str LET)), a7, a8, none], μ⟩) ?_ ?_
  · simp only [den, Den.ex, Den.no, ↓wp_then, ↓wp_exp, ↓wp_set, ↓wp_kite, ↓wp_kret, ↓wp_sti, ↓wp_par, ↓wp_bind, ↓wp_ret, ↓wp_optS, ↓wp_optI, ↓wp_opd, ↓wp_frz, ↓wp_two, ↓wp_one, ↓wp_bin, ↓wp_cmp, ↓wp_idx, ↓wp_neg, ↓wp_not, ↓wp_isi, ↓wp_tru, ↓wp_tand, ↓wp_tor, ↓wp_tnot, ↓wp_ite, ↓wp_and, ↓wp_or, ↓wp_lnil, ↓wp_lcons, ↓wp_peeks0, ↓wp_peeks1, ↓wp_blt, ↓wp_tup, ↓wp_lst, ↓wp_var, varK, ↓opd_dat, ↓opd_own, ↓opd_ext, ↓opd_loc, ↓peek_dat, ↓peek_loc, locK, ↓frz_dat, ↓frz_own, ↓frz_loc, frzK, ↓setv_dat, ↓setv_own, ↓setv_ext, ↓ret_dat, ↓ret_own, ↓ret_ext, ↓ret_loc, retK, ↓wp_call, callK, ↓argv_dat, ↓argv_own, ↓argv_ext, ↓argv_loc, argK, ↓wp_lend, lendK, solve_nil, solve_dat, solve_ext, solve_scr, ↓wp_slot, flowK, endK, ↓wp_chn, ↓wp_sli, setSlot, List.getElem?_cons_zero, List.getElem?_cons_succ, Option.join_some, Option.map_some, List.length_cons, List.length_nil, Nat.reduceAdd, Nat.reduceLT, List.set_cons_zero, List.set_cons_succ, true_and, and_true, ↓wp_ifb, ↓wp_dct, ↓wp_lkv, ↓wp_sls, slsK, ↓wp_rev, ↓wp_asg, ↓wp_dot, ↓wp_join, ↓wp_app, ↓wp_pop1, true_implies, false_implies, Bool.true_eq_false, Bool.false_eq_true, and_self, List.any_cons, List.any_nil, Bool.or_false, tru_bool, tru_int, tru_none, tru_list, tru_tup, ty1, ty2, ty3, ty4, ty5, ty6, ty7, ty8, Bool.not_true, Bool.not_false, gCmp, gIdx, gNeg, cmp_gt, cmp_lt, cmp_ge, cmp_le, cmp_eqi, sli_tup, sli_list, rev_tup, add_tup, add_list, add_str, add_int, sub_int, ↓wp_ointg, ointK, popJ, ↓wp_chkl, chkK, ↓wp_putl, putK, putO_ite, putO_some, appF, ↓len_list, ↓len_tup, decide_eq_true_eq, decide_eq_false_iff_not, sz, Nat.reduceLeDiff]
  rintro t rfl
  rw [run, wp_then, wp_kfor_]
  simp only [run, den, Den.ex, Den.no, ↓wp_range, ↓wp_then, ↓wp_exp, ↓wp_set, ↓wp_kite, ↓wp_kret, ↓wp_sti, ↓wp_par, ↓wp_bind, ↓wp_ret, ↓wp_optS, ↓wp_optI, ↓wp_opd, ↓wp_frz, ↓wp_two, ↓wp_one, ↓wp_bin, ↓wp_cmp, ↓wp_idx, ↓wp_neg, ↓wp_not, ↓wp_isi, ↓wp_tru, ↓wp_tand, ↓wp_tor, ↓wp_tnot, ↓wp_ite, ↓wp_and, ↓wp_or, ↓wp_lnil, ↓wp_lcons, ↓wp_peeks0, ↓wp_peeks1, ↓wp_blt, ↓wp_tup, ↓wp_lst, ↓wp_var, varK, ↓opd_dat, ↓opd_own, ↓opd_ext, ↓opd_loc, ↓peek_dat, ↓peek_loc, locK, ↓frz_dat, ↓frz_own, ↓frz_loc, frzK, ↓setv_dat, ↓setv_own, ↓setv_ext, ↓ret_dat, ↓ret_own, ↓ret_ext, ↓ret_loc, retK, ↓wp_call, callK, ↓argv_dat, ↓argv_own, ↓argv_ext, ↓argv_loc, argK, ↓wp_lend, lendK, solve_nil, solve_dat, solve_ext, solve_scr, ↓wp_slot, flowK, endK, ↓wp_chn, ↓wp_sli, setSlot, List.getElem?_cons_zero, List.getElem?_cons_succ, Option.join_some, Option.map_some, List.length_cons, List.length_nil, Nat.reduceAdd, Nat.reduceLT, List.set_cons_zero, List.set_cons_succ, true_and, and_true, ↓wp_ifb, ↓wp_dct, ↓wp_lkv, ↓wp_sls, slsK, ↓wp_rev, ↓wp_asg, ↓wp_dot, ↓wp_join, ↓wp_app, ↓wp_pop1, true_implies, false_implies, Bool.true_eq_false, Bool.false_eq_true, and_self, List.any_cons, List.any_nil, Bool.or_false, tru_bool, tru_int, tru_none, tru_list, tru_tup, ty1, ty2, ty3, ty4, ty5, ty6, ty7, ty8, Bool.not_true, Bool.not_false, gCmp, gIdx, gNeg, cmp_gt, cmp_lt, cmp_ge, cmp_le, cmp_eqi, sli_tup, sli_list, rev_tup, add_tup, add_list, add_str, add_int, sub_int, ↓wp_ointg, ointK, popJ, ↓wp_chkl, chkK, ↓wp_putl, putK, putO_ite, putO_some, appF, ↓len_list, ↓len_tup, decide_eq_true_eq, decide_eq_false_iff_not, sz, Nat.reduceLeDiff, ↓range_one (fit_small (show 0 ≤ many by omega) (show many ≤ 1000 by omega))]
  refine wp_mono (wp_for_b (I := fun k s => ∃ pool found a4, s.ρ = [some (.ext 0), some (.dat (.int many)), some (.own (.list pool)), some (.own (.list found)), a4, some (.dat (.int st)), some (.dat (.str LET)), a7, a8, none] ∧ found.length = k ∧ 18 ≤ pool.length + k ∧ pool.length ≤ 100 ∧ (∀ d ∈ pool, Nm8 8 d) ∧ (∀ d ∈ found, Nm8 8 d) ∧ Fd s.μ) _ 0 ⟨pool, [], none, rfl, rfl, hp.lo, hp.hi, hp.all, fun d hd => (by cases hd), hf2⟩ ?_) ?_
  · rintro d hd j hj ⟨ρ, μ3⟩ ⟨pool, found, a4, e, hl, h1, h2, h3, h4, hf3⟩
    dsimp only at e hf3
    subst e
    rw [List.length_map, List.length_range] at hj
    simp only [↓wp_bind, ↓wp_gvar, ↓wp_then, ↓wp_exp, ↓wp_set, ↓wp_kite, ↓wp_kret, ↓wp_sti, ↓wp_par, ↓wp_bind, ↓wp_ret, ↓wp_optS, ↓wp_optI, ↓wp_opd, ↓wp_frz, ↓wp_two, ↓wp_one, ↓wp_bin, ↓wp_cmp, ↓wp_idx, ↓wp_neg, ↓wp_not, ↓wp_isi, ↓wp_tru, ↓wp_tand, ↓wp_tor, ↓wp_tnot, ↓wp_ite, ↓wp_and, ↓wp_or, ↓wp_lnil, ↓wp_lcons, ↓wp_peeks0, ↓wp_peeks1, ↓wp_blt, ↓wp_tup, ↓wp_lst, ↓wp_var, varK, ↓opd_dat, ↓opd_own, ↓opd_ext, ↓opd_loc, ↓peek_dat, ↓peek_loc, locK, ↓frz_dat, ↓frz_own, ↓frz_loc, frzK, ↓setv_dat, ↓setv_own, ↓setv_ext, ↓ret_dat, ↓ret_own, ↓ret_ext, ↓ret_loc, retK, ↓wp_call, callK, ↓argv_dat, ↓argv_own, ↓argv_ext, ↓argv_loc, argK, ↓wp_lend, lendK, solve_nil, solve_dat, solve_ext, solve_scr, ↓wp_slot, flowK, endK, ↓wp_chn, ↓wp_sli, setSlot, List.getElem?_cons_zero, List.getElem?_cons_succ, Option.join_some, Option.map_some, List.length_cons, List.length_nil, Nat.reduceAdd, Nat.reduceLT, List.set_cons_zero, List.set_cons_succ, true_and, and_true, ↓wp_ifb, ↓wp_dct, ↓wp_lkv, ↓wp_sls, slsK, ↓wp_rev, ↓wp_asg, ↓wp_dot, ↓wp_join, ↓wp_app, ↓wp_pop1, true_implies, false_implies, Bool.true_eq_false, Bool.false_eq_true, and_self, List.any_cons, List.any_nil, Bool.or_false, tru_bool, tru_int, tru_none, tru_list, tru_tup, ty1, ty2, ty3, ty4, ty5, ty6, ty7, ty8, Bool.not_true, Bool.not_false, gCmp, gIdx, gNeg, cmp_gt, cmp_lt, cmp_ge, cmp_le, cmp_eqi, sli_tup, sli_list, rev_tup, add_tup, add_list, add_str, add_int, sub_int, ↓wp_ointg, ointK, popJ, ↓wp_chkl, chkK, ↓wp_putl, putK, putO_ite, putO_some, appF, ↓len_list, ↓len_tup, decide_eq_true_eq, decide_eq_false_iff_not, sz, Nat.reduceLeDiff]
    refine t6 (by omega) (by omega) hf3 fun r μ4 r0 r1 hf4 => ?_
    obtain ⟨y, hy, e⟩ := pop_f r0 r1
    simp only [↓wp_then, ↓wp_exp, ↓wp_set, ↓wp_kite, ↓wp_kret, ↓wp_sti, ↓wp_par, ↓wp_bind, ↓wp_ret, ↓wp_optS, ↓wp_optI, ↓wp_opd, ↓wp_frz, ↓wp_two, ↓wp_one, ↓wp_bin, ↓wp_cmp, ↓wp_idx, ↓wp_neg, ↓wp_not, ↓wp_isi, ↓wp_tru, ↓wp_tand, ↓wp_tor, ↓wp_tnot, ↓wp_ite, ↓wp_and, ↓wp_or, ↓wp_lnil, ↓wp_lcons, ↓wp_peeks0, ↓wp_peeks1, ↓wp_blt, ↓wp_tup, ↓wp_lst, ↓wp_var, varK, ↓opd_dat, ↓opd_own, ↓opd_ext, ↓opd_loc, ↓peek_dat, ↓peek_loc, locK, ↓frz_dat, ↓frz_own, ↓frz_loc, frzK, ↓setv_dat, ↓setv_own, ↓setv_ext, ↓ret_dat, ↓ret_own, ↓ret_ext, ↓ret_loc, retK, ↓wp_call, callK, ↓argv_dat, ↓argv_own, ↓argv_ext, ↓argv_loc, argK, ↓wp_lend, lendK, solve_nil, solve_dat, solve_ext, solve_scr, ↓wp_slot, flowK, endK, ↓wp_chn, ↓wp_sli, setSlot, List.getElem?_cons_zero, List.getElem?_cons_succ, Option.join_some, Option.map_some, List.length_cons, List.length_nil, Nat.reduceAdd, Nat.reduceLT, List.set_cons_zero, List.set_cons_succ, true_and, and_true, ↓wp_ifb, ↓wp_dct, ↓wp_lkv, ↓wp_sls, slsK, ↓wp_rev, ↓wp_asg, ↓wp_dot, ↓wp_join, ↓wp_app, ↓wp_pop1, true_implies, false_implies, Bool.true_eq_false, Bool.false_eq_true, and_self, List.any_cons, List.any_nil, Bool.or_false, tru_bool, tru_int, tru_none, tru_list, tru_tup, ty1, ty2, ty3, ty4, ty5, ty6, ty7, ty8, Bool.not_true, Bool.not_false, gCmp, gIdx, gNeg, cmp_gt, cmp_lt, cmp_ge, cmp_le, cmp_eqi, sli_tup, sli_list, rev_tup, add_tup, add_list, add_str, add_int, sub_int, ↓wp_ointg, ointK, popJ, ↓wp_chkl, chkK, ↓wp_putl, putK, putO_ite, putO_some, appF, ↓len_list, ↓len_tup, decide_eq_true_eq, decide_eq_false_iff_not, sz, Nat.reduceLeDiff, e]
    refine ⟨by rw [sizeLine_eq']; omega, pool.eraseIdx r.toNat, found ++ [y], _, rfl, ?_, ?_, ?_, ?_, ?_, hf4⟩
    · rw [List.length_append, hl, List.length_singleton]
    · have : r.toNat < pool.length := by omega
      rw [List.length_eraseIdx_of_lt this]
      omega
    · exact Nat.le_trans (List.length_eraseIdx_le _ _) h2
    · intro z hz
      exact h3 z (List.mem_of_mem_eraseIdx hz)
    · intro z hz
      rcases List.mem_append.mp hz with hz | hz
      · exact h4 z hz
      · exact List.mem_singleton.mp hz ▸ h3 y hy
  · rintro f ⟨ρ, μ3⟩ ⟨rfl, pool, found, a4, e, hl, h1, h2, h3, h4, hf3⟩
    dsimp only at e hf3
    subst e
    simp only [↓wp_then, ↓wp_exp, ↓wp_set, ↓wp_kite, ↓wp_kret, ↓wp_sti, ↓wp_par, ↓wp_bind, ↓wp_ret, ↓wp_optS, ↓wp_optI, ↓wp_opd, ↓wp_frz, ↓wp_two, ↓wp_one, ↓wp_bin, ↓wp_cmp, ↓wp_idx, ↓wp_neg, ↓wp_not, ↓wp_isi, ↓wp_tru, ↓wp_tand, ↓wp_tor, ↓wp_tnot, ↓wp_ite, ↓wp_and, ↓wp_or, ↓wp_lnil, ↓wp_lcons, ↓wp_peeks0, ↓wp_peeks1, ↓wp_blt, ↓wp_tup, ↓wp_lst, ↓wp_var, varK, ↓opd_dat, ↓opd_own, ↓opd_ext, ↓opd_loc, ↓peek_dat, ↓peek_loc, locK, ↓frz_dat, ↓frz_own, ↓frz_loc, frzK, ↓setv_dat, ↓setv_own, ↓setv_ext, ↓ret_dat, ↓ret_own, ↓ret_ext, ↓ret_loc, retK, ↓wp_call, callK, ↓argv_dat, ↓argv_own, ↓argv_ext, ↓argv_loc, argK, ↓wp_lend, lendK, solve_nil, solve_dat, solve_ext, solve_scr, ↓wp_slot, flowK, endK, ↓wp_chn, ↓wp_sli, setSlot, List.getElem?_cons_zero, List.getElem?_cons_succ, Option.join_some, Option.map_some, List.length_cons, List.length_nil, Nat.reduceAdd, Nat.reduceLT, List.set_cons_zero, List.set_cons_succ, true_and, and_true, ↓wp_ifb, ↓wp_dct, ↓wp_lkv, ↓wp_sls, slsK, ↓wp_rev, ↓wp_asg, ↓wp_dot, ↓wp_join, ↓wp_app, ↓wp_pop1, true_implies, false_implies, Bool.true_eq_false, Bool.false_eq_true, and_self, List.any_cons, List.any_nil, Bool.or_false, tru_bool, tru_int, tru_none, tru_list, tru_tup, ty1, ty2, ty3, ty4, ty5, ty6, ty7, ty8, Bool.not_true, Bool.not_false, gCmp, gIdx, gNeg, cmp_gt, cmp_lt, cmp_ge, cmp_le, cmp_eqi, sli_tup, sli_list, rev_tup, add_tup, add_list, add_str, add_int, sub_int, ↓wp_ointg, ointK, popJ, ↓wp_chkl, chkK, ↓wp_putl, putK, putO_ite, putO_some, appF, ↓len_list, ↓len_tup, decide_eq_true_eq, decide_eq_false_iff_not, sz, Nat.reduceLeDiff]
    rw [List.length_map, List.length_range] at hl
    exact h found μ3 (by omega) h4 hf3
theorem t8 {many : Int} (hm : 1 ≤ many) (hm2 : many ≤ 6) (hf : Fd μ) (h : ∀ ds μ', (ds.length : Int) = many → (∀ d ∈ ds, Nm8 8 d) → Fd μ' → K (.own (.list ds)) μ') : wpc (callD Ds L (n + 3) 8 [.ext 0, .dat (.int many)] μ) K := by
  refine wpc_call (d := d__law_names) rfl rfl ?_
  simp only [d__law_names, run, List.map, List.replicate, Nat.reduceSub, List.length_cons, List.length_nil, Nat.reduceAdd, List.cons_append, List.nil_append]
  refine wp_seq (I := fun s => ∃ st : Int, s.ρ = [some (.ext 0), some (.dat (.int many)), none, none, none, some (.dat (.int st)), some (.dat (.str LET)), none, none, none] ∧ Fd s.μ) ?_ ?_
  · simp only [den, Den.ex, Den.no, ↓wp_then, ↓wp_exp, ↓wp_set, ↓wp_kite, ↓wp_kret, ↓wp_sti, ↓wp_par, ↓wp_bind, ↓wp_ret, ↓wp_optS, ↓wp_optI, ↓wp_opd, ↓wp_frz, ↓wp_two, ↓wp_one, ↓wp_bin, ↓wp_cmp, ↓wp_idx, ↓wp_neg, ↓wp_not, ↓wp_isi, ↓wp_tru, ↓wp_tand, ↓wp_tor, ↓wp_tnot, ↓wp_ite, ↓wp_and, ↓wp_or, ↓wp_lnil, ↓wp_lcons, ↓wp_peeks0, ↓wp_peeks1, ↓wp_blt, ↓wp_tup, ↓wp_lst, ↓wp_var, varK, ↓opd_dat, ↓opd_own, ↓opd_ext, ↓opd_loc, ↓peek_dat, ↓peek_loc, locK, ↓frz_dat, ↓frz_own, ↓frz_loc, frzK, ↓setv_dat, ↓setv_own, ↓setv_ext, ↓ret_dat, ↓ret_own, ↓ret_ext, ↓ret_loc, retK, ↓wp_call, callK, ↓argv_dat, ↓argv_own, ↓argv_ext, ↓argv_loc, argK, ↓wp_lend, lendK, solve_nil, solve_dat, solve_ext, solve_scr, ↓wp_slot, flowK, endK, ↓wp_chn, ↓wp_sli, setSlot, List.getElem?_cons_zero, List.getElem?_cons_succ, Option.join_some, Option.map_some, List.length_cons, List.length_nil, Nat.reduceAdd, Nat.reduceLT, List.set_cons_zero, List.set_cons_succ, true_and, and_true, ↓wp_ifb, ↓wp_dct, ↓wp_lkv, ↓wp_sls, slsK, ↓wp_rev, ↓wp_asg, ↓wp_dot, ↓wp_join, ↓wp_app, ↓wp_pop1, true_implies, false_implies, Bool.true_eq_false, Bool.false_eq_true, and_self, List.any_cons, List.any_nil, Bool.or_false, tru_bool, tru_int, tru_none, tru_list, tru_tup, ty1, ty2, ty3, ty4, ty5, ty6, ty7, ty8, Bool.not_true, Bool.not_false, gCmp, gIdx, gNeg, cmp_gt, cmp_lt, cmp_ge, cmp_le, cmp_eqi, sli_tup, sli_list, rev_tup, add_tup, add_list, add_str, add_int, sub_int, ↓wp_ointg, ointK, popJ, ↓wp_chkl, chkK, ↓wp_putl, putK, putO_ite, putO_some, appF, ↓len_list, ↓len_tup, decide_eq_true_eq, decide_eq_false_iff_not, sz, Nat.reduceLeDiff]
    refine t6 (by decide) (by decide) hf fun st μ1 s0 s1 hf1 => ?_
    simp only [↓wp_then, ↓wp_exp, ↓wp_set, ↓wp_kite, ↓wp_kret, ↓wp_sti, ↓wp_par, ↓wp_bind, ↓wp_ret, ↓wp_optS, ↓wp_optI, ↓wp_opd, ↓wp_frz, ↓wp_two, ↓wp_one, ↓wp_bin, ↓wp_cmp, ↓wp_idx, ↓wp_neg, ↓wp_not, ↓wp_isi, ↓wp_tru, ↓wp_tand, ↓wp_tor, ↓wp_tnot, ↓wp_ite, ↓wp_and, ↓wp_or, ↓wp_lnil, ↓wp_lcons, ↓wp_peeks0, ↓wp_peeks1, ↓wp_blt, ↓wp_tup, ↓wp_lst, ↓wp_var, varK, ↓opd_dat, ↓opd_own, ↓opd_ext, ↓opd_loc, ↓peek_dat, ↓peek_loc, locK, ↓frz_dat, ↓frz_own, ↓frz_loc, frzK, ↓setv_dat, ↓setv_own, ↓setv_ext, ↓ret_dat, ↓ret_own, ↓ret_ext, ↓ret_loc, retK, ↓wp_call, callK, ↓argv_dat, ↓argv_own, ↓argv_ext, ↓argv_loc, argK, ↓wp_lend, lendK, solve_nil, solve_dat, solve_ext, solve_scr, ↓wp_slot, flowK, endK, ↓wp_chn, ↓wp_sli, setSlot, List.getElem?_cons_zero, List.getElem?_cons_succ, Option.join_some, Option.map_some, List.length_cons, List.length_nil, Nat.reduceAdd, Nat.reduceLT, List.set_cons_zero, List.set_cons_succ, true_and, and_true, ↓wp_ifb, ↓wp_dct, ↓wp_lkv, ↓wp_sls, slsK, ↓wp_rev, ↓wp_asg, ↓wp_dot, ↓wp_join, ↓wp_app, ↓wp_pop1, true_implies, false_implies, Bool.true_eq_false, Bool.false_eq_true, and_self, List.any_cons, List.any_nil, Bool.or_false, tru_bool, tru_int, tru_none, tru_list, tru_tup, ty1, ty2, ty3, ty4, ty5, ty6, ty7, ty8, Bool.not_true, Bool.not_false, gCmp, gIdx, gNeg, cmp_gt, cmp_lt, cmp_ge, cmp_le, cmp_eqi, sli_tup, sli_list, rev_tup, add_tup, add_list, add_str, add_int, sub_int, ↓wp_ointg, ointK, popJ, ↓wp_chkl, chkK, ↓wp_putl, putK, putO_ite, putO_some, appF, ↓len_list, ↓len_tup, decide_eq_true_eq, decide_eq_false_iff_not, sz, Nat.reduceLeDiff, ↓wp_gtup, ↓wp_gcons, ↓wp_gnil, ↓wp_gvar]
    exact ⟨st, rfl, hf1⟩
  rintro ⟨ρ, μ1⟩ ⟨st, e, hf1⟩
  dsimp only at e hf1
  subst e
  refine wp_seq (I := fun s => PoolS many st s) ?_ ?_
  · simp only [den, Den.ex, Den.no, ↓wp_then, ↓wp_exp, ↓wp_set, ↓wp_kite, ↓wp_kret, ↓wp_sti, ↓wp_par, ↓wp_bind, ↓wp_ret, ↓wp_optS, ↓wp_optI, ↓wp_opd, ↓wp_frz, ↓wp_two, ↓wp_one, ↓wp_bin, ↓wp_cmp, ↓wp_idx, ↓wp_neg, ↓wp_not, ↓wp_isi, ↓wp_tru, ↓wp_tand, ↓wp_tor, ↓wp_tnot, ↓wp_ite, ↓wp_and, ↓wp_or, ↓wp_lnil, ↓wp_lcons, ↓wp_peeks0, ↓wp_peeks1, ↓wp_blt, ↓wp_tup, ↓wp_lst, ↓wp_var, varK, ↓opd_dat, ↓opd_own, ↓opd_ext, ↓opd_loc, ↓peek_dat, ↓peek_loc, locK, ↓frz_dat, ↓frz_own, ↓frz_loc, frzK, ↓setv_dat, ↓setv_own, ↓setv_ext, ↓ret_dat, ↓ret_own, ↓ret_ext, ↓ret_loc, retK, ↓wp_call, callK, ↓argv_dat, ↓argv_own, ↓argv_ext, ↓argv_loc, argK, ↓wp_lend, lendK, solve_nil, solve_dat, solve_ext, solve_scr, ↓wp_slot, flowK, endK, ↓wp_chn, ↓wp_sli, setSlot, List.getElem?_cons_zero, List.getElem?_cons_succ, Option.join_some, Option.map_some, List.length_cons, List.length_nil, Nat.reduceAdd, Nat.reduceLT, List.set_cons_zero, List.set_cons_succ, true_and, and_true, ↓wp_ifb, ↓wp_dct, ↓wp_lkv, ↓wp_sls, slsK, ↓wp_rev, ↓wp_asg, ↓wp_dot, ↓wp_join, ↓wp_app, ↓wp_pop1, true_implies, false_implies, Bool.true_eq_false, Bool.false_eq_true, and_self, List.any_cons, List.any_nil, Bool.or_false, tru_bool, tru_int, tru_none, tru_list, tru_tup, ty1, ty2, ty3, ty4, ty5, ty6, ty7, ty8, Bool.not_true, Bool.not_false, gCmp, gIdx, gNeg, cmp_gt, cmp_lt, cmp_ge, cmp_le, cmp_eqi, sli_tup, sli_list, rev_tup, add_tup, add_list, add_str, add_int, sub_int, ↓wp_ointg, ointK, popJ, ↓wp_chkl, chkK, ↓wp_putl, putK, putO_ite, putO_some, appF, ↓len_list, ↓len_tup, decide_eq_true_eq, decide_eq_false_iff_not, sz, Nat.reduceLeDiff, let_list]
    exact ⟨_, none, rfl, pool_cst (by decide +kernel), hf1⟩
  rintro ⟨ρ, μ2⟩ ⟨pool, a7, e, hp, hf2⟩
  dsimp only at e hf2
  subst e
  refine wp_seq (I := fun s => PoolS many st s) ?_ ?_
  · simp only [den, Den.ex, Den.no, ↓wp_then, ↓wp_exp, ↓wp_set, ↓wp_kite, ↓wp_kret, ↓wp_sti, ↓wp_par, ↓wp_bind, ↓wp_ret, ↓wp_optS, ↓wp_optI, ↓wp_opd, ↓wp_frz, ↓wp_two, ↓wp_one, ↓wp_bin, ↓wp_cmp, ↓wp_idx, ↓wp_neg, ↓wp_not, ↓wp_isi, ↓wp_tru, ↓wp_tand, ↓wp_tor, ↓wp_tnot, ↓wp_ite, ↓wp_and, ↓wp_or, ↓wp_lnil, ↓wp_lcons, ↓wp_peeks0, ↓wp_peeks1, ↓wp_blt, ↓wp_tup, ↓wp_lst, ↓wp_var, varK, ↓opd_dat, ↓opd_own, ↓opd_ext, ↓opd_loc, ↓peek_dat, ↓peek_loc, locK, ↓frz_dat, ↓frz_own, ↓frz_loc, frzK, ↓setv_dat, ↓setv_own, ↓setv_ext, ↓ret_dat, ↓ret_own, ↓ret_ext, ↓ret_loc, retK, ↓wp_call, callK, ↓argv_dat, ↓argv_own, ↓argv_ext, ↓argv_loc, argK, ↓wp_lend, lendK, solve_nil, solve_dat, solve_ext, solve_scr, ↓wp_slot, flowK, endK, ↓wp_chn, ↓wp_sli, setSlot, List.getElem?_cons_zero, List.getElem?_cons_succ, Option.join_some, Option.map_some, List.length_cons, List.length_nil, Nat.reduceAdd, Nat.reduceLT, List.set_cons_zero, List.set_cons_succ, true_and, and_true, ↓wp_ifb, ↓wp_dct, ↓wp_lkv, ↓wp_sls, slsK, ↓wp_rev, ↓wp_asg, ↓wp_dot, ↓wp_join, ↓wp_app, ↓wp_pop1, true_implies, false_implies, Bool.true_eq_false, Bool.false_eq_true, and_self, List.any_cons, List.any_nil, Bool.or_false, tru_bool, tru_int, tru_none, tru_list, tru_tup, ty1, ty2, ty3, ty4, ty5, ty6, ty7, ty8, Bool.not_true, Bool.not_false, gCmp, gIdx, gNeg, cmp_gt, cmp_lt, cmp_ge, cmp_le, cmp_eqi, sli_tup, sli_list, rev_tup, add_tup, add_list, add_str, add_int, sub_int, ↓wp_ointg, ointK, popJ, ↓wp_chkl, chkK, ↓wp_putl, putK, putO_ite, putO_some, appF, ↓len_list, ↓len_tup, decide_eq_true_eq, decide_eq_false_iff_not, sz, Nat.reduceLeDiff]
    refine ⟨fun _ => ?_, fun _ => ⟨pool, a7, rfl, hp, hf2⟩⟩
    exact ⟨_, a7, rfl, pool_cst (by decide +kernel), hf2⟩
  clear hp hf2 pool a7 μ2
  rintro ⟨ρ, μ2⟩ ⟨pool, a7, e, hp, hf2⟩
  dsimp only at e hf2
  subst e
  refine wp_seq (I := fun s => PoolS many st s) ?_ ?_
  · simp only [den, Den.ex, Den.no, ↓wp_then, ↓wp_exp, ↓wp_set, ↓wp_kite, ↓wp_kret, ↓wp_sti, ↓wp_par, ↓wp_bind, ↓wp_ret, ↓wp_optS, ↓wp_optI, ↓wp_opd, ↓wp_frz, ↓wp_two, ↓wp_one, ↓wp_bin, ↓wp_cmp, ↓wp_idx, ↓wp_neg, ↓wp_not, ↓wp_isi, ↓wp_tru, ↓wp_tand, ↓wp_tor, ↓wp_tnot, ↓wp_ite, ↓wp_and, ↓wp_or, ↓wp_lnil, ↓wp_lcons, ↓wp_peeks0, ↓wp_peeks1, ↓wp_blt, ↓wp_tup, ↓wp_lst, ↓wp_var, varK, ↓opd_dat, ↓opd_own, ↓opd_ext, ↓opd_loc, ↓peek_dat, ↓peek_loc, locK, ↓frz_dat, ↓frz_own, ↓frz_loc, frzK, ↓setv_dat, ↓setv_own, ↓setv_ext, ↓ret_dat, ↓ret_own, ↓ret_ext, ↓ret_loc, retK, ↓wp_call, callK, ↓argv_dat, ↓argv_own, ↓argv_ext, ↓argv_loc, argK, ↓wp_lend, lendK, solve_nil, solve_dat, solve_ext, solve_scr, ↓wp_slot, flowK, endK, ↓wp_chn, ↓wp_sli, setSlot, List.getElem?_cons_zero, List.getElem?_cons_succ, Option.join_some, Option.map_some, List.length_cons, List.length_nil, Nat.reduceAdd, Nat.reduceLT, List.set_cons_zero, List.set_cons_succ, true_and, and_true, ↓wp_ifb, ↓wp_dct, ↓wp_lkv, ↓wp_sls, slsK, ↓wp_rev, ↓wp_asg, ↓wp_dot, ↓wp_join, ↓wp_app, ↓wp_pop1, true_implies, false_implies, Bool.true_eq_false, Bool.false_eq_true, and_self, List.any_cons, List.any_nil, Bool.or_false, tru_bool, tru_int, tru_none, tru_list, tru_tup, ty1, ty2, ty3, ty4, ty5, ty6, ty7, ty8, Bool.not_true, Bool.not_false, gCmp, gIdx, gNeg, cmp_gt, cmp_lt, cmp_ge, cmp_le, cmp_eqi, sli_tup, sli_list, rev_tup, add_tup, add_list, add_str, add_int, sub_int, ↓wp_ointg, ointK, popJ, ↓wp_chkl, chkK, ↓wp_putl, putK, putO_ite, putO_some, appF, ↓len_list, ↓len_tup, decide_eq_true_eq, decide_eq_false_iff_not, sz, Nat.reduceLeDiff]
    refine ⟨fun _ => ?_, fun _ => ⟨pool, a7, rfl, hp, hf2⟩⟩
    exact ⟨_, a7, rfl, pool_cst (by decide +kernel), hf2⟩
  clear hp hf2 pool a7 μ2
  rintro ⟨ρ, μ2⟩ ⟨pool, a7, e, hp, hf2⟩
  dsimp only at e hf2
  subst e
  refine wp_seq (I := fun s => PoolS many st s) ?_ ?_
  · simp only [den, Den.ex, Den.no, ↓wp_then, ↓wp_exp, ↓wp_set, ↓wp_kite, ↓wp_kret, ↓wp_sti, ↓wp_par, ↓wp_bind, ↓wp_ret, ↓wp_optS, ↓wp_optI, ↓wp_opd, ↓wp_frz, ↓wp_two, ↓wp_one, ↓wp_bin, ↓wp_cmp, ↓wp_idx, ↓wp_neg, ↓wp_not, ↓wp_isi, ↓wp_tru, ↓wp_tand, ↓wp_tor, ↓wp_tnot, ↓wp_ite, ↓wp_and, ↓wp_or, ↓wp_lnil, ↓wp_lcons, ↓wp_peeks0, ↓wp_peeks1, ↓wp_blt, ↓wp_tup, ↓wp_lst, ↓wp_var, varK, ↓opd_dat, ↓opd_own, ↓opd_ext, ↓opd_loc, ↓peek_dat, ↓peek_loc, locK, ↓frz_dat, ↓frz_own, ↓frz_loc, frzK, ↓setv_dat, ↓setv_own, ↓setv_ext, ↓ret_dat, ↓ret_own, ↓ret_ext, ↓ret_loc, retK, ↓wp_call, callK, ↓argv_dat, ↓argv_own, ↓argv_ext, ↓argv_loc, argK, ↓wp_lend, lendK, solve_nil, solve_dat, solve_ext, solve_scr, ↓wp_slot, flowK, endK, ↓wp_chn, ↓wp_sli, setSlot, List.getElem?_cons_zero, List.getElem?_cons_succ, Option.join_some, Option.map_some, List.length_cons, List.length_nil, Nat.reduceAdd, Nat.reduceLT, List.set_cons_zero, List.set_cons_succ, true_and, and_true, ↓wp_ifb, ↓wp_dct, ↓wp_lkv, ↓wp_sls, slsK, ↓wp_rev, ↓wp_asg, ↓wp_dot, ↓wp_join, ↓wp_app, ↓wp_pop1, true_implies, false_implies, Bool.true_eq_false, Bool.false_eq_true, and_self, List.any_cons, List.any_nil, Bool.or_false, tru_bool, tru_int, tru_none, tru_list, tru_tup, ty1, ty2, ty3, ty4, ty5, ty6, ty7, ty8, Bool.not_true, Bool.not_false, gCmp, gIdx, gNeg, cmp_gt, cmp_lt, cmp_ge, cmp_le, cmp_eqi, sli_tup, sli_list, rev_tup, add_tup, add_list, add_str, add_int, sub_int, ↓wp_ointg, ointK, popJ, ↓wp_chkl, chkK, ↓wp_putl, putK, putO_ite, putO_some, appF, ↓len_list, ↓len_tup, decide_eq_true_eq, decide_eq_false_iff_not, sz, Nat.reduceLeDiff]
    refine ⟨fun _ => ?_, fun _ => ⟨pool, a7, rfl, hp, hf2⟩⟩
    refine ⟨rfl, wp_mono (lcn (ρ := [some (.ext 0), some (.dat (.int many)), some (.own (.list pool)), none, none, some (.dat (.int st)), some (.dat (.str LET)), a7, none, none]) Fd (Nm8 1) (fun ds => ds.length ≤ 7) ?_ rfl rfl rfl ?_ ?_) ?_⟩
    · simp only [↓wp_range, ↓wp_then, ↓wp_exp, ↓wp_set, ↓wp_kite, ↓wp_kret, ↓wp_sti, ↓wp_par, ↓wp_bind, ↓wp_ret, ↓wp_optS, ↓wp_optI, ↓wp_opd, ↓wp_frz, ↓wp_two, ↓wp_one, ↓wp_bin, ↓wp_cmp, ↓wp_idx, ↓wp_neg, ↓wp_not, ↓wp_isi, ↓wp_tru, ↓wp_tand, ↓wp_tor, ↓wp_tnot, ↓wp_ite, ↓wp_and, ↓wp_or, ↓wp_lnil, ↓wp_lcons, ↓wp_peeks0, ↓wp_peeks1, ↓wp_blt, ↓wp_tup, ↓wp_lst, ↓wp_var, varK, ↓opd_dat, ↓opd_own, ↓opd_ext, ↓opd_loc, ↓peek_dat, ↓peek_loc, locK, ↓frz_dat, ↓frz_own, ↓frz_loc, frzK, ↓setv_dat, ↓setv_own, ↓setv_ext, ↓ret_dat, ↓ret_own, ↓ret_ext, ↓ret_loc, retK, ↓wp_call, callK, ↓argv_dat, ↓argv_own, ↓argv_ext, ↓argv_loc, argK, ↓wp_lend, lendK, solve_nil, solve_dat, solve_ext, solve_scr, ↓wp_slot, flowK, endK, ↓wp_chn, ↓wp_sli, setSlot, List.getElem?_cons_zero, List.getElem?_cons_succ, Option.join_some, Option.map_some, List.length_cons, List.length_nil, Nat.reduceAdd, Nat.reduceLT, List.set_cons_zero, List.set_cons_succ, true_and, and_true, ↓wp_ifb, ↓wp_dct, ↓wp_lkv, ↓wp_sls, slsK, ↓wp_rev, ↓wp_asg, ↓wp_dot, ↓wp_join, ↓wp_app, ↓wp_pop1, true_implies, false_implies, Bool.true_eq_false, Bool.false_eq_true, and_self, List.any_cons, List.any_nil, Bool.or_false, tru_bool, tru_int, tru_none, tru_list, tru_tup, ty1, ty2, ty3, ty4, ty5, ty6, ty7, ty8, Bool.not_true, Bool.not_false, gCmp, gIdx, gNeg, cmp_gt, cmp_lt, cmp_ge, cmp_le, cmp_eqi, sli_tup, sli_list, rev_tup, add_tup, add_list, add_str, add_int, sub_int, ↓wp_ointg, ointK, popJ, ↓wp_chkl, chkK, ↓wp_putl, putK, putO_ite, putO_some, appF, ↓len_list, ↓len_tup, decide_eq_true_eq, decide_eq_false_iff_not, sz, Nat.reduceLeDiff]
      refine t6 (by decide) (by decide) hf2 fun r μ3 r0 r1 hf3 => ?_
      simp only [↓wp_then, ↓wp_exp, ↓wp_set, ↓wp_kite, ↓wp_kret, ↓wp_sti, ↓wp_par, ↓wp_bind, ↓wp_ret, ↓wp_optS, ↓wp_optI, ↓wp_opd, ↓wp_frz, ↓wp_two, ↓wp_one, ↓wp_bin, ↓wp_cmp, ↓wp_idx, ↓wp_neg, ↓wp_not, ↓wp_isi, ↓wp_tru, ↓wp_tand, ↓wp_tor, ↓wp_tnot, ↓wp_ite, ↓wp_and, ↓wp_or, ↓wp_lnil, ↓wp_lcons, ↓wp_peeks0, ↓wp_peeks1, ↓wp_blt, ↓wp_tup, ↓wp_lst, ↓wp_var, varK, ↓opd_dat, ↓opd_own, ↓opd_ext, ↓opd_loc, ↓peek_dat, ↓peek_loc, locK, ↓frz_dat, ↓frz_own, ↓frz_loc, frzK, ↓setv_dat, ↓setv_own, ↓setv_ext, ↓ret_dat, ↓ret_own, ↓ret_ext, ↓ret_loc, retK, ↓wp_call, callK, ↓argv_dat, ↓argv_own, ↓argv_ext, ↓argv_loc, argK, ↓wp_lend, lendK, solve_nil, solve_dat, solve_ext, solve_scr, ↓wp_slot, flowK, endK, ↓wp_chn, ↓wp_sli, setSlot, List.getElem?_cons_zero, List.getElem?_cons_succ, Option.join_some, Option.map_some, List.length_cons, List.length_nil, Nat.reduceAdd, Nat.reduceLT, List.set_cons_zero, List.set_cons_succ, true_and, and_true, ↓wp_ifb, ↓wp_dct, ↓wp_lkv, ↓wp_sls, slsK, ↓wp_rev, ↓wp_asg, ↓wp_dot, ↓wp_join, ↓wp_app, ↓wp_pop1, true_implies, false_implies, Bool.true_eq_false, Bool.false_eq_true, and_self, List.any_cons, List.any_nil, Bool.or_false, tru_bool, tru_int, tru_none, tru_list, tru_tup, ty1, ty2, ty3, ty4, ty5, ty6, ty7, ty8, Bool.not_true, Bool.not_false, gCmp, gIdx, gNeg, cmp_gt, cmp_lt, cmp_ge, cmp_le, cmp_eqi, sli_tup, sli_list, rev_tup, add_tup, add_list, add_str, add_int, sub_int, ↓wp_ointg, ointK, popJ, ↓wp_chkl, chkK, ↓wp_putl, putK, putO_ite, putO_some, appF, ↓len_list, ↓len_tup, decide_eq_true_eq, decide_eq_false_iff_not, sz, Nat.reduceLeDiff, ↓range_one (fit_small r0 (by omega))]
      refine ⟨?_, hf3⟩
      rw [List.length_map, List.length_range]
      omega
    · intro ds q
      rw [sizeLine_eq']; omega
    · intro ds q d hd μ3 hf3
      simp only [↓wp_turn, ↓wp_gvar, ↓wp_then, ↓wp_exp, ↓wp_set, ↓wp_kite, ↓wp_kret, ↓wp_sti, ↓wp_par, ↓wp_bind, ↓wp_ret, ↓wp_optS, ↓wp_optI, ↓wp_opd, ↓wp_frz, ↓wp_two, ↓wp_one, ↓wp_bin, ↓wp_cmp, ↓wp_idx, ↓wp_neg, ↓wp_not, ↓wp_isi, ↓wp_tru, ↓wp_tand, ↓wp_tor, ↓wp_tnot, ↓wp_ite, ↓wp_and, ↓wp_or, ↓wp_lnil, ↓wp_lcons, ↓wp_peeks0, ↓wp_peeks1, ↓wp_blt, ↓wp_tup, ↓wp_lst, ↓wp_var, varK, ↓opd_dat, ↓opd_own, ↓opd_ext, ↓opd_loc, ↓peek_dat, ↓peek_loc, locK, ↓frz_dat, ↓frz_own, ↓frz_loc, frzK, ↓setv_dat, ↓setv_own, ↓setv_ext, ↓ret_dat, ↓ret_own, ↓ret_ext, ↓ret_loc, retK, ↓wp_call, callK, ↓argv_dat, ↓argv_own, ↓argv_ext, ↓argv_loc, argK, ↓wp_lend, lendK, solve_nil, solve_dat, solve_ext, solve_scr, ↓wp_slot, flowK, endK, ↓wp_chn, ↓wp_sli, setSlot, List.getElem?_cons_zero, List.getElem?_cons_succ, Option.join_some, Option.map_some, List.length_cons, List.length_nil, Nat.reduceAdd, Nat.reduceLT, List.set_cons_zero, List.set_cons_succ, true_and, and_true, ↓wp_ifb, ↓wp_dct, ↓wp_lkv, ↓wp_sls, slsK, ↓wp_rev, ↓wp_asg, ↓wp_dot, ↓wp_join, ↓wp_app, ↓wp_pop1, true_implies, false_implies, Bool.true_eq_false, Bool.false_eq_true, and_self, List.any_cons, List.any_nil, Bool.or_false, tru_bool, tru_int, tru_none, tru_list, tru_tup, ty1, ty2, ty3, ty4, ty5, ty6, ty7, ty8, Bool.not_true, Bool.not_false, gCmp, gIdx, gNeg, cmp_gt, cmp_lt, cmp_ge, cmp_le, cmp_eqi, sli_tup, sli_list, rev_tup, add_tup, add_list, add_str, add_int, sub_int, ↓wp_ointg, ointK, popJ, ↓wp_chkl, chkK, ↓wp_putl, putK, putO_ite, putO_some, appF, ↓len_list, ↓len_tup, decide_eq_true_eq, decide_eq_false_iff_not, sz, Nat.reduceLeDiff]
      refine t6 (by decide) (by decide) hf3 fun r μ4 r0 r1 hf4 => ?_
      obtain ⟨c, hc, e⟩ := idx_let r0 r1
      simp only [↓wp_then, ↓wp_exp, ↓wp_set, ↓wp_kite, ↓wp_kret, ↓wp_sti, ↓wp_par, ↓wp_bind, ↓wp_ret, ↓wp_optS, ↓wp_optI, ↓wp_opd, ↓wp_frz, ↓wp_two, ↓wp_one, ↓wp_bin, ↓wp_cmp, ↓wp_idx, ↓wp_neg, ↓wp_not, ↓wp_isi, ↓wp_tru, ↓wp_tand, ↓wp_tor, ↓wp_tnot, ↓wp_ite, ↓wp_and, ↓wp_or, ↓wp_lnil, ↓wp_lcons, ↓wp_peeks0, ↓wp_peeks1, ↓wp_blt, ↓wp_tup, ↓wp_lst, ↓wp_var, varK, ↓opd_dat, ↓opd_own, ↓opd_ext, ↓opd_loc, ↓peek_dat, ↓peek_loc, locK, ↓frz_dat, ↓frz_own, ↓frz_loc, frzK, ↓setv_dat, ↓setv_own, ↓setv_ext, ↓ret_dat, ↓ret_own, ↓ret_ext, ↓ret_loc, retK, ↓wp_call, callK, ↓argv_dat, ↓argv_own, ↓argv_ext, ↓argv_loc, argK, ↓wp_lend, lendK, solve_nil, solve_dat, solve_ext, solve_scr, ↓wp_slot, flowK, endK, ↓wp_chn, ↓wp_sli, setSlot, List.getElem?_cons_zero, List.getElem?_cons_succ, Option.join_some, Option.map_some, List.length_cons, List.length_nil, Nat.reduceAdd, Nat.reduceLT, List.set_cons_zero, List.set_cons_succ, true_and, and_true, ↓wp_ifb, ↓wp_dct, ↓wp_lkv, ↓wp_sls, slsK, ↓wp_rev, ↓wp_asg, ↓wp_dot, ↓wp_join, ↓wp_app, ↓wp_pop1, true_implies, false_implies, Bool.true_eq_false, Bool.false_eq_true, and_self, List.any_cons, List.any_nil, Bool.or_false, tru_bool, tru_int, tru_none, tru_list, tru_tup, ty1, ty2, ty3, ty4, ty5, ty6, ty7, ty8, Bool.not_true, Bool.not_false, gCmp, gIdx, gNeg, cmp_gt, cmp_lt, cmp_ge, cmp_le, cmp_eqi, sli_tup, sli_list, rev_tup, add_tup, add_list, add_str, add_int, sub_int, ↓wp_ointg, ointK, popJ, ↓wp_chkl, chkK, ↓wp_putl, putK, putO_ite, putO_some, appF, ↓len_list, ↓len_tup, decide_eq_true_eq, decide_eq_false_iff_not, sz, Nat.reduceLeDiff, e]
      exact ⟨⟨_, rfl, nm_sign hc⟩, rfl, hf4⟩
    · rintro v t ⟨ds, ys, μ3, rfl, rfl, hf3, q, hl, hr⟩
      obtain ⟨ss, e1, e2, e3⟩ := strs_of (P := fun x => x.length ≤ 1 ∧ Asc x) hr
      obtain ⟨j1, j2⟩ := join_asc ss e3
      have eg : gJoin (.str (Str.ofString "")) (.list ys) = some (.dat (.str (Str.join (Str.ofString "") ss))) := by
        have e0 : (Str.ofString "").length = 0 := by decide
        have es : (ss.map (·.length)).sum ≤ ss.length := by
          have : ∀ l : List Str, (∀ x ∈ l, x.length ≤ 1 ∧ Asc x) → (l.map (·.length)).sum ≤ l.length := by
            intro l
            induction l with
            | nil => intro _; exact Nat.le_refl _
            | cons x l ih =>
              intro h
              have := ih fun y hy => h y (List.mem_cons_of_mem _ hy)
              have := (h x List.mem_cons_self).1
              simp only [List.map_cons, List.sum_cons, List.length_cons]
              omega
          exact this ss e3
        show (strsOf ys).bind _ = _
        rw [e1]
        show (if (ss.map (·.length)).sum + ss.length * (Str.ofString "").length ≤ sizeLine then some (Val.dat (.str (Txt.join (Str.ofString "") ss))) else none) = _
        rw [e0, if_pos (by rw [sizeLine_eq']; omega)]
        show some (Val.dat (.str (Builtin.Str.glued (Str.ofString "") ss))) = _
        rw [StrLaws.glued_eq_join]
      simp only [↓wp_then, ↓wp_exp, ↓wp_set, ↓wp_kite, ↓wp_kret, ↓wp_sti, ↓wp_par, ↓wp_bind, ↓wp_ret, ↓wp_optS, ↓wp_optI, ↓wp_opd, ↓wp_frz, ↓wp_two, ↓wp_one, ↓wp_bin, ↓wp_cmp, ↓wp_idx, ↓wp_neg, ↓wp_not, ↓wp_isi, ↓wp_tru, ↓wp_tand, ↓wp_tor, ↓wp_tnot, ↓wp_ite, ↓wp_and, ↓wp_or, ↓wp_lnil, ↓wp_lcons, ↓wp_peeks0, ↓wp_peeks1, ↓wp_blt, ↓wp_tup, ↓wp_lst, ↓wp_var, varK, ↓opd_dat, ↓opd_own, ↓opd_ext, ↓opd_loc, ↓peek_dat, ↓peek_loc, locK, ↓frz_dat, ↓frz_own, ↓frz_loc, frzK, ↓setv_dat, ↓setv_own, ↓setv_ext, ↓ret_dat, ↓ret_own, ↓ret_ext, ↓ret_loc, retK, ↓wp_call, callK, ↓argv_dat, ↓argv_own, ↓argv_ext, ↓argv_loc, argK, ↓wp_lend, lendK, solve_nil, solve_dat, solve_ext, solve_scr, ↓wp_slot, flowK, endK, ↓wp_chn, ↓wp_sli, setSlot, List.getElem?_cons_zero, List.getElem?_cons_succ, Option.join_some, Option.map_some, List.length_cons, List.length_nil, Nat.reduceAdd, Nat.reduceLT, List.set_cons_zero, List.set_cons_succ, true_and, and_true, ↓wp_ifb, ↓wp_dct, ↓wp_lkv, ↓wp_sls, slsK, ↓wp_rev, ↓wp_asg, ↓wp_dot, ↓wp_join, ↓wp_app, ↓wp_pop1, true_implies, false_implies, Bool.true_eq_false, Bool.false_eq_true, and_self, List.any_cons, List.any_nil, Bool.or_false, tru_bool, tru_int, tru_none, tru_list, tru_tup, ty1, ty2, ty3, ty4, ty5, ty6, ty7, ty8, Bool.not_true, Bool.not_false, gCmp, gIdx, gNeg, cmp_gt, cmp_lt, cmp_ge, cmp_le, cmp_eqi, sli_tup, sli_list, rev_tup, add_tup, add_list, add_str, add_int, sub_int, ↓wp_ointg, ointK, popJ, ↓wp_chkl, chkK, ↓wp_putl, putK, putO_ite, putO_some, appF, ↓len_list, ↓len_tup, decide_eq_true_eq, decide_eq_false_iff_not, sz, Nat.reduceLeDiff, eg]
      have hst : (Str.join (Str.ofString "") ss).length ≤ 7 := by omega
      refine wp_mono (lc1 (ρ := [some (.ext 0), some (.dat (.int many)), some (.own (.list pool)), none, none, some (.dat (.int st)), some (.dat (.str LET)), some (.dat (.str (Str.join (Str.ofString "") ss))), none, none]) (i := 8) (ds := LET.cps.toList.map fun c => .str ⟨#[c]⟩) (glueTo (Str.join (Str.ofString "") ss)) ?_ (by simp) rfl ?_ ?_) ?_
      · simp only [↓wp_wof, ↓wp_then, ↓wp_exp, ↓wp_set, ↓wp_kite, ↓wp_kret, ↓wp_sti, ↓wp_par, ↓wp_bind, ↓wp_ret, ↓wp_optS, ↓wp_optI, ↓wp_opd, ↓wp_frz, ↓wp_two, ↓wp_one, ↓wp_bin, ↓wp_cmp, ↓wp_idx, ↓wp_neg, ↓wp_not, ↓wp_isi, ↓wp_tru, ↓wp_tand, ↓wp_tor, ↓wp_tnot, ↓wp_ite, ↓wp_and, ↓wp_or, ↓wp_lnil, ↓wp_lcons, ↓wp_peeks0, ↓wp_peeks1, ↓wp_blt, ↓wp_tup, ↓wp_lst, ↓wp_var, varK, ↓opd_dat, ↓opd_own, ↓opd_ext, ↓opd_loc, ↓peek_dat, ↓peek_loc, locK, ↓frz_dat, ↓frz_own, ↓frz_loc, frzK, ↓setv_dat, ↓setv_own, ↓setv_ext, ↓ret_dat, ↓ret_own, ↓ret_ext, ↓ret_loc, retK, ↓wp_call, callK, ↓argv_dat, ↓argv_own, ↓argv_ext, ↓argv_loc, argK, ↓wp_lend, lendK, solve_nil, solve_dat, solve_ext, solve_scr, ↓wp_slot, flowK, endK, ↓wp_chn, ↓wp_sli, setSlot, List.getElem?_cons_zero, List.getElem?_cons_succ, Option.join_some, Option.map_some, List.length_cons, List.length_nil, Nat.reduceAdd, Nat.reduceLT, List.set_cons_zero, List.set_cons_succ, true_and, and_true, ↓wp_ifb, ↓wp_dct, ↓wp_lkv, ↓wp_sls, slsK, ↓wp_rev, ↓wp_asg, ↓wp_dot, ↓wp_join, ↓wp_app, ↓wp_pop1, true_implies, false_implies, Bool.true_eq_false, Bool.false_eq_true, and_self, List.any_cons, List.any_nil, Bool.or_false, tru_bool, tru_int, tru_none, tru_list, tru_tup, ty1, ty2, ty3, ty4, ty5, ty6, ty7, ty8, Bool.not_true, Bool.not_false, gCmp, gIdx, gNeg, cmp_gt, cmp_lt, cmp_ge, cmp_le, cmp_eqi, sli_tup, sli_list, rev_tup, add_tup, add_list, add_str, add_int, sub_int, ↓wp_ointg, ointK, popJ, ↓wp_chkl, chkK, ↓wp_putl, putK, putO_ite, putO_some, appF, ↓len_list, ↓len_tup, decide_eq_true_eq, decide_eq_false_iff_not, sz, Nat.reduceLeDiff, str_items]
      · rw [(glue_all hst j2 _ let_asc).1, let_len]; decide
      · intro d hd
        obtain ⟨c, hc, rfl⟩ := List.mem_map.mp hd
        have hz : (Str.join (Str.ofString "") ss).length + (⟨#[c]⟩ : Str).length ≤ sizeLine := by
          have : (⟨#[c]⟩ : Str).length = 1 := rfl
          rw [this, sizeLine_eq']; omega
        simp only [↓wp_then, ↓wp_exp, ↓wp_set, ↓wp_kite, ↓wp_kret, ↓wp_sti, ↓wp_par, ↓wp_bind, ↓wp_ret, ↓wp_optS, ↓wp_optI, ↓wp_opd, ↓wp_frz, ↓wp_two, ↓wp_one, ↓wp_bin, ↓wp_cmp, ↓wp_idx, ↓wp_neg, ↓wp_not, ↓wp_isi, ↓wp_tru, ↓wp_tand, ↓wp_tor, ↓wp_tnot, ↓wp_ite, ↓wp_and, ↓wp_or, ↓wp_lnil, ↓wp_lcons, ↓wp_peeks0, ↓wp_peeks1, ↓wp_blt, ↓wp_tup, ↓wp_lst, ↓wp_var, varK, ↓opd_dat, ↓opd_own, ↓opd_ext, ↓opd_loc, ↓peek_dat, ↓peek_loc, locK, ↓frz_dat, ↓frz_own, ↓frz_loc, frzK, ↓setv_dat, ↓setv_own, ↓setv_ext, ↓ret_dat, ↓ret_own, ↓ret_ext, ↓ret_loc, retK, ↓wp_call, callK, ↓argv_dat, ↓argv_own, ↓argv_ext, ↓argv_loc, argK, ↓wp_lend, lendK, solve_nil, solve_dat, solve_ext, solve_scr, ↓wp_slot, flowK, endK, ↓wp_chn, ↓wp_sli, setSlot, List.getElem?_cons_zero, List.getElem?_cons_succ, Option.join_some, Option.map_some, List.length_cons, List.length_nil, Nat.reduceAdd, Nat.reduceLT, List.set_cons_zero, List.set_cons_succ, true_and, and_true, ↓wp_ifb, ↓wp_dct, ↓wp_lkv, ↓wp_sls, slsK, ↓wp_rev, ↓wp_asg, ↓wp_dot, ↓wp_join, ↓wp_app, ↓wp_pop1, true_implies, false_implies, Bool.true_eq_false, Bool.false_eq_true, and_self, List.any_cons, List.any_nil, Bool.or_false, tru_bool, tru_int, tru_none, tru_list, tru_tup, ty1, ty2, ty3, ty4, ty5, ty6, ty7, ty8, Bool.not_true, Bool.not_false, gCmp, gIdx, gNeg, cmp_gt, cmp_lt, cmp_ge, cmp_le, cmp_eqi, sli_tup, sli_list, rev_tup, add_tup, add_list, add_str, add_int, sub_int, ↓wp_ointg, ointK, popJ, ↓wp_chkl, chkK, ↓wp_putl, putK, putO_ite, putO_some, appF, ↓len_list, ↓len_tup, decide_eq_true_eq, decide_eq_false_iff_not, sz, Nat.reduceLeDiff, hz]
        rfl
      · rintro v t ⟨rfl, rfl⟩
        obtain ⟨g1, g2⟩ := glue_all hst j2 _ let_asc
        simp only [↓wp_then, ↓wp_exp, ↓wp_set, ↓wp_kite, ↓wp_kret, ↓wp_sti, ↓wp_par, ↓wp_bind, ↓wp_ret, ↓wp_optS, ↓wp_optI, ↓wp_opd, ↓wp_frz, ↓wp_two, ↓wp_one, ↓wp_bin, ↓wp_cmp, ↓wp_idx, ↓wp_neg, ↓wp_not, ↓wp_isi, ↓wp_tru, ↓wp_tand, ↓wp_tor, ↓wp_tnot, ↓wp_ite, ↓wp_and, ↓wp_or, ↓wp_lnil, ↓wp_lcons, ↓wp_peeks0, ↓wp_peeks1, ↓wp_blt, ↓wp_tup, ↓wp_lst, ↓wp_var, varK, ↓opd_dat, ↓opd_own, ↓opd_ext, ↓opd_loc, ↓peek_dat, ↓peek_loc, locK, ↓frz_dat, ↓frz_own, ↓frz_loc, frzK, ↓setv_dat, ↓setv_own, ↓setv_ext, ↓ret_dat, ↓ret_own, ↓ret_ext, ↓ret_loc, retK, ↓wp_call, callK, ↓argv_dat, ↓argv_own, ↓argv_ext, ↓argv_loc, argK, ↓wp_lend, lendK, solve_nil, solve_dat, solve_ext, solve_scr, ↓wp_slot, flowK, endK, ↓wp_chn, ↓wp_sli, setSlot, List.getElem?_cons_zero, List.getElem?_cons_succ, Option.join_some, Option.map_some, List.length_cons, List.length_nil, Nat.reduceAdd, Nat.reduceLT, List.set_cons_zero, List.set_cons_succ, true_and, and_true, ↓wp_ifb, ↓wp_dct, ↓wp_lkv, ↓wp_sls, slsK, ↓wp_rev, ↓wp_asg, ↓wp_dot, ↓wp_join, ↓wp_app, ↓wp_pop1, true_implies, false_implies, Bool.true_eq_false, Bool.false_eq_true, and_self, List.any_cons, List.any_nil, Bool.or_false, tru_bool, tru_int, tru_none, tru_list, tru_tup, ty1, ty2, ty3, ty4, ty5, ty6, ty7, ty8, Bool.not_true, Bool.not_false, gCmp, gIdx, gNeg, cmp_gt, cmp_lt, cmp_ge, cmp_le, cmp_eqi, sli_tup, sli_list, rev_tup, add_tup, add_list, add_str, add_int, sub_int, ↓wp_ointg, ointK, popJ, ↓wp_chkl, chkK, ↓wp_putl, putK, putO_ite, putO_some, appF, ↓len_list, ↓len_tup, decide_eq_true_eq, decide_eq_false_iff_not, sz, Nat.reduceLeDiff]
        exact ⟨_, _, rfl, ⟨by rw [g1, let_len]; decide, by rw [g1, let_len]; decide, g2⟩, hf3⟩
  clear hp hf2 pool a7 μ2
  rintro ⟨ρ, μ2⟩ ⟨pool, a7, e, hp, hf2⟩
  dsimp only at e hf2
  subst e
  refine wp_seq (t8a (L := L) (n := n) hp hf2) ?_
  rintro ⟨ρ, μ3⟩ ⟨pool, a7, a8, e, hp, hf3⟩
  dsimp only at e hf3
  subst e
  exact t8b hm hm2 h hp hf3
end
end Ded.DM
end

section
set_option linter.all false
set_option maxRecDepth 100000
set_option maxHeartbeats 1000000
namespace Ded.DM
open PySem Ded.P
section
variable {L n : Nat} {d : D} {μ : List D} {K : Val → List D → Prop}
/-- nothing is wrong with good values -/
theorem check {vs : List D} {a0 a1 a3 a4 a5 a7 : Option Val} (hv : ∀ d ∈ vs, Good d) : wp (kIte (den (callD Ds L (n + 3)) (.cmp .ne (.lc (.var 6) (.var 6) (.var 2) (.cons (.not (.call 14 (.cons (.var 6) .nil))) .nil) [6]) (.lst .nil))).t (run (callD Ds L (n + 3)) L (.ret (.cst (.bool false)))) (run (callD Ds L (n + 3)) L .nop)) ⟨[a0, a1, some (.own (.list vs)), a3, a4, a5, none, a7], μ⟩ fun f s => f = .nx ∧ s = ⟨[a0, a1, some (.dat (.list vs)), a3, a4, a5, none, a7], μ⟩ := by
  refine wp_ite_ ?_
  simp only [den, Den.ex, Den.no, ↓wp_then, ↓wp_exp, ↓wp_set, ↓wp_kite, ↓wp_kret, ↓wp_sti, ↓wp_par, ↓wp_bind, ↓wp_ret, ↓wp_optS, ↓wp_optI, ↓wp_opd, ↓wp_frz, ↓wp_two, ↓wp_one, ↓wp_bin, ↓wp_cmp, ↓wp_idx, ↓wp_neg, ↓wp_not, ↓wp_isi, ↓wp_tru, ↓wp_tand, ↓wp_tor, ↓wp_tnot, ↓wp_ite, ↓wp_and, ↓wp_or, ↓wp_lnil, ↓wp_lcons, ↓wp_peeks0, ↓wp_peeks1, ↓wp_blt, ↓wp_tup, ↓wp_lst, ↓wp_var, varK, ↓opd_dat, ↓opd_own, ↓opd_ext, ↓opd_loc, ↓peek_dat, ↓peek_loc, locK, ↓frz_dat, ↓frz_own, ↓frz_loc, frzK, ↓setv_dat, ↓setv_own, ↓setv_ext, ↓ret_dat, ↓ret_own, ↓ret_ext, ↓ret_loc, retK, ↓wp_call, callK, ↓argv_dat, ↓argv_own, ↓argv_ext, ↓argv_loc, argK, ↓wp_lend, lendK, solve_nil, solve_dat, solve_ext, solve_scr, ↓wp_slot, flowK, endK, ↓wp_chn, ↓wp_sli, setSlot, List.getElem?_cons_zero, List.getElem?_cons_succ, Option.join_some, Option.map_some, List.length_cons, List.length_nil, Nat.reduceAdd, Nat.reduceLT, List.set_cons_zero, List.set_cons_succ, true_and, and_true, ↓wp_ifb, ↓wp_dct, ↓wp_lkv, ↓wp_sls, slsK, ↓wp_rev, ↓wp_asg, ↓wp_dot, ↓wp_join, ↓wp_app, ↓wp_pop1, true_implies, false_implies, Bool.true_eq_false, Bool.false_eq_true, and_self, List.any_cons, List.any_nil, Bool.or_false, tru_bool, tru_int, tru_none, tru_list, tru_tup, ty1, ty2, ty3, ty4, ty5, ty6, ty7, ty8, Bool.not_true, Bool.not_false, gCmp, gIdx, gNeg, cmp_gt, cmp_lt, cmp_ge, cmp_le, cmp_eqi, sli_tup, sli_list, rev_tup, add_tup, add_list, add_str, add_int, sub_int, ↓wp_ointg, ointK, popJ, ↓wp_chkl, chkK, ↓wp_putl, putK, putO_ite, putO_some, appF, ↓len_list, ↓len_tup, decide_eq_true_eq, decide_eq_false_iff_not, sz, Nat.reduceLeDiff]
  refine wp_mono (lc1s (ρ := [a0, a1, some (.dat (.list vs)), a3, a4, a5, none, a7]) (μ := μ) (i := 6) (ds := vs) (fun _ => none) ?_ (by simp) rfl ?_ ?_) ?_
  · simp only [↓wp_wof, ↓wp_then, ↓wp_exp, ↓wp_set, ↓wp_kite, ↓wp_kret, ↓wp_sti, ↓wp_par, ↓wp_bind, ↓wp_ret, ↓wp_optS, ↓wp_optI, ↓wp_opd, ↓wp_frz, ↓wp_two, ↓wp_one, ↓wp_bin, ↓wp_cmp, ↓wp_idx, ↓wp_neg, ↓wp_not, ↓wp_isi, ↓wp_tru, ↓wp_tand, ↓wp_tor, ↓wp_tnot, ↓wp_ite, ↓wp_and, ↓wp_or, ↓wp_lnil, ↓wp_lcons, ↓wp_peeks0, ↓wp_peeks1, ↓wp_blt, ↓wp_tup, ↓wp_lst, ↓wp_var, varK, ↓opd_dat, ↓opd_own, ↓opd_ext, ↓opd_loc, ↓peek_dat, ↓peek_loc, locK, ↓frz_dat, ↓frz_own, ↓frz_loc, frzK, ↓setv_dat, ↓setv_own, ↓setv_ext, ↓ret_dat, ↓ret_own, ↓ret_ext, ↓ret_loc, retK, ↓wp_call, callK, ↓argv_dat, ↓argv_own, ↓argv_ext, ↓argv_loc, argK, ↓wp_lend, lendK, solve_nil, solve_dat, solve_ext, solve_scr, ↓wp_slot, flowK, endK, ↓wp_chn, ↓wp_sli, setSlot, List.getElem?_cons_zero, List.getElem?_cons_succ, Option.join_some, Option.map_some, List.length_cons, List.length_nil, Nat.reduceAdd, Nat.reduceLT, List.set_cons_zero, List.set_cons_succ, true_and, and_true, ↓wp_ifb, ↓wp_dct, ↓wp_lkv, ↓wp_sls, slsK, ↓wp_rev, ↓wp_asg, ↓wp_dot, ↓wp_join, ↓wp_app, ↓wp_pop1, true_implies, false_implies, Bool.true_eq_false, Bool.false_eq_true, and_self, List.any_cons, List.any_nil, Bool.or_false, tru_bool, tru_int, tru_none, tru_list, tru_tup, ty1, ty2, ty3, ty4, ty5, ty6, ty7, ty8, Bool.not_true, Bool.not_false, gCmp, gIdx, gNeg, cmp_gt, cmp_lt, cmp_ge, cmp_le, cmp_eqi, sli_tup, sli_list, rev_tup, add_tup, add_list, add_str, add_int, sub_int, ↓wp_ointg, ointK, popJ, ↓wp_chkl, chkK, ↓wp_putl, putK, putO_ite, putO_some, appF, ↓len_list, ↓len_tup, decide_eq_true_eq, decide_eq_false_iff_not, sz, Nat.reduceLeDiff, itemsOf]
  · rw [List.filterMap_eq_nil_iff.mpr fun _ _ => rfl]; exact Nat.zero_le _
  · intro d hd
    simp only [↓wp_then, ↓wp_exp, ↓wp_set, ↓wp_kite, ↓wp_kret, ↓wp_sti, ↓wp_par, ↓wp_bind, ↓wp_ret, ↓wp_optS, ↓wp_optI, ↓wp_opd, ↓wp_frz, ↓wp_two, ↓wp_one, ↓wp_bin, ↓wp_cmp, ↓wp_idx, ↓wp_neg, ↓wp_not, ↓wp_isi, ↓wp_tru, ↓wp_tand, ↓wp_tor, ↓wp_tnot, ↓wp_ite, ↓wp_and, ↓wp_or, ↓wp_lnil, ↓wp_lcons, ↓wp_peeks0, ↓wp_peeks1, ↓wp_blt, ↓wp_tup, ↓wp_lst, ↓wp_var, varK, ↓opd_dat, ↓opd_own, ↓opd_ext, ↓opd_loc, ↓peek_dat, ↓peek_loc, locK, ↓frz_dat, ↓frz_own, ↓frz_loc, frzK, ↓setv_dat, ↓setv_own, ↓setv_ext, ↓ret_dat, ↓ret_own, ↓ret_ext, ↓ret_loc, retK, ↓wp_call, callK, ↓argv_dat, ↓argv_own, ↓argv_ext, ↓argv_loc, argK, ↓wp_lend, lendK, solve_nil, solve_dat, solve_ext, solve_scr, ↓wp_slot, flowK, endK, ↓wp_chn, ↓wp_sli, setSlot, List.getElem?_cons_zero, List.getElem?_cons_succ, Option.join_some, Option.map_some, List.length_cons, List.length_nil, Nat.reduceAdd, Nat.reduceLT, List.set_cons_zero, List.set_cons_succ, true_and, and_true, ↓wp_ifb, ↓wp_dct, ↓wp_lkv, ↓wp_sls, slsK, ↓wp_rev, ↓wp_asg, ↓wp_dot, ↓wp_join, ↓wp_app, ↓wp_pop1, true_implies, false_implies, Bool.true_eq_false, Bool.false_eq_true, and_self, List.any_cons, List.any_nil, Bool.or_false, tru_bool, tru_int, tru_none, tru_list, tru_tup, ty1, ty2, ty3, ty4, ty5, ty6, ty7, ty8, Bool.not_true, Bool.not_false, gCmp, gIdx, gNeg, cmp_gt, cmp_lt, cmp_ge, cmp_le, cmp_eqi, sli_tup, sli_list, rev_tup, add_tup, add_list, add_str, add_int, sub_int, ↓wp_ointg, ointK, popJ, ↓wp_chkl, chkK, ↓wp_putl, putK, putO_ite, putO_some, appF, ↓len_list, ↓len_tup, decide_eq_true_eq, decide_eq_false_iff_not, sz, Nat.reduceLeDiff, ↓s14 (hv d hd)]
  · rintro v t ⟨rfl, rfl⟩
    rw [List.filterMap_eq_nil_iff.mpr fun _ _ => rfl]
    have e : cmpD .ne (.list []) (.list []) = some false := by decide +kernel
    simp only [↓wp_then, ↓wp_exp, ↓wp_set, ↓wp_kite, ↓wp_kret, ↓wp_sti, ↓wp_par, ↓wp_bind, ↓wp_ret, ↓wp_optS, ↓wp_optI, ↓wp_opd, ↓wp_frz, ↓wp_two, ↓wp_one, ↓wp_bin, ↓wp_cmp, ↓wp_idx, ↓wp_neg, ↓wp_not, ↓wp_isi, ↓wp_tru, ↓wp_tand, ↓wp_tor, ↓wp_tnot, ↓wp_ite, ↓wp_and, ↓wp_or, ↓wp_lnil, ↓wp_lcons, ↓wp_peeks0, ↓wp_peeks1, ↓wp_blt, ↓wp_tup, ↓wp_lst, ↓wp_var, varK, ↓opd_dat, ↓opd_own, ↓opd_ext, ↓opd_loc, ↓peek_dat, ↓peek_loc, locK, ↓frz_dat, ↓frz_own, ↓frz_loc, frzK, ↓setv_dat, ↓setv_own, ↓setv_ext, ↓ret_dat, ↓ret_own, ↓ret_ext, ↓ret_loc, retK, ↓wp_call, callK, ↓argv_dat, ↓argv_own, ↓argv_ext, ↓argv_loc, argK, ↓wp_lend, lendK, solve_nil, solve_dat, solve_ext, solve_scr, ↓wp_slot, flowK, endK, ↓wp_chn, ↓wp_sli, setSlot, List.getElem?_cons_zero, List.getElem?_cons_succ, Option.join_some, Option.map_some, List.length_cons, List.length_nil, Nat.reduceAdd, Nat.reduceLT, List.set_cons_zero, List.set_cons_succ, true_and, and_true, ↓wp_ifb, ↓wp_dct, ↓wp_lkv, ↓wp_sls, slsK, ↓wp_rev, ↓wp_asg, ↓wp_dot, ↓wp_join, ↓wp_app, ↓wp_pop1, true_implies, false_implies, Bool.true_eq_false, Bool.false_eq_true, and_self, List.any_cons, List.any_nil, Bool.or_false, tru_bool, tru_int, tru_none, tru_list, tru_tup, ty1, ty2, ty3, ty4, ty5, ty6, ty7, ty8, Bool.not_true, Bool.not_false, gCmp, gIdx, gNeg, cmp_gt, cmp_lt, cmp_ge, cmp_le, cmp_eqi, sli_tup, sli_list, rev_tup, add_tup, add_list, add_str, add_int, sub_int, ↓wp_ointg, ointK, popJ, ↓wp_chkl, chkK, ↓wp_putl, putK, putO_ite, putO_some, appF, ↓len_list, ↓len_tup, decide_eq_true_eq, decide_eq_false_iff_not, sz, Nat.reduceLeDiff, e, run]
/-- the feed, one's own at first, then others' too -/
def FeedAt (f1 : Option Val) (μ : List D) : Prop := (∃ c : List Int, c.length ≤ 63 ∧ f1 = some (.own (feedD c 0 0 0)) ∧ μ = []) ∨ (f1 = some (.ext 0) ∧ Fd μ)
def nxt : C → C
  | .asg _ _ k => k
  | .set _ _ k => k
  | .ite _ _ _ k => k
  | .for_ _ _ _ k => k
  | k => k
def bodyOf : C → C
  | .for_ _ _ b _ => b
  | k => k
def k5 (c : C) : C := nxt (nxt (nxt (nxt (nxt c))))
/-- the for's body -/
def lapC : C := bodyOf (nxt (k5 d_law.body))
theorem sort_is {ds : List D} (h : ∀ d ∈ ds, Nm8 8 d) (hl : ds.length ≤ 60) : ∃ g : List D, bltD .sorted [.list ds] = some (.own (.list g)) ∧ g.length = ds.length ∧ ∀ d ∈ g, Nm8 8 d := by
  obtain ⟨ss, e1, e2, e3⟩ := strs_of h
  refine ⟨(ss.mergeSort strLe).map .str, ?_, ?_, ?_⟩
  · show (strsOf ds).bind _ = _
    rw [e1]
    show (if ss.length < 64 then some (Val.own (.list ((ss.mergeSort strLe).map .str))) else none) = _
    rw [if_pos (by omega)]
  · rw [List.length_map, List.length_mergeSort, e2]
  · intro d hd
    obtain ⟨x, hx, rfl⟩ := List.mem_map.mp hd
    exact ⟨x, rfl, e3 x (List.mem_mergeSort.mp hx)⟩
theorem nm8_at {d : D} {k : Nat} (hk : k ≤ 20) (h : Nm8 k d) : At d := by
  obtain ⟨x, rfl, h1, h2⟩ := h
  exact nm_at ⟨by omega, h2⟩
theorem t15a {ns : List Int} {a2 a4 a5 lap : Option Val} {f1 : Option Val} (hf : FeedAt f1 μ) {m : Flow → S → Prop} (h : ∀ ds μ', 1 ≤ ds.length → ds.length ≤ 6 → (∀ d ∈ ds, Nm8 8 d) → Fd μ' → wp (run (callD Ds L (n + 5)) L (nxt lapC)) ⟨[some (.scr ns), some (.ext 0), a2, lap, some (.own (.list ds)), a5, none, none], μ'⟩ m) : wp (run (callD Ds L (n + 5)) L lapC) ⟨[some (.scr ns), f1, a2, lap, a4, a5, none, none], μ⟩ m := by
  simp only [lapC, d_law, k5, nxt, bodyOf, run]
  simp only [lapC, d_law, k5, nxt, bodyOf, run] at h
  rw [wp_then]
  refine wp_mono (P := fun f s => f = .nx ∧ ∃ ds μ', s = ⟨[some (.scr ns), some (.ext 0), a2, lap, some (.own (.list ds)), a5, none, none], μ'⟩ ∧ 1 ≤ ds.length ∧ ds.length ≤ 6 ∧ (∀ d ∈ ds, Nm8 8 d) ∧ Fd μ') ?_ ?_
  · rcases hf with ⟨c, hc, rfl, rfl⟩ | ⟨rfl, hf⟩
    · simp only [den, Den.ex, Den.no, ↓wp_then, ↓wp_exp, ↓wp_set, ↓wp_kite, ↓wp_kret, ↓wp_sti, ↓wp_par, ↓wp_bind, ↓wp_ret, ↓wp_optS, ↓wp_optI, ↓wp_opd, ↓wp_frz, ↓wp_two, ↓wp_one, ↓wp_bin, ↓wp_cmp, ↓wp_idx, ↓wp_neg, ↓wp_not, ↓wp_isi, ↓wp_tru, ↓wp_tand, ↓wp_tor, ↓wp_tnot, ↓wp_ite, ↓wp_and, ↓wp_or, ↓wp_lnil, ↓wp_lcons, ↓wp_peeks0, ↓wp_peeks1, ↓wp_blt, ↓wp_tup, ↓wp_lst, ↓wp_var, varK, ↓opd_dat, ↓opd_own, ↓opd_ext, ↓opd_loc, ↓peek_dat, ↓peek_loc, locK, ↓frz_dat, ↓frz_own, ↓frz_loc, frzK, ↓setv_dat, ↓setv_own, ↓setv_ext, ↓ret_dat, ↓ret_own, ↓ret_ext, ↓ret_loc, retK, ↓wp_call, callK, ↓argv_dat, ↓argv_own, ↓argv_ext, ↓argv_loc, argK, ↓wp_lend, lendK, solve_nil, solve_dat, solve_ext, solve_scr, ↓wp_slot, flowK, endK, ↓wp_chn, ↓wp_sli, setSlot, List.getElem?_cons_zero, List.getElem?_cons_succ, Option.join_some, Option.map_some, List.length_cons, List.length_nil, Nat.reduceAdd, Nat.reduceLT, List.set_cons_zero, List.set_cons_succ, true_and, and_true, ↓wp_ifb, ↓wp_dct, ↓wp_lkv, ↓wp_sls, slsK, ↓wp_rev, ↓wp_asg, ↓wp_dot, ↓wp_join, ↓wp_app, ↓wp_pop1, true_implies, false_implies, Bool.true_eq_false, Bool.false_eq_true, and_self, List.any_cons, List.any_nil, Bool.or_false, tru_bool, tru_int, tru_none, tru_list, tru_tup, ty1, ty2, ty3, ty4, ty5, ty6, ty7, ty8, Bool.not_true, Bool.not_false, gCmp, gIdx, gNeg, cmp_gt, cmp_lt, cmp_ge, cmp_le, cmp_eqi, sli_tup, sli_list, rev_tup, add_tup, add_list, add_str, add_int, sub_int, ↓wp_ointg, ointK, popJ, ↓wp_chkl, chkK, ↓wp_putl, putK, putO_ite, putO_some, appF, ↓len_list, ↓len_tup, decide_eq_true_eq, decide_eq_false_iff_not, sz, Nat.reduceLeDiff, List.nil_append, List.length_nil]
      refine t6 (by decide) (by decide) ⟨c, 0, 0, 0, hc, rfl⟩ fun r μ1 r0 r1 hf1 => ?_
      simp only [↓wp_then, ↓wp_exp, ↓wp_set, ↓wp_kite, ↓wp_kret, ↓wp_sti, ↓wp_par, ↓wp_bind, ↓wp_ret, ↓wp_optS, ↓wp_optI, ↓wp_opd, ↓wp_frz, ↓wp_two, ↓wp_one, ↓wp_bin, ↓wp_cmp, ↓wp_idx, ↓wp_neg, ↓wp_not, ↓wp_isi, ↓wp_tru, ↓wp_tand, ↓wp_tor, ↓wp_tnot, ↓wp_ite, ↓wp_and, ↓wp_or, ↓wp_lnil, ↓wp_lcons, ↓wp_peeks0, ↓wp_peeks1, ↓wp_blt, ↓wp_tup, ↓wp_lst, ↓wp_var, varK, ↓opd_dat, ↓opd_own, ↓opd_ext, ↓opd_loc, ↓peek_dat, ↓peek_loc, locK, ↓frz_dat, ↓frz_own, ↓frz_loc, frzK, ↓setv_dat, ↓setv_own, ↓setv_ext, ↓ret_dat, ↓ret_own, ↓ret_ext, ↓ret_loc, retK, ↓wp_call, callK, ↓argv_dat, ↓argv_own, ↓argv_ext, ↓argv_loc, argK, ↓wp_lend, lendK, solve_nil, solve_dat, solve_ext, solve_scr, ↓wp_slot, flowK, endK, ↓wp_chn, ↓wp_sli, setSlot, List.getElem?_cons_zero, List.getElem?_cons_succ, Option.join_some, Option.map_some, List.length_cons, List.length_nil, Nat.reduceAdd, Nat.reduceLT, List.set_cons_zero, List.set_cons_succ, true_and, and_true, ↓wp_ifb, ↓wp_dct, ↓wp_lkv, ↓wp_sls, slsK, ↓wp_rev, ↓wp_asg, ↓wp_dot, ↓wp_join, ↓wp_app, ↓wp_pop1, true_implies, false_implies, Bool.true_eq_false, Bool.false_eq_true, and_self, List.any_cons, List.any_nil, Bool.or_false, tru_bool, tru_int, tru_none, tru_list, tru_tup, ty1, ty2, ty3, ty4, ty5, ty6, ty7, ty8, Bool.not_true, Bool.not_false, gCmp, gIdx, gNeg, cmp_gt, cmp_lt, cmp_ge, cmp_le, cmp_eqi, sli_tup, sli_list, rev_tup, add_tup, add_list, add_str, add_int, sub_int, ↓wp_ointg, ointK, popJ, ↓wp_chkl, chkK, ↓wp_putl, putK, putO_ite, putO_some, appF, ↓len_list, ↓len_tup, decide_eq_true_eq, decide_eq_false_iff_not, sz, Nat.reduceLeDiff]
      refine t8 (by omega) (by omega) hf1 fun ds μ2 hl ha hf2 => ?_
      simp only [↓wp_then, ↓wp_exp, ↓wp_set, ↓wp_kite, ↓wp_kret, ↓wp_sti, ↓wp_par, ↓wp_bind, ↓wp_ret, ↓wp_optS, ↓wp_optI, ↓wp_opd, ↓wp_frz, ↓wp_two, ↓wp_one, ↓wp_bin, ↓wp_cmp, ↓wp_idx, ↓wp_neg, ↓wp_not, ↓wp_isi, ↓wp_tru, ↓wp_tand, ↓wp_tor, ↓wp_tnot, ↓wp_ite, ↓wp_and, ↓wp_or, ↓wp_lnil, ↓wp_lcons, ↓wp_peeks0, ↓wp_peeks1, ↓wp_blt, ↓wp_tup, ↓wp_lst, ↓wp_var, varK, ↓opd_dat, ↓opd_own, ↓opd_ext, ↓opd_loc, ↓peek_dat, ↓peek_loc, locK, ↓frz_dat, ↓frz_own, ↓frz_loc, frzK, ↓setv_dat, ↓setv_own, ↓setv_ext, ↓ret_dat, ↓ret_own, ↓ret_ext, ↓ret_loc, retK, ↓wp_call, callK, ↓argv_dat, ↓argv_own, ↓argv_ext, ↓argv_loc, argK, ↓wp_lend, lendK, solve_nil, solve_dat, solve_ext, solve_scr, ↓wp_slot, flowK, endK, ↓wp_chn, ↓wp_sli, setSlot, List.getElem?_cons_zero, List.getElem?_cons_succ, Option.join_some, Option.map_some, List.length_cons, List.length_nil, Nat.reduceAdd, Nat.reduceLT, List.set_cons_zero, List.set_cons_succ, true_and, and_true, ↓wp_ifb, ↓wp_dct, ↓wp_lkv, ↓wp_sls, slsK, ↓wp_rev, ↓wp_asg, ↓wp_dot, ↓wp_join, ↓wp_app, ↓wp_pop1, true_implies, false_implies, Bool.true_eq_false, Bool.false_eq_true, and_self, List.any_cons, List.any_nil, Bool.or_false, tru_bool, tru_int, tru_none, tru_list, tru_tup, ty1, ty2, ty3, ty4, ty5, ty6, ty7, ty8, Bool.not_true, Bool.not_false, gCmp, gIdx, gNeg, cmp_gt, cmp_lt, cmp_ge, cmp_le, cmp_eqi, sli_tup, sli_list, rev_tup, add_tup, add_list, add_str, add_int, sub_int, ↓wp_ointg, ointK, popJ, ↓wp_chkl, chkK, ↓wp_putl, putK, putO_ite, putO_some, appF, ↓len_list, ↓len_tup, decide_eq_true_eq, decide_eq_false_iff_not, sz, Nat.reduceLeDiff]
      exact ⟨ds, μ2, rfl, by omega, by omega, ha, hf2⟩
    · simp only [den, Den.ex, Den.no, ↓wp_then, ↓wp_exp, ↓wp_set, ↓wp_kite, ↓wp_kret, ↓wp_sti, ↓wp_par, ↓wp_bind, ↓wp_ret, ↓wp_optS, ↓wp_optI, ↓wp_opd, ↓wp_frz, ↓wp_two, ↓wp_one, ↓wp_bin, ↓wp_cmp, ↓wp_idx, ↓wp_neg, ↓wp_not, ↓wp_isi, ↓wp_tru, ↓wp_tand, ↓wp_tor, ↓wp_tnot, ↓wp_ite, ↓wp_and, ↓wp_or, ↓wp_lnil, ↓wp_lcons, ↓wp_peeks0, ↓wp_peeks1, ↓wp_blt, ↓wp_tup, ↓wp_lst, ↓wp_var, varK, ↓opd_dat, ↓opd_own, ↓opd_ext, ↓opd_loc, ↓peek_dat, ↓peek_loc, locK, ↓frz_dat, ↓frz_own, ↓frz_loc, frzK, ↓setv_dat, ↓setv_own, ↓setv_ext, ↓ret_dat, ↓ret_own, ↓ret_ext, ↓ret_loc, retK, ↓wp_call, callK, ↓argv_dat, ↓argv_own, ↓argv_ext, ↓argv_loc, argK, ↓wp_lend, lendK, solve_nil, solve_dat, solve_ext, solve_scr, ↓wp_slot, flowK, endK, ↓wp_chn, ↓wp_sli, setSlot, List.getElem?_cons_zero, List.getElem?_cons_succ, Option.join_some, Option.map_some, List.length_cons, List.length_nil, Nat.reduceAdd, Nat.reduceLT, List.set_cons_zero, List.set_cons_succ, true_and, and_true, ↓wp_ifb, ↓wp_dct, ↓wp_lkv, ↓wp_sls, slsK, ↓wp_rev, ↓wp_asg, ↓wp_dot, ↓wp_join, ↓wp_app, ↓wp_pop1, true_implies, false_implies, Bool.true_eq_false, Bool.false_eq_true, and_self, List.any_cons, List.any_nil, Bool.or_false, tru_bool, tru_int, tru_none, tru_list, tru_tup, ty1, ty2, ty3, ty4, ty5, ty6, ty7, ty8, Bool.not_true, Bool.not_false, gCmp, gIdx, gNeg, cmp_gt, cmp_lt, cmp_ge, cmp_le, cmp_eqi, sli_tup, sli_list, rev_tup, add_tup, add_list, add_str, add_int, sub_int, ↓wp_ointg, ointK, popJ, ↓wp_chkl, chkK, ↓wp_putl, putK, putO_ite, putO_some, appF, ↓len_list, ↓len_tup, decide_eq_true_eq, decide_eq_false_iff_not, sz, Nat.reduceLeDiff]
      refine t6 (by decide) (by decide) hf fun r μ1 r0 r1 hf1 => ?_
      simp only [↓wp_then, ↓wp_exp, ↓wp_set, ↓wp_kite, ↓wp_kret, ↓wp_sti, ↓wp_par, ↓wp_bind, ↓wp_ret, ↓wp_optS, ↓wp_optI, ↓wp_opd, ↓wp_frz, ↓wp_two, ↓wp_one, ↓wp_bin, ↓wp_cmp, ↓wp_idx, ↓wp_neg, ↓wp_not, ↓wp_isi, ↓wp_tru, ↓wp_tand, ↓wp_tor, ↓wp_tnot, ↓wp_ite, ↓wp_and, ↓wp_or, ↓wp_lnil, ↓wp_lcons, ↓wp_peeks0, ↓wp_peeks1, ↓wp_blt, ↓wp_tup, ↓wp_lst, ↓wp_var, varK, ↓opd_dat, ↓opd_own, ↓opd_ext, ↓opd_loc, ↓peek_dat, ↓peek_loc, locK, ↓frz_dat, ↓frz_own, ↓frz_loc, frzK, ↓setv_dat, ↓setv_own, ↓setv_ext, ↓ret_dat, ↓ret_own, ↓ret_ext, ↓ret_loc, retK, ↓wp_call, callK, ↓argv_dat, ↓argv_own, ↓argv_ext, ↓argv_loc, argK, ↓wp_lend, lendK, solve_nil, solve_dat, solve_ext, solve_scr, ↓wp_slot, flowK, endK, ↓wp_chn, ↓wp_sli, setSlot, List.getElem?_cons_zero, List.getElem?_cons_succ, Option.join_some, Option.map_some, List.length_cons, List.length_nil, Nat.reduceAdd, Nat.reduceLT, List.set_cons_zero, List.set_cons_succ, true_and, and_true, ↓wp_ifb, ↓wp_dct, ↓wp_lkv, ↓wp_sls, slsK, ↓wp_rev, ↓wp_asg, ↓wp_dot, ↓wp_join, ↓wp_app, ↓wp_pop1, true_implies, false_implies, Bool.true_eq_false, Bool.false_eq_true, and_self, List.any_cons, List.any_nil, Bool.or_false, tru_bool, tru_int, tru_none, tru_list, tru_tup, ty1, ty2, ty3, ty4, ty5, ty6, ty7, ty8, Bool.not_true, Bool.not_false, gCmp, gIdx, gNeg, cmp_gt, cmp_lt, cmp_ge, cmp_le, cmp_eqi, sli_tup, sli_list, rev_tup, add_tup, add_list, add_str, add_int, sub_int, ↓wp_ointg, ointK, popJ, ↓wp_chkl, chkK, ↓wp_putl, putK, putO_ite, putO_some, appF, ↓len_list, ↓len_tup, decide_eq_true_eq, decide_eq_false_iff_not, sz, Nat.reduceLeDiff]
      refine t8 (by omega) (by omega) hf1 fun ds μ2 hl ha hf2 => ?_
      simp only [↓wp_then, ↓wp_exp, ↓wp_set, ↓wp_kite, ↓wp_kret, ↓wp_sti, ↓wp_par, ↓wp_bind, ↓wp_ret, ↓wp_optS, ↓wp_optI, ↓wp_opd, ↓wp_frz, ↓wp_two, ↓wp_one, ↓wp_bin, ↓wp_cmp, ↓wp_idx, ↓wp_neg, ↓wp_not, ↓wp_isi, ↓wp_tru, ↓wp_tand, ↓wp_tor, ↓wp_tnot, ↓wp_ite, ↓wp_and, ↓wp_or, ↓wp_lnil, ↓wp_lcons, ↓wp_peeks0, ↓wp_peeks1, ↓wp_blt, ↓wp_tup, ↓wp_lst, ↓wp_var, varK, ↓opd_dat, ↓opd_own, ↓opd_ext, ↓opd_loc, ↓peek_dat, ↓peek_loc, locK, ↓frz_dat, ↓frz_own, ↓frz_loc, frzK, ↓setv_dat, ↓setv_own, ↓setv_ext, ↓ret_dat, ↓ret_own, ↓ret_ext, ↓ret_loc, retK, ↓wp_call, callK, ↓argv_dat, ↓argv_own, ↓argv_ext, ↓argv_loc, argK, ↓wp_lend, lendK, solve_nil, solve_dat, solve_ext, solve_scr, ↓wp_slot, flowK, endK, ↓wp_chn, ↓wp_sli, setSlot, List.getElem?_cons_zero, List.getElem?_cons_succ, Option.join_some, Option.map_some, List.length_cons, List.length_nil, Nat.reduceAdd, Nat.reduceLT, List.set_cons_zero, List.set_cons_succ, true_and, and_true, ↓wp_ifb, ↓wp_dct, ↓wp_lkv, ↓wp_sls, slsK, ↓wp_rev, ↓wp_asg, ↓wp_dot, ↓wp_join, ↓wp_app, ↓wp_pop1, true_implies, false_implies, Bool.true_eq_false, Bool.false_eq_true, and_self, List.any_cons, List.any_nil, Bool.or_false, tru_bool, tru_int, tru_none, tru_list, tru_tup, ty1, ty2, ty3, ty4, ty5, ty6, ty7, ty8, Bool.not_true, Bool.not_false, gCmp, gIdx, gNeg, cmp_gt, cmp_lt, cmp_ge, cmp_le, cmp_eqi, sli_tup, sli_list, rev_tup, add_tup, add_list, add_str, add_int, sub_int, ↓wp_ointg, ointK, popJ, ↓wp_chkl, chkK, ↓wp_putl, putK, putO_ite, putO_some, appF, ↓len_list, ↓len_tup, decide_eq_true_eq, decide_eq_false_iff_not, sz, Nat.reduceLeDiff]
      exact ⟨ds, μ2, rfl, by omega, by omega, ha, hf2⟩
  · rintro f s ⟨rfl, ds, μ', rfl, h1, h2, h3, h4⟩
    simp only [flowK]
    exact h ds μ' h1 h2 h3 h4
end
end Ded.DM
end

section
set_option linter.all false
set_option maxRecDepth 100000
set_option maxHeartbeats 1000000
namespace Ded.DM
open PySem Ded.P
section
variable {L n : Nat} {d : D} {μ : List D} {K : Val → List D → Prop}
abbrev TAIL8 : Str := Str.ofString "abcdefgh"
theorem tail_asc : Asc TAIL8 := ab_asc
/-- the seven values of a lap -/
def seven (g ds : List D) (e : D) (y : Str) : List D := [.tuple g, .tuple ds, .tuple g.reverse, .tuple (g ++ cutL g (some (-1)) none), .list g, e, .str y]
theorem seven_good {g ds : List D} {x : Str} (h1 : ∀ d ∈ g, Nm8 8 d) (h2 : ∀ d ∈ ds, Nm8 8 d) (hg : g.length ≤ 6) (hd : ds.length ≤ 6) (hx : Nm8 8 (.str x)) : ∀ d ∈ seven g ds (.str x) (x ++ TAIL8), Good d := by
  have a1 : ∀ d ∈ g, At d := fun d hd => nm8_at (by decide) (h1 d hd)
  have a2 : ∀ d ∈ ds, At d := fun d hd => nm8_at (by decide) (h2 d hd)
  obtain ⟨x', e, hl, ha⟩ := hx
  cases e
  intro d hd
  have c := cut_len (xs := g) (lo := some (-1)) (hi := none)
  simp only [seven, List.mem_cons, List.not_mem_nil, or_false] at hd
  rcases hd with rfl | rfl | rfl | rfl | rfl | rfl | rfl
  · exact good_tuple (by omega) a1
  · exact good_tuple (by omega) a2
  · exact good_tuple (by rw [List.length_reverse]; omega) fun z hz => a1 z (List.mem_reverse.mp hz)
  · refine good_tuple (by rw [List.length_append]; omega) fun z hz => ?_
    rcases List.mem_append.mp hz with hz | hz
    · exact a1 z hz
    · exact a1 z (cut_mem hz)
  · exact good_list (by omega) a1
  · exact nm_good ⟨by omega, ha⟩
  · refine nm_good (nm_add ha tail_asc ?_)
    have : TAIL8.length = 8 := by decide
    omega
abbrev Fr (ns : List Int) (a2 lap a4 a5 : Option Val) : List (Option Val) := [some (.scr ns), some (.ext 0), a2, lap, a4, a5, none, none]
theorem t15b {ns : List Int} {a2 a5 lap : Option Val} {ds : List D} (h1 : 1 ≤ ds.length) (h2 : ds.length ≤ 6) (h3 : ∀ d ∈ ds, Nm8 8 d) {m : Flow → S → Prop} (h : ∀ g a4 x, 1 ≤ g.length → g.length ≤ 6 → (∀ d ∈ g, Nm8 8 d) → Nm8 8 (.str x) → wp (run (callD Ds L (n + 5)) L (nxt (nxt (nxt lapC)))) ⟨Fr ns (some (.own (.list (seven g ds (.str x) (x ++ TAIL8))))) lap a4 (some (.dat (.tuple g))), μ⟩ m) : wp (run (callD Ds L (n + 5)) L (nxt lapC)) ⟨Fr ns a2 lap (some (.own (.list ds))) a5, μ⟩ m := by
  simp only [lapC, d_law, k5, nxt, bodyOf, run]
  simp only [lapC, d_law, k5, nxt, bodyOf, run] at h
  obtain ⟨g, e1, e2, e3⟩ := sort_is h3 (by omega)
  rw [wp_then]
  refine wp_mono (P := fun f s => f = .nx ∧ s = ⟨Fr ns a2 lap (some (.own (.list ds))) (some (.dat (.tuple g))), μ⟩) ?_ ?_
  · have e4 : bltD .tuple [.list g] = some (.dat (.tuple g)) := rfl
    simp only [den, Den.ex, Den.no, ↓wp_then, ↓wp_exp, ↓wp_set, ↓wp_kite, ↓wp_kret, ↓wp_sti, ↓wp_par, ↓wp_bind, ↓wp_ret, ↓wp_optS, ↓wp_optI, ↓wp_opd, ↓wp_frz, ↓wp_two, ↓wp_one, ↓wp_bin, ↓wp_cmp, ↓wp_idx, ↓wp_neg, ↓wp_not, ↓wp_isi, ↓wp_tru, ↓wp_tand, ↓wp_tor, ↓wp_tnot, ↓wp_ite, ↓wp_and, ↓wp_or, ↓wp_lnil, ↓wp_lcons, ↓wp_peeks0, ↓wp_peeks1, ↓wp_blt, ↓wp_tup, ↓wp_lst, ↓wp_var, varK, ↓opd_dat, ↓opd_own, ↓opd_ext, ↓opd_loc, ↓peek_dat, ↓peek_loc, locK, ↓frz_dat, ↓frz_own, ↓frz_loc, frzK, ↓setv_dat, ↓setv_own, ↓setv_ext, ↓ret_dat, ↓ret_own, ↓ret_ext, ↓ret_loc, retK, ↓wp_call, callK, ↓argv_dat, ↓argv_own, ↓argv_ext, ↓argv_loc, argK, ↓wp_lend, lendK, solve_nil, solve_dat, solve_ext, solve_scr, ↓wp_slot, flowK, endK, ↓wp_chn, ↓wp_sli, setSlot, List.getElem?_cons_zero, List.getElem?_cons_succ, Option.join_some, Option.map_some, List.length_cons, List.length_nil, Nat.reduceAdd, Nat.reduceLT, List.set_cons_zero, List.set_cons_succ, true_and, and_true, ↓wp_ifb, ↓wp_dct, ↓wp_lkv, ↓wp_sls, slsK, ↓wp_rev, ↓wp_asg, ↓wp_dot, ↓wp_join, ↓wp_app, ↓wp_pop1, true_implies, false_implies, Bool.true_eq_false, Bool.false_eq_true, and_self, List.any_cons, List.any_nil, Bool.or_false, tru_bool, tru_int, tru_none, tru_list, tru_tup, ty1, ty2, ty3, ty4, ty5, ty6, ty7, ty8, Bool.not_true, Bool.not_false, gCmp, gIdx, gNeg, cmp_gt, cmp_lt, cmp_ge, cmp_le, cmp_eqi, sli_tup, sli_list, rev_tup, add_tup, add_list, add_str, add_int, sub_int, ↓wp_ointg, ointK, popJ, ↓wp_chkl, chkK, ↓wp_putl, putK, putO_ite, putO_some, appF, ↓len_list, ↓len_tup, decide_eq_true_eq, decide_eq_false_iff_not, sz, Nat.reduceLeDiff, e1, e4]
  · rintro f s ⟨rfl, rfl⟩
    simp only [flowK]
    rw [wp_then]
    obtain ⟨e, he, ha⟩ := at_nat (ds := g) (r := 0) (by decide) (by omega)
    obtain ⟨x, rfl, hx⟩ := e3 e he
    refine wp_mono (P := fun f s => f = .nx ∧ ∃ a4, s = ⟨Fr ns (some (.own (.list (seven g ds (.str x) (x ++ TAIL8))))) lap a4 (some (.dat (.tuple g))), μ⟩) ?_ ?_
    · have e5 : bltD .tuple [.list ds] = some (.dat (.tuple ds)) := rfl
      have e6 : bltD .list [.tuple g] = some (.own (.list g)) := rfl
      have z1 : g.length + (cutL g (some (-1)) none).length ≤ sizeLine := by
        have c := cut_len (xs := g) (lo := some (-1)) (hi := none)
        rw [sizeLine_eq']; omega
      have z2 : x.length + (Str.ofString "abcdefgh").length ≤ sizeLine := by
        have : (Str.ofString "abcdefgh").length = 8 := by decide
        have := hx.1
        rw [sizeLine_eq']; omega
      simp only [den, Den.ex, Den.no, ↓wp_then, ↓wp_exp, ↓wp_set, ↓wp_kite, ↓wp_kret, ↓wp_sti, ↓wp_par, ↓wp_bind, ↓wp_ret, ↓wp_optS, ↓wp_optI, ↓wp_opd, ↓wp_frz, ↓wp_two, ↓wp_one, ↓wp_bin, ↓wp_cmp, ↓wp_idx, ↓wp_neg, ↓wp_not, ↓wp_isi, ↓wp_tru, ↓wp_tand, ↓wp_tor, ↓wp_tnot, ↓wp_ite, ↓wp_and, ↓wp_or, ↓wp_lnil, ↓wp_lcons, ↓wp_peeks0, ↓wp_peeks1, ↓wp_blt, ↓wp_tup, ↓wp_lst, ↓wp_var, varK, ↓opd_dat, ↓opd_own, ↓opd_ext, ↓opd_loc, ↓peek_dat, ↓peek_loc, locK, ↓frz_dat, ↓frz_own, ↓frz_loc, frzK, ↓setv_dat, ↓setv_own, ↓setv_ext, ↓ret_dat, ↓ret_own, ↓ret_ext, ↓ret_loc, retK, ↓wp_call, callK, ↓argv_dat, ↓argv_own, ↓argv_ext, ↓argv_loc, argK, ↓wp_lend, lendK, solve_nil, solve_dat, solve_ext, solve_scr, ↓wp_slot, flowK, endK, ↓wp_chn, ↓wp_sli, setSlot, List.getElem?_cons_zero, List.getElem?_cons_succ, Option.join_some, Option.map_some, List.length_cons, List.length_nil, Nat.reduceAdd, Nat.reduceLT, List.set_cons_zero, List.set_cons_succ, true_and, and_true, ↓wp_ifb, ↓wp_dct, ↓wp_lkv, ↓wp_sls, slsK, ↓wp_rev, ↓wp_asg, ↓wp_dot, ↓wp_join, ↓wp_app, ↓wp_pop1, true_implies, false_implies, Bool.true_eq_false, Bool.false_eq_true, and_self, List.any_cons, List.any_nil, Bool.or_false, tru_bool, tru_int, tru_none, tru_list, tru_tup, ty1, ty2, ty3, ty4, ty5, ty6, ty7, ty8, Bool.not_true, Bool.not_false, gCmp, gIdx, gNeg, cmp_gt, cmp_lt, cmp_ge, cmp_le, cmp_eqi, sli_tup, sli_list, rev_tup, add_tup, add_list, add_str, add_int, sub_int, ↓wp_ointg, ointK, popJ, ↓wp_chkl, chkK, ↓wp_putl, putK, putO_ite, putO_some, appF, ↓len_list, ↓len_tup, decide_eq_true_eq, decide_eq_false_iff_not, sz, Nat.reduceLeDiff, e5, e6, ↓idx_tup ha, z1, z2, List.length_reverse]
      exact ⟨_, rfl⟩
    · rintro f s ⟨rfl, a4, rfl⟩
      simp only [flowK]
      exact h g a4 x (by omega) (by omega) e3 ⟨x, rfl, hx⟩
theorem t15c {ns : List Int} {a4 lap : Option Val} {g vs : List D} (h1 : 1 ≤ g.length) (h2 : g.length ≤ 6) (h3 : ∀ d ∈ g, Nm8 8 d) (hv : ∀ d ∈ vs, Good d) (hl : vs.length ≤ 10) (hf : Fd μ) : wp (run (callD Ds L (n + 5)) L (nxt (nxt (nxt lapC)))) ⟨Fr ns (some (.own (.list vs))) lap a4 (some (.dat (.tuple g))), μ⟩ fun f s => f = .nx ∧ ∃ a2 μ', s = ⟨Fr ns a2 lap a4 (some (.dat (.tuple g))), μ'⟩ ∧ Fd μ' := by
  simp only [lapC, d_law, k5, nxt, bodyOf, run]
  rw [wp_then]
  refine wp_mono (P := fun f s => f = .nx ∧ ∃ ws μ', s = ⟨Fr ns (some (.own (.list ws))) lap a4 (some (.dat (.tuple g))), μ'⟩ ∧ (∀ d ∈ ws, Good d) ∧ Fd μ') ?_ ?_
  · simp only [den, Den.ex, Den.no, ↓wp_then, ↓wp_exp, ↓wp_set, ↓wp_kite, ↓wp_kret, ↓wp_sti, ↓wp_par, ↓wp_bind, ↓wp_ret, ↓wp_optS, ↓wp_optI, ↓wp_opd, ↓wp_frz, ↓wp_two, ↓wp_one, ↓wp_bin, ↓wp_cmp, ↓wp_idx, ↓wp_neg, ↓wp_not, ↓wp_isi, ↓wp_tru, ↓wp_tand, ↓wp_tor, ↓wp_tnot, ↓wp_ite, ↓wp_and, ↓wp_or, ↓wp_lnil, ↓wp_lcons, ↓wp_peeks0, ↓wp_peeks1, ↓wp_blt, ↓wp_tup, ↓wp_lst, ↓wp_var, varK, ↓opd_dat, ↓opd_own, ↓opd_ext, ↓opd_loc, ↓peek_dat, ↓peek_loc, locK, ↓frz_dat, ↓frz_own, ↓frz_loc, frzK, ↓setv_dat, ↓setv_own, ↓setv_ext, ↓ret_dat, ↓ret_own, ↓ret_ext, ↓ret_loc, retK, ↓wp_call, callK, ↓argv_dat, ↓argv_own, ↓argv_ext, ↓argv_loc, argK, ↓wp_lend, lendK, solve_nil, solve_dat, solve_ext, solve_scr, ↓wp_slot, flowK, endK, ↓wp_chn, ↓wp_sli, setSlot, List.getElem?_cons_zero, List.getElem?_cons_succ, Option.join_some, Option.map_some, List.length_cons, List.length_nil, Nat.reduceAdd, Nat.reduceLT, List.set_cons_zero, List.set_cons_succ, true_and, and_true, ↓wp_ifb, ↓wp_dct, ↓wp_lkv, ↓wp_sls, slsK, ↓wp_rev, ↓wp_asg, ↓wp_dot, ↓wp_join, ↓wp_app, ↓wp_pop1, true_implies, false_implies, Bool.true_eq_false, Bool.false_eq_true, and_self, List.any_cons, List.any_nil, Bool.or_false, tru_bool, tru_int, tru_none, tru_list, tru_tup, ty1, ty2, ty3, ty4, ty5, ty6, ty7, ty8, Bool.not_true, Bool.not_false, gCmp, gIdx, gNeg, cmp_gt, cmp_lt, cmp_ge, cmp_le, cmp_eqi, sli_tup, sli_list, rev_tup, add_tup, add_list, add_str, add_int, sub_int, ↓wp_ointg, ointK, popJ, ↓wp_chkl, chkK, ↓wp_putl, putK, putO_ite, putO_some, appF, ↓len_list, ↓len_tup, decide_eq_true_eq, decide_eq_false_iff_not, sz, Nat.reduceLeDiff]
    refine wp_mono (lcn (ρ := Fr ns (some (.own (.list vs))) lap a4 (some (.dat (.tuple g)))) Fd Good (fun ds => ds.length ≤ 6) ?_ rfl rfl rfl ?_ ?_) ?_
    · simp only [↓wp_range, ↓wp_then, ↓wp_exp, ↓wp_set, ↓wp_kite, ↓wp_kret, ↓wp_sti, ↓wp_par, ↓wp_bind, ↓wp_ret, ↓wp_optS, ↓wp_optI, ↓wp_opd, ↓wp_frz, ↓wp_two, ↓wp_one, ↓wp_bin, ↓wp_cmp, ↓wp_idx, ↓wp_neg, ↓wp_not, ↓wp_isi, ↓wp_tru, ↓wp_tand, ↓wp_tor, ↓wp_tnot, ↓wp_ite, ↓wp_and, ↓wp_or, ↓wp_lnil, ↓wp_lcons, ↓wp_peeks0, ↓wp_peeks1, ↓wp_blt, ↓wp_tup, ↓wp_lst, ↓wp_var, varK, ↓opd_dat, ↓opd_own, ↓opd_ext, ↓opd_loc, ↓peek_dat, ↓peek_loc, locK, ↓frz_dat, ↓frz_own, ↓frz_loc, frzK, ↓setv_dat, ↓setv_own, ↓setv_ext, ↓ret_dat, ↓ret_own, ↓ret_ext, ↓ret_loc, retK, ↓wp_call, callK, ↓argv_dat, ↓argv_own, ↓argv_ext, ↓argv_loc, argK, ↓wp_lend, lendK, solve_nil, solve_dat, solve_ext, solve_scr, ↓wp_slot, flowK, endK, ↓wp_chn, ↓wp_sli, setSlot, List.getElem?_cons_zero, List.getElem?_cons_succ, Option.join_some, Option.map_some, List.length_cons, List.length_nil, Nat.reduceAdd, Nat.reduceLT, List.set_cons_zero, List.set_cons_succ, true_and, and_true, ↓wp_ifb, ↓wp_dct, ↓wp_lkv, ↓wp_sls, slsK, ↓wp_rev, ↓wp_asg, ↓wp_dot, ↓wp_join, ↓wp_app, ↓wp_pop1, true_implies, false_implies, Bool.true_eq_false, Bool.false_eq_true, and_self, List.any_cons, List.any_nil, Bool.or_false, tru_bool, tru_int, tru_none, tru_list, tru_tup, ty1, ty2, ty3, ty4, ty5, ty6, ty7, ty8, Bool.not_true, Bool.not_false, gCmp, gIdx, gNeg, cmp_gt, cmp_lt, cmp_ge, cmp_le, cmp_eqi, sli_tup, sli_list, rev_tup, add_tup, add_list, add_str, add_int, sub_int, ↓wp_ointg, ointK, popJ, ↓wp_chkl, chkK, ↓wp_putl, putK, putO_ite, putO_some, appF, ↓len_list, ↓len_tup, decide_eq_true_eq, decide_eq_false_iff_not, sz, Nat.reduceLeDiff, ↓range_one (fit_small (show (0 : Int) ≤ 6 by decide) (show (6 : Int) ≤ 1000 by decide))]
      exact ⟨by decide, hf⟩
    · intro ds q
      rw [sizeLine_eq']; omega
    · intro ds q d hd μ3 hf3
      simp only [↓wp_turn, ↓wp_gvar, ↓wp_then, ↓wp_exp, ↓wp_set, ↓wp_kite, ↓wp_kret, ↓wp_sti, ↓wp_par, ↓wp_bind, ↓wp_ret, ↓wp_optS, ↓wp_optI, ↓wp_opd, ↓wp_frz, ↓wp_two, ↓wp_one, ↓wp_bin, ↓wp_cmp, ↓wp_idx, ↓wp_neg, ↓wp_not, ↓wp_isi, ↓wp_tru, ↓wp_tand, ↓wp_tor, ↓wp_tnot, ↓wp_ite, ↓wp_and, ↓wp_or, ↓wp_lnil, ↓wp_lcons, ↓wp_peeks0, ↓wp_peeks1, ↓wp_blt, ↓wp_tup, ↓wp_lst, ↓wp_var, varK, ↓opd_dat, ↓opd_own, ↓opd_ext, ↓opd_loc, ↓peek_dat, ↓peek_loc, locK, ↓frz_dat, ↓frz_own, ↓frz_loc, frzK, ↓setv_dat, ↓setv_own, ↓setv_ext, ↓ret_dat, ↓ret_own, ↓ret_ext, ↓ret_loc, retK, ↓wp_call, callK, ↓argv_dat, ↓argv_own, ↓argv_ext, ↓argv_loc, argK, ↓wp_lend, lendK, solve_nil, solve_dat, solve_ext, solve_scr, ↓wp_slot, flowK, endK, ↓wp_chn, ↓wp_sli, setSlot, List.getElem?_cons_zero, List.getElem?_cons_succ, Option.join_some, Option.map_some, List.length_cons, List.length_nil, Nat.reduceAdd, Nat.reduceLT, List.set_cons_zero, List.set_cons_succ, true_and, and_true, ↓wp_ifb, ↓wp_dct, ↓wp_lkv, ↓wp_sls, slsK, ↓wp_rev, ↓wp_asg, ↓wp_dot, ↓wp_join, ↓wp_app, ↓wp_pop1, true_implies, false_implies, Bool.true_eq_false, Bool.false_eq_true, and_self, List.any_cons, List.any_nil, Bool.or_false, tru_bool, tru_int, tru_none, tru_list, tru_tup, ty1, ty2, ty3, ty4, ty5, ty6, ty7, ty8, Bool.not_true, Bool.not_false, gCmp, gIdx, gNeg, cmp_gt, cmp_lt, cmp_ge, cmp_le, cmp_eqi, sli_tup, sli_list, rev_tup, add_tup, add_list, add_str, add_int, sub_int, ↓wp_ointg, ointK, popJ, ↓wp_chkl, chkK, ↓wp_putl, putK, putO_ite, putO_some, appF, ↓len_list, ↓len_tup, decide_eq_true_eq, decide_eq_false_iff_not, sz, Nat.reduceLeDiff]
      refine t13t (fun d hd => ?_) (by omega) hf3 fun d μ4 hd hf4 => ?_
      · obtain ⟨x, e, a, b⟩ := h3 d hd
        exact ⟨x, e, by omega, b⟩
      · simp only [↓wp_then, ↓wp_exp, ↓wp_set, ↓wp_kite, ↓wp_kret, ↓wp_sti, ↓wp_par, ↓wp_bind, ↓wp_ret, ↓wp_optS, ↓wp_optI, ↓wp_opd, ↓wp_frz, ↓wp_two, ↓wp_one, ↓wp_bin, ↓wp_cmp, ↓wp_idx, ↓wp_neg, ↓wp_not, ↓wp_isi, ↓wp_tru, ↓wp_tand, ↓wp_tor, ↓wp_tnot, ↓wp_ite, ↓wp_and, ↓wp_or, ↓wp_lnil, ↓wp_lcons, ↓wp_peeks0, ↓wp_peeks1, ↓wp_blt, ↓wp_tup, ↓wp_lst, ↓wp_var, varK, ↓opd_dat, ↓opd_own, ↓opd_ext, ↓opd_loc, ↓peek_dat, ↓peek_loc, locK, ↓frz_dat, ↓frz_own, ↓frz_loc, frzK, ↓setv_dat, ↓setv_own, ↓setv_ext, ↓ret_dat, ↓ret_own, ↓ret_ext, ↓ret_loc, retK, ↓wp_call, callK, ↓argv_dat, ↓argv_own, ↓argv_ext, ↓argv_loc, argK, ↓wp_lend, lendK, solve_nil, solve_dat, solve_ext, solve_scr, ↓wp_slot, flowK, endK, ↓wp_chn, ↓wp_sli, setSlot, List.getElem?_cons_zero, List.getElem?_cons_succ, Option.join_some, Option.map_some, List.length_cons, List.length_nil, Nat.reduceAdd, Nat.reduceLT, List.set_cons_zero, List.set_cons_succ, true_and, and_true, ↓wp_ifb, ↓wp_dct, ↓wp_lkv, ↓wp_sls, slsK, ↓wp_rev, ↓wp_asg, ↓wp_dot, ↓wp_join, ↓wp_app, ↓wp_pop1, true_implies, false_implies, Bool.true_eq_false, Bool.false_eq_true, and_self, List.any_cons, List.any_nil, Bool.or_false, tru_bool, tru_int, tru_none, tru_list, tru_tup, ty1, ty2, ty3, ty4, ty5, ty6, ty7, ty8, Bool.not_true, Bool.not_false, gCmp, gIdx, gNeg, cmp_gt, cmp_lt, cmp_ge, cmp_le, cmp_eqi, sli_tup, sli_list, rev_tup, add_tup, add_list, add_str, add_int, sub_int, ↓wp_ointg, ointK, popJ, ↓wp_chkl, chkK, ↓wp_putl, putK, putO_ite, putO_some, appF, ↓len_list, ↓len_tup, decide_eq_true_eq, decide_eq_false_iff_not, sz, Nat.reduceLeDiff]
        exact ⟨⟨_, rfl, hd⟩, rfl, hf4⟩
    · rintro v t ⟨ds, ys, μ', rfl, rfl, hf', q, hl2, hy⟩
      have z1 : vs.length + ys.length ≤ sizeLine := by rw [sizeLine_eq']; omega
      simp only [↓wp_then, ↓wp_exp, ↓wp_set, ↓wp_kite, ↓wp_kret, ↓wp_sti, ↓wp_par, ↓wp_bind, ↓wp_ret, ↓wp_optS, ↓wp_optI, ↓wp_opd, ↓wp_frz, ↓wp_two, ↓wp_one, ↓wp_bin, ↓wp_cmp, ↓wp_idx, ↓wp_neg, ↓wp_not, ↓wp_isi, ↓wp_tru, ↓wp_tand, ↓wp_tor, ↓wp_tnot, ↓wp_ite, ↓wp_and, ↓wp_or, ↓wp_lnil, ↓wp_lcons, ↓wp_peeks0, ↓wp_peeks1, ↓wp_blt, ↓wp_tup, ↓wp_lst, ↓wp_var, varK, ↓opd_dat, ↓opd_own, ↓opd_ext, ↓opd_loc, ↓peek_dat, ↓peek_loc, locK, ↓frz_dat, ↓frz_own, ↓frz_loc, frzK, ↓setv_dat, ↓setv_own, ↓setv_ext, ↓ret_dat, ↓ret_own, ↓ret_ext, ↓ret_loc, retK, ↓wp_call, callK, ↓argv_dat, ↓argv_own, ↓argv_ext, ↓argv_loc, argK, ↓wp_lend, lendK, solve_nil, solve_dat, solve_ext, solve_scr, ↓wp_slot, flowK, endK, ↓wp_chn, ↓wp_sli, setSlot, List.getElem?_cons_zero, List.getElem?_cons_succ, Option.join_some, Option.map_some, List.length_cons, List.length_nil, Nat.reduceAdd, Nat.reduceLT, List.set_cons_zero, List.set_cons_succ, true_and, and_true, ↓wp_ifb, ↓wp_dct, ↓wp_lkv, ↓wp_sls, slsK, ↓wp_rev, ↓wp_asg, ↓wp_dot, ↓wp_join, ↓wp_app, ↓wp_pop1, true_implies, false_implies, Bool.true_eq_false, Bool.false_eq_true, and_self, List.any_cons, List.any_nil, Bool.or_false, tru_bool, tru_int, tru_none, tru_list, tru_tup, ty1, ty2, ty3, ty4, ty5, ty6, ty7, ty8, Bool.not_true, Bool.not_false, gCmp, gIdx, gNeg, cmp_gt, cmp_lt, cmp_ge, cmp_le, cmp_eqi, sli_tup, sli_list, rev_tup, add_tup, add_list, add_str, add_int, sub_int, ↓wp_ointg, ointK, popJ, ↓wp_chkl, chkK, ↓wp_putl, putK, putO_ite, putO_some, appF, ↓len_list, ↓len_tup, decide_eq_true_eq, decide_eq_false_iff_not, sz, Nat.reduceLeDiff, z1]
      refine t12 hf' fun d μ3 hd hf3 => ?_
      have z2 : vs.length + ys.length + 1 ≤ sizeLine := by rw [sizeLine_eq']; omega
      simp only [↓wp_then, ↓wp_exp, ↓wp_set, ↓wp_kite, ↓wp_kret, ↓wp_sti, ↓wp_par, ↓wp_bind, ↓wp_ret, ↓wp_optS, ↓wp_optI, ↓wp_opd, ↓wp_frz, ↓wp_two, ↓wp_one, ↓wp_bin, ↓wp_cmp, ↓wp_idx, ↓wp_neg, ↓wp_not, ↓wp_isi, ↓wp_tru, ↓wp_tand, ↓wp_tor, ↓wp_tnot, ↓wp_ite, ↓wp_and, ↓wp_or, ↓wp_lnil, ↓wp_lcons, ↓wp_peeks0, ↓wp_peeks1, ↓wp_blt, ↓wp_tup, ↓wp_lst, ↓wp_var, varK, ↓opd_dat, ↓opd_own, ↓opd_ext, ↓opd_loc, ↓peek_dat, ↓peek_loc, locK, ↓frz_dat, ↓frz_own, ↓frz_loc, frzK, ↓setv_dat, ↓setv_own, ↓setv_ext, ↓ret_dat, ↓ret_own, ↓ret_ext, ↓ret_loc, retK, ↓wp_call, callK, ↓argv_dat, ↓argv_own, ↓argv_ext, ↓argv_loc, argK, ↓wp_lend, lendK, solve_nil, solve_dat, solve_ext, solve_scr, ↓wp_slot, flowK, endK, ↓wp_chn, ↓wp_sli, setSlot, List.getElem?_cons_zero, List.getElem?_cons_succ, Option.join_some, Option.map_some, List.length_cons, List.length_nil, Nat.reduceAdd, Nat.reduceLT, List.set_cons_zero, List.set_cons_succ, true_and, and_true, ↓wp_ifb, ↓wp_dct, ↓wp_lkv, ↓wp_sls, slsK, ↓wp_rev, ↓wp_asg, ↓wp_dot, ↓wp_join, ↓wp_app, ↓wp_pop1, true_implies, false_implies, Bool.true_eq_false, Bool.false_eq_true, and_self, List.any_cons, List.any_nil, Bool.or_false, tru_bool, tru_int, tru_none, tru_list, tru_tup, ty1, ty2, ty3, ty4, ty5, ty6, ty7, ty8, Bool.not_true, Bool.not_false, gCmp, gIdx, gNeg, cmp_gt, cmp_lt, cmp_ge, cmp_le, cmp_eqi, sli_tup, sli_list, rev_tup, add_tup, add_list, add_str, add_int, sub_int, ↓wp_ointg, ointK, popJ, ↓wp_chkl, chkK, ↓wp_putl, putK, putO_ite, putO_some, appF, ↓len_list, ↓len_tup, decide_eq_true_eq, decide_eq_false_iff_not, sz, Nat.reduceLeDiff, List.length_append, z2]
      refine ⟨_, μ3, rfl, ?_, hf3⟩
      intro y hyy
      rcases List.mem_append.mp hyy with hyy | hyy
      · rcases List.mem_append.mp hyy with hyy | hyy
        · exact hv y hyy
        · exact hy y hyy
      · exact List.mem_singleton.mp hyy ▸ good_of hd.1
  · rintro f s ⟨rfl, ws, μ', rfl, hw, hf'⟩
    simp only [flowK]
    rw [wp_then]
    refine wp_mono (check (L := L) (n := n + 2) hw) ?_
    rintro f s ⟨rfl, rfl⟩
    simp only [flowK, wp_ret]
    exact ⟨trivial, _, _, rfl, hf'⟩
theorem pow59 : binD .pow (.int 10) (.int 59) = some (.dat (.int (10 ^ 59))) := by
  show (if (0 : Int) ≤ 59 ∧ (59 : Int) ≤ 1000000 ∧ (10 : Int).natAbs < 2 ^ 64 then some (Val.dat (.int ((10 : Int) ^ (59 : Int).toNat))) else none) = _
  rw [if_pos (by decide)]; rfl
theorem pow58 : binD .pow (.int 10) (.int 58) = some (.dat (.int (10 ^ 58))) := by
  show (if (0 : Int) ≤ 58 ∧ (58 : Int) ≤ 1000000 ∧ (10 : Int).natAbs < 2 ^ 64 then some (Val.dat (.int ((10 : Int) ^ (58 : Int).toNat))) else none) = _
  rw [if_pos (by decide)]; rfl
theorem consts {xs : List D} (h : (xs.all goodB) = true) : ∀ d ∈ xs, Good d := fun d hd => good_of (List.all_eq_true.mp h d hd)
theorem t15 {ns : List Int} (hn : ns.length ≤ 63) : wpc (callD Ds L (n + 6) 15 [.scr ns] []) fun v _ => v = .dat (.bool true) := by
  refine wpc_call (d := d_law) rfl rfl ?_
  have lap : ∀ (d : D) {f1 a2 a4 a5 : Option Val} {μ : List D}, FeedAt f1 μ → wp (run (callD Ds L (n + 5)) L lapC) ⟨[some (.scr ns), f1, a2, some (.dat d), a4, a5, none, none], μ⟩ fun f s => f = .nx ∧ ∃ f1 a2 a3 a4 a5, s.ρ = [some (.scr ns), f1, a2, a3, a4, a5, none, none] ∧ FeedAt f1 s.μ := fun d f1 a2 a4 a5 μ hf => by
    refine t15a hf fun ds μ1 h1 h2 h3 hf1 => ?_
    refine t15b h1 h2 h3 fun g a4 x g1 g2 g3 hx => ?_
    refine wp_mono (t15c g1 g2 g3 (seven_good g3 h3 g2 h2 hx) (show 7 ≤ 10 by decide) hf1) ?_
    rintro f s ⟨rfl, a2, μ2, rfl, hf2⟩
    exact ⟨rfl, _, _, _, _, _, rfl, .inr ⟨rfl, hf2⟩⟩
  simp only [lapC, d_law, k5, nxt, bodyOf, run] at lap
  simp only [d_law, run, List.map, List.replicate, Nat.reduceSub, List.length_cons, List.length_nil, Nat.reduceAdd, List.cons_append, List.nil_append]
  rw [← wpI_eq]
  refine wpI_seq (I := fun s => ∃ c : List Int, c.length ≤ 63 ∧ s = ⟨[some (.scr ns), some (.own (feedD c 0 0 0)), none, none, none, none, none, none], []⟩) ?_ ?_
  · rw [wpI_eq]
    simp only [den, Den.ex, Den.no, ↓wp_then, ↓wp_exp, ↓wp_set, ↓wp_kite, ↓wp_kret, ↓wp_sti, ↓wp_par, ↓wp_bind, ↓wp_ret, ↓wp_optS, ↓wp_optI, ↓wp_opd, ↓wp_frz, ↓wp_two, ↓wp_one, ↓wp_bin, ↓wp_cmp, ↓wp_idx, ↓wp_neg, ↓wp_not, ↓wp_isi, ↓wp_tru, ↓wp_tand, ↓wp_tor, ↓wp_tnot, ↓wp_ite, ↓wp_and, ↓wp_or, ↓wp_lnil, ↓wp_lcons, ↓wp_peeks0, ↓wp_peeks1, ↓wp_blt, ↓wp_tup, ↓wp_lst, ↓wp_var, varK, ↓opd_dat, ↓opd_own, ↓opd_ext, ↓opd_loc, ↓peek_dat, ↓peek_loc, locK, ↓frz_dat, ↓frz_own, ↓frz_loc, frzK, ↓setv_dat, ↓setv_own, ↓setv_ext, ↓ret_dat, ↓ret_own, ↓ret_ext, ↓ret_loc, retK, ↓wp_call, callK, ↓argv_dat, ↓argv_own, ↓argv_ext, ↓argv_loc, argK, ↓wp_lend, lendK, solve_nil, solve_dat, solve_ext, solve_scr, ↓wp_slot, flowK, endK, ↓wp_chn, ↓wp_sli, setSlot, List.getElem?_cons_zero, List.getElem?_cons_succ, Option.join_some, Option.map_some, List.length_cons, List.length_nil, Nat.reduceAdd, Nat.reduceLT, List.set_cons_zero, List.set_cons_succ, true_and, and_true, ↓wp_ifb, ↓wp_dct, ↓wp_lkv, ↓wp_sls, slsK, ↓wp_rev, ↓wp_asg, ↓wp_dot, ↓wp_join, ↓wp_app, ↓wp_pop1, true_implies, false_implies, Bool.true_eq_false, Bool.false_eq_true, and_self, List.any_cons, List.any_nil, Bool.or_false, tru_bool, tru_int, tru_none, tru_list, tru_tup, ty1, ty2, ty3, ty4, ty5, ty6, ty7, ty8, Bool.not_true, Bool.not_false, gCmp, gIdx, gNeg, cmp_gt, cmp_lt, cmp_ge, cmp_le, cmp_eqi, sli_tup, sli_list, rev_tup, add_tup, add_list, add_str, add_int, sub_int, ↓wp_ointg, ointK, popJ, ↓wp_chkl, chkK, ↓wp_putl, putK, putO_ite, putO_some, appF, ↓len_list, ↓len_tup, decide_eq_true_eq, decide_eq_false_iff_not, sz, Nat.reduceLeDiff]
    refine t5 hn fun c hc => ?_
    simp only [↓wp_then, ↓wp_exp, ↓wp_set, ↓wp_kite, ↓wp_kret, ↓wp_sti, ↓wp_par, ↓wp_bind, ↓wp_ret, ↓wp_optS, ↓wp_optI, ↓wp_opd, ↓wp_frz, ↓wp_two, ↓wp_one, ↓wp_bin, ↓wp_cmp, ↓wp_idx, ↓wp_neg, ↓wp_not, ↓wp_isi, ↓wp_tru, ↓wp_tand, ↓wp_tor, ↓wp_tnot, ↓wp_ite, ↓wp_and, ↓wp_or, ↓wp_lnil, ↓wp_lcons, ↓wp_peeks0, ↓wp_peeks1, ↓wp_blt, ↓wp_tup, ↓wp_lst, ↓wp_var, varK, ↓opd_dat, ↓opd_own, ↓opd_ext, ↓opd_loc, ↓peek_dat, ↓peek_loc, locK, ↓frz_dat, ↓frz_own, ↓frz_loc, frzK, ↓setv_dat, ↓setv_own, ↓setv_ext, ↓ret_dat, ↓ret_own, ↓ret_ext, ↓ret_loc, retK, ↓wp_call, callK, ↓argv_dat, ↓argv_own, ↓argv_ext, ↓argv_loc, argK, ↓wp_lend, lendK, solve_nil, solve_dat, solve_ext, solve_scr, ↓wp_slot, flowK, endK, ↓wp_chn, ↓wp_sli, setSlot, List.getElem?_cons_zero, List.getElem?_cons_succ, Option.join_some, Option.map_some, List.length_cons, List.length_nil, Nat.reduceAdd, Nat.reduceLT, List.set_cons_zero, List.set_cons_succ, true_and, and_true, ↓wp_ifb, ↓wp_dct, ↓wp_lkv, ↓wp_sls, slsK, ↓wp_rev, ↓wp_asg, ↓wp_dot, ↓wp_join, ↓wp_app, ↓wp_pop1, true_implies, false_implies, Bool.true_eq_false, Bool.false_eq_true, and_self, List.any_cons, List.any_nil, Bool.or_false, tru_bool, tru_int, tru_none, tru_list, tru_tup, ty1, ty2, ty3, ty4, ty5, ty6, ty7, ty8, Bool.not_true, Bool.not_false, gCmp, gIdx, gNeg, cmp_gt, cmp_lt, cmp_ge, cmp_le, cmp_eqi, sli_tup, sli_list, rev_tup, add_tup, add_list, add_str, add_int, sub_int, ↓wp_ointg, ointK, popJ, ↓wp_chkl, chkK, ↓wp_putl, putK, putO_ite, putO_some, appF, ↓len_list, ↓len_tup, decide_eq_true_eq, decide_eq_false_iff_not, sz, Nat.reduceLeDiff]
    exact ⟨c, hc, rfl⟩
  rintro s ⟨c, hc, rfl⟩
  -- the constants
  refine wpI_seq (I := fun s => ∃ vs, s = ⟨[some (.scr ns), some (.own (feedD c 0 0 0)), some (.own (.list vs)), none, none, none, none, none], []⟩ ∧ vs.length = 16 ∧ ∀ d ∈ vs, Good d) ?_ ?_
  · rw [wpI_eq]
    simp only [den, Den.ex, Den.no, ↓wp_then, ↓wp_exp, ↓wp_set, ↓wp_kite, ↓wp_kret, ↓wp_sti, ↓wp_par, ↓wp_bind, ↓wp_ret, ↓wp_optS, ↓wp_optI, ↓wp_opd, ↓wp_frz, ↓wp_two, ↓wp_one, ↓wp_bin, ↓wp_cmp, ↓wp_idx, ↓wp_neg, ↓wp_not, ↓wp_isi, ↓wp_tru, ↓wp_tand, ↓wp_tor, ↓wp_tnot, ↓wp_ite, ↓wp_and, ↓wp_or, ↓wp_lnil, ↓wp_lcons, ↓wp_peeks0, ↓wp_peeks1, ↓wp_blt, ↓wp_tup, ↓wp_lst, ↓wp_var, varK, ↓opd_dat, ↓opd_own, ↓opd_ext, ↓opd_loc, ↓peek_dat, ↓peek_loc, locK, ↓frz_dat, ↓frz_own, ↓frz_loc, frzK, ↓setv_dat, ↓setv_own, ↓setv_ext, ↓ret_dat, ↓ret_own, ↓ret_ext, ↓ret_loc, retK, ↓wp_call, callK, ↓argv_dat, ↓argv_own, ↓argv_ext, ↓argv_loc, argK, ↓wp_lend, lendK, solve_nil, solve_dat, solve_ext, solve_scr, ↓wp_slot, flowK, endK, ↓wp_chn, ↓wp_sli, setSlot, List.getElem?_cons_zero, List.getElem?_cons_succ, Option.join_some, Option.map_some, List.length_cons, List.length_nil, Nat.reduceAdd, Nat.reduceLT, List.set_cons_zero, List.set_cons_succ, true_and, and_true, ↓wp_ifb, ↓wp_dct, ↓wp_lkv, ↓wp_sls, slsK, ↓wp_rev, ↓wp_asg, ↓wp_dot, ↓wp_join, ↓wp_app, ↓wp_pop1, true_implies, false_implies, Bool.true_eq_false, Bool.false_eq_true, and_self, List.any_cons, List.any_nil, Bool.or_false, tru_bool, tru_int, tru_none, tru_list, tru_tup, ty1, ty2, ty3, ty4, ty5, ty6, ty7, ty8, Bool.not_true, Bool.not_false, gCmp, gIdx, gNeg, cmp_gt, cmp_lt, cmp_ge, cmp_le, cmp_eqi, sli_tup, sli_list, rev_tup, add_tup, add_list, add_str, add_int, sub_int, ↓wp_ointg, ointK, popJ, ↓wp_chkl, chkK, ↓wp_putl, putK, putO_ite, putO_some, appF, ↓len_list, ↓len_tup, decide_eq_true_eq, decide_eq_false_iff_not, sz, Nat.reduceLeDiff, pow59, pow58]
    exact ⟨_, rfl, rfl, consts (by decide +kernel)⟩
  rintro s ⟨vs, rfl, hl, hv⟩
  refine wpI_seq (I := fun s => ∃ vs, s = ⟨[some (.scr ns), some (.own (feedD c 0 0 0)), some (.own (.list vs)), none, none, none, none, none], []⟩ ∧ vs.length ≤ 100 ∧ ∀ d ∈ vs, Good d) ?_ ?_
  · rw [wpI_eq]
    simp only [den, Den.ex, Den.no, ↓wp_then, ↓wp_exp, ↓wp_set, ↓wp_kite, ↓wp_kret, ↓wp_sti, ↓wp_par, ↓wp_bind, ↓wp_ret, ↓wp_optS, ↓wp_optI, ↓wp_opd, ↓wp_frz, ↓wp_two, ↓wp_one, ↓wp_bin, ↓wp_cmp, ↓wp_idx, ↓wp_neg, ↓wp_not, ↓wp_isi, ↓wp_tru, ↓wp_tand, ↓wp_tor, ↓wp_tnot, ↓wp_ite, ↓wp_and, ↓wp_or, ↓wp_lnil, ↓wp_lcons, ↓wp_peeks0, ↓wp_peeks1, ↓wp_blt, ↓wp_tup, ↓wp_lst, ↓wp_var, varK, ↓opd_dat, ↓opd_own, ↓opd_ext, ↓opd_loc, ↓peek_dat, ↓peek_loc, locK, ↓frz_dat, ↓frz_own, ↓frz_loc, frzK, ↓setv_dat, ↓setv_own, ↓setv_ext, ↓ret_dat, ↓ret_own, ↓ret_ext, ↓ret_loc, retK, ↓wp_call, callK, ↓argv_dat, ↓argv_own, ↓argv_ext, ↓argv_loc, argK, ↓wp_lend, lendK, solve_nil, solve_dat, solve_ext, solve_scr, ↓wp_slot, flowK, endK, ↓wp_chn, ↓wp_sli, setSlot, List.getElem?_cons_zero, List.getElem?_cons_succ, Option.join_some, Option.map_some, List.length_cons, List.length_nil, Nat.reduceAdd, Nat.reduceLT, List.set_cons_zero, List.set_cons_succ, true_and, and_true, ↓wp_ifb, ↓wp_dct, ↓wp_lkv, ↓wp_sls, slsK, ↓wp_rev, ↓wp_asg, ↓wp_dot, ↓wp_join, ↓wp_app, ↓wp_pop1, true_implies, false_implies, Bool.true_eq_false, Bool.false_eq_true, and_self, List.any_cons, List.any_nil, Bool.or_false, tru_bool, tru_int, tru_none, tru_list, tru_tup, ty1, ty2, ty3, ty4, ty5, ty6, ty7, ty8, Bool.not_true, Bool.not_false, gCmp, gIdx, gNeg, cmp_gt, cmp_lt, cmp_ge, cmp_le, cmp_eqi, sli_tup, sli_list, rev_tup, add_tup, add_list, add_str, add_int, sub_int, ↓wp_ointg, ointK, popJ, ↓wp_chkl, chkK, ↓wp_putl, putK, putO_ite, putO_some, appF, ↓len_list, ↓len_tup, decide_eq_true_eq, decide_eq_false_iff_not, sz, Nat.reduceLeDiff, hl]
    refine ⟨_, rfl, ?_, fun d hd => ?_⟩
    · rw [List.length_append, hl]; decide
    · rcases List.mem_append.mp hd with hd | hd
      · exact hv d hd
      · exact consts (by decide +kernel) d hd
  clear hl hv vs
  rintro s ⟨vs, rfl, hl, hv⟩
  refine wpI_seq (I := fun s => ∃ vs, s = ⟨[some (.scr ns), some (.own (feedD c 0 0 0)), some (.own (.list vs)), none, none, none, none, none], []⟩ ∧ vs.length ≤ 110 ∧ ∀ d ∈ vs, Good d) ?_ ?_
  · have z : vs.length + 8 ≤ sizeLine := by rw [sizeLine_eq']; omega
    rw [wpI_eq]
    simp only [den, Den.ex, Den.no, ↓wp_then, ↓wp_exp, ↓wp_set, ↓wp_kite, ↓wp_kret, ↓wp_sti, ↓wp_par, ↓wp_bind, ↓wp_ret, ↓wp_optS, ↓wp_optI, ↓wp_opd, ↓wp_frz, ↓wp_two, ↓wp_one, ↓wp_bin, ↓wp_cmp, ↓wp_idx, ↓wp_neg, ↓wp_not, ↓wp_isi, ↓wp_tru, ↓wp_tand, ↓wp_tor, ↓wp_tnot, ↓wp_ite, ↓wp_and, ↓wp_or, ↓wp_lnil, ↓wp_lcons, ↓wp_peeks0, ↓wp_peeks1, ↓wp_blt, ↓wp_tup, ↓wp_lst, ↓wp_var, varK, ↓opd_dat, ↓opd_own, ↓opd_ext, ↓opd_loc, ↓peek_dat, ↓peek_loc, locK, ↓frz_dat, ↓frz_own, ↓frz_loc, frzK, ↓setv_dat, ↓setv_own, ↓setv_ext, ↓ret_dat, ↓ret_own, ↓ret_ext, ↓ret_loc, retK, ↓wp_call, callK, ↓argv_dat, ↓argv_own, ↓argv_ext, ↓argv_loc, argK, ↓wp_lend, lendK, solve_nil, solve_dat, solve_ext, solve_scr, ↓wp_slot, flowK, endK, ↓wp_chn, ↓wp_sli, setSlot, List.getElem?_cons_zero, List.getElem?_cons_succ, Option.join_some, Option.map_some, List.length_cons, List.length_nil, Nat.reduceAdd, Nat.reduceLT, List.set_cons_zero, List.set_cons_succ, true_and, and_true, ↓wp_ifb, ↓wp_dct, ↓wp_lkv, ↓wp_sls, slsK, ↓wp_rev, ↓wp_asg, ↓wp_dot, ↓wp_join, ↓wp_app, ↓wp_pop1, true_implies, false_implies, Bool.true_eq_false, Bool.false_eq_true, and_self, List.any_cons, List.any_nil, Bool.or_false, tru_bool, tru_int, tru_none, tru_list, tru_tup, ty1, ty2, ty3, ty4, ty5, ty6, ty7, ty8, Bool.not_true, Bool.not_false, gCmp, gIdx, gNeg, cmp_gt, cmp_lt, cmp_ge, cmp_le, cmp_eqi, sli_tup, sli_list, rev_tup, add_tup, add_list, add_str, add_int, sub_int, ↓wp_ointg, ointK, popJ, ↓wp_chkl, chkK, ↓wp_putl, putK, putO_ite, putO_some, appF, ↓len_list, ↓len_tup, decide_eq_true_eq, decide_eq_false_iff_not, sz, Nat.reduceLeDiff, z]
    refine ⟨_, rfl, ?_, fun d hd => ?_⟩
    · rw [List.length_append]
      show vs.length + 8 ≤ _
      omega
    · rcases List.mem_append.mp hd with hd | hd
      · exact hv d hd
      · exact consts (by decide +kernel) d hd
  clear hl hv vs
  rintro s ⟨vs, rfl, hl, hv⟩
  refine wpI_seq (I := fun s => ∃ vs, s = ⟨[some (.scr ns), some (.own (feedD c 0 0 0)), some (.own (.list vs)), none, none, none, none, none], []⟩ ∧ vs.length ≤ 120 ∧ ∀ d ∈ vs, Good d) ?_ ?_
  · have z : vs.length + 8 ≤ sizeLine := by rw [sizeLine_eq']; omega
    rw [wpI_eq]
    simp only [den, Den.ex, Den.no, ↓wp_then, ↓wp_exp, ↓wp_set, ↓wp_kite, ↓wp_kret, ↓wp_sti, ↓wp_par, ↓wp_bind, ↓wp_ret, ↓wp_optS, ↓wp_optI, ↓wp_opd, ↓wp_frz, ↓wp_two, ↓wp_one, ↓wp_bin, ↓wp_cmp, ↓wp_idx, ↓wp_neg, ↓wp_not, ↓wp_isi, ↓wp_tru, ↓wp_tand, ↓wp_tor, ↓wp_tnot, ↓wp_ite, ↓wp_and, ↓wp_or, ↓wp_lnil, ↓wp_lcons, ↓wp_peeks0, ↓wp_peeks1, ↓wp_blt, ↓wp_tup, ↓wp_lst, ↓wp_var, varK, ↓opd_dat, ↓opd_own, ↓opd_ext, ↓opd_loc, ↓peek_dat, ↓peek_loc, locK, ↓frz_dat, ↓frz_own, ↓frz_loc, frzK, ↓setv_dat, ↓setv_own, ↓setv_ext, ↓ret_dat, ↓ret_own, ↓ret_ext, ↓ret_loc, retK, ↓wp_call, callK, ↓argv_dat, ↓argv_own, ↓argv_ext, ↓argv_loc, argK, ↓wp_lend, lendK, solve_nil, solve_dat, solve_ext, solve_scr, ↓wp_slot, flowK, endK, ↓wp_chn, ↓wp_sli, setSlot, List.getElem?_cons_zero, List.getElem?_cons_succ, Option.join_some, Option.map_some, List.length_cons, List.length_nil, Nat.reduceAdd, Nat.reduceLT, List.set_cons_zero, List.set_cons_succ, true_and, and_true, ↓wp_ifb, ↓wp_dct, ↓wp_lkv, ↓wp_sls, slsK, ↓wp_rev, ↓wp_asg, ↓wp_dot, ↓wp_join, ↓wp_app, ↓wp_pop1, true_implies, false_implies, Bool.true_eq_false, Bool.false_eq_true, and_self, List.any_cons, List.any_nil, Bool.or_false, tru_bool, tru_int, tru_none, tru_list, tru_tup, ty1, ty2, ty3, ty4, ty5, ty6, ty7, ty8, Bool.not_true, Bool.not_false, gCmp, gIdx, gNeg, cmp_gt, cmp_lt, cmp_ge, cmp_le, cmp_eqi, sli_tup, sli_list, rev_tup, add_tup, add_list, add_str, add_int, sub_int, ↓wp_ointg, ointK, popJ, ↓wp_chkl, chkK, ↓wp_putl, putK, putO_ite, putO_some, appF, ↓len_list, ↓len_tup, decide_eq_true_eq, decide_eq_false_iff_not, sz, Nat.reduceLeDiff, z]
    refine ⟨_, rfl, ?_, fun d hd => ?_⟩
    · rw [List.length_append]
      show vs.length + 8 ≤ _
      omega
    · rcases List.mem_append.mp hd with hd | hd
      · exact hv d hd
      · exact consts (by decide +kernel) d hd
  clear hl hv vs
  rintro s ⟨vs, rfl, hl, hv⟩
  have hc2 := check (L := L) (n := n + 2) (a0 := some (.scr ns)) (a1 := some (.own (feedD c 0 0 0))) (a3 := none) (a4 := none) (a5 := none) (a7 := none) (μ := []) hv
  rw [← wpI_eq] at hc2
  refine wpI_seq hc2 ?_
  rintro s rfl
  rw [wpI_eq, wp_then, wp_kfor_]
  simp only [den, Den.ex, Den.no, ↓wp_range, ↓wp_then, ↓wp_exp, ↓wp_set, ↓wp_kite, ↓wp_kret, ↓wp_sti, ↓wp_par, ↓wp_bind, ↓wp_ret, ↓wp_optS, ↓wp_optI, ↓wp_opd, ↓wp_frz, ↓wp_two, ↓wp_one, ↓wp_bin, ↓wp_cmp, ↓wp_idx, ↓wp_neg, ↓wp_not, ↓wp_isi, ↓wp_tru, ↓wp_tand, ↓wp_tor, ↓wp_tnot, ↓wp_ite, ↓wp_and, ↓wp_or, ↓wp_lnil, ↓wp_lcons, ↓wp_peeks0, ↓wp_peeks1, ↓wp_blt, ↓wp_tup, ↓wp_lst, ↓wp_var, varK, ↓opd_dat, ↓opd_own, ↓opd_ext, ↓opd_loc, ↓peek_dat, ↓peek_loc, locK, ↓frz_dat, ↓frz_own, ↓frz_loc, frzK, ↓setv_dat, ↓setv_own, ↓setv_ext, ↓ret_dat, ↓ret_own, ↓ret_ext, ↓ret_loc, retK, ↓wp_call, callK, ↓argv_dat, ↓argv_own, ↓argv_ext, ↓argv_loc, argK, ↓wp_lend, lendK, solve_nil, solve_dat, solve_ext, solve_scr, ↓wp_slot, flowK, endK, ↓wp_chn, ↓wp_sli, setSlot, List.getElem?_cons_zero, List.getElem?_cons_succ, Option.join_some, Option.map_some, List.length_cons, List.length_nil, Nat.reduceAdd, Nat.reduceLT, List.set_cons_zero, List.set_cons_succ, true_and, and_true, ↓wp_ifb, ↓wp_dct, ↓wp_lkv, ↓wp_sls, slsK, ↓wp_rev, ↓wp_asg, ↓wp_dot, ↓wp_join, ↓wp_app, ↓wp_pop1, true_implies, false_implies, Bool.true_eq_false, Bool.false_eq_true, and_self, List.any_cons, List.any_nil, Bool.or_false, tru_bool, tru_int, tru_none, tru_list, tru_tup, ty1, ty2, ty3, ty4, ty5, ty6, ty7, ty8, Bool.not_true, Bool.not_false, gCmp, gIdx, gNeg, cmp_gt, cmp_lt, cmp_ge, cmp_le, cmp_eqi, sli_tup, sli_list, rev_tup, add_tup, add_list, add_str, add_int, sub_int, ↓wp_ointg, ointK, popJ, ↓wp_chkl, chkK, ↓wp_putl, putK, putO_ite, putO_some, appF, ↓len_list, ↓len_tup, decide_eq_true_eq, decide_eq_false_iff_not, sz, Nat.reduceLeDiff, ↓range_one (fit_small (show (0 : Int) ≤ 4 by decide) (show (4 : Int) ≤ 1000 by decide))]
  rw [← wpI_eq]
  refine wpI_mono (wpI_for (I := fun s => ∃ f1 a2 a3 a4 a5, s.ρ = [some (.scr ns), f1, a2, a3, a4, a5, none, none] ∧ FeedAt f1 s.μ) ⟨_, _, _, _, _, rfl, .inl ⟨c, hc, rfl, rfl⟩⟩ ?_) ?_
  · rintro d hd ⟨ρ, μ⟩ ⟨f1, a2, a3, a4, a5, e, hf⟩
    dsimp only at e hf
    subst e
    simp only [den, Den.ex, Den.no] at lap
    simp only [↓wp_bind, ↓wp_gvar, ↓wp_slot, List.length_cons, List.length_nil, Nat.reduceAdd, Nat.reduceLT, true_and, List.set_cons_succ, List.set_cons_zero]
    exact lap d hf
  · rintro f ⟨ρ, μ⟩ ⟨rfl, f1, a2, a3, a4, a5, e, hf⟩
    simp only [flowK, ↓wp_then, ↓wp_exp, ↓wp_set, ↓wp_kite, ↓wp_kret, ↓wp_sti, ↓wp_par, ↓wp_bind, ↓wp_ret, ↓wp_optS, ↓wp_optI, ↓wp_opd, ↓wp_frz, ↓wp_two, ↓wp_one, ↓wp_bin, ↓wp_cmp, ↓wp_idx, ↓wp_neg, ↓wp_not, ↓wp_isi, ↓wp_tru, ↓wp_tand, ↓wp_tor, ↓wp_tnot, ↓wp_ite, ↓wp_and, ↓wp_or, ↓wp_lnil, ↓wp_lcons, ↓wp_peeks0, ↓wp_peeks1, ↓wp_blt, ↓wp_tup, ↓wp_lst, ↓wp_var, varK, ↓opd_dat, ↓opd_own, ↓opd_ext, ↓opd_loc, ↓peek_dat, ↓peek_loc, locK, ↓frz_dat, ↓frz_own, ↓frz_loc, frzK, ↓setv_dat, ↓setv_own, ↓setv_ext, ↓ret_dat, ↓ret_own, ↓ret_ext, ↓ret_loc, retK, ↓wp_call, callK, ↓argv_dat, ↓argv_own, ↓argv_ext, ↓argv_loc, argK, ↓wp_lend, lendK, solve_nil, solve_dat, solve_ext, solve_scr, ↓wp_slot, flowK, endK, ↓wp_chn, ↓wp_sli, setSlot, List.getElem?_cons_zero, List.getElem?_cons_succ, Option.join_some, Option.map_some, List.length_cons, List.length_nil, Nat.reduceAdd, Nat.reduceLT, List.set_cons_zero, List.set_cons_succ, true_and, and_true, ↓wp_ifb, ↓wp_dct, ↓wp_lkv, ↓wp_sls, slsK, ↓wp_rev, ↓wp_asg, ↓wp_dot, ↓wp_join, ↓wp_app, ↓wp_pop1, true_implies, false_implies, Bool.true_eq_false, Bool.false_eq_true, and_self, List.any_cons, List.any_nil, Bool.or_false, tru_bool, tru_int, tru_none, tru_list, tru_tup, ty1, ty2, ty3, ty4, ty5, ty6, ty7, ty8, Bool.not_true, Bool.not_false, gCmp, gIdx, gNeg, cmp_gt, cmp_lt, cmp_ge, cmp_le, cmp_eqi, sli_tup, sli_list, rev_tup, add_tup, add_list, add_str, add_int, sub_int, ↓wp_ointg, ointK, popJ, ↓wp_chkl, chkK, ↓wp_putl, putK, putO_ite, putO_some, appF, ↓len_list, ↓len_tup, decide_eq_true_eq, decide_eq_false_iff_not, sz, Nat.reduceLeDiff]
end
end Ded.DM
end

section
set_option maxHeartbeats 0
/-! ### the text: its defs by places -/
namespace DedHead
open PySem L2 Ded Ded.P
def top (i : Nat) : Stmt := PySem.Challenge.pw_kitsleft_k01_kinds_told.main.body.getD i (.Pass ⟨0, 0, 0, 0⟩)
def infos : List GInfo := [⟨"is_integer", ["thing"]⟩, ⟨"is_number", ["thing"]⟩, ⟨"is_name", ["thing"]⟩, ⟨"are_rising", ["things"]⟩, ⟨"is_names", ["thing"]⟩, ⟨"_law_feed", ["_law_script"]⟩, ⟨"_law_draw", ["_law_feed_here", "_law_many"]⟩, ⟨"_law_any", ["_law_feed_here", "_law_some"]⟩, ⟨"_law_names", ["_law_feed_here", "_law_many"]⟩, ⟨"_law_is_number", ["_law_what"]⟩, ⟨"_law_is_name", ["_law_what"]⟩, ⟨"_law_is_set", ["_law_what"]⟩, ⟨"_law_strange", ["_law_feed_here"]⟩, ⟨"_law_spoilt", ["_law_feed_here", "_law_what"]⟩, ⟨"_law_is_right", ["_law_what"]⟩, ⟨"law", ["_law_script"]⟩]
def noG : List Str := ["len", "int", "list", "tuple", "repr", "all", "sorted", "str", "isinstance", "bool", "zip", "range"]
def cons : List (Str × D) := [("LONGEST_NAME", .int 8), ("LETTERS", .str "abcdefghijklmnopqrstuvwxyz")]
abbrev mk (s : Stmt) (x : Str) : He.DefD := ⟨(x, none), x, x, defArgs s, defBody s, defScope s, [], []⟩
def fn : List He.DefD := [mk (top 3) "is_integer", mk (top 4) "is_number", mk (top 5) "is_name", mk (top 6) "are_rising", mk (top 7) "is_names", mk (top 9) "_law_feed", mk (top 10) "_law_draw", mk (top 11) "_law_any", mk (top 12) "_law_names", mk (top 13) "_law_is_number", mk (top 14) "_law_is_name", mk (top 15) "_law_is_set", mk (top 16) "_law_strange", mk (top 17) "_law_spoilt", mk (top 18) "_law_is_right", mk (top 19) "law"]
def fa : List He.Fa := [.glo "is_integer", .glo "is_number", .glo "is_name", .glo "are_rising", .glo "is_names", .glo "_law_feed", .glo "_law_draw", .glo "_law_any", .glo "_law_names", .glo "_law_is_number", .glo "_law_is_name", .glo "_law_is_set", .glo "_law_strange", .glo "_law_spoilt", .glo "_law_is_right", .glo "law", .free "len", .free "int", .free "list", .free "tuple", .free "repr", .free "all", .free "sorted", .free "str", .free "isinstance", .free "bool", .free "zip", .free "range", .int "LONGEST_NAME" 8, .str "LETTERS" "abcdefghijklmnopqrstuvwxyz"]
section
variable {K : PySem.W.Frag} {h : Heap} {mg : Str → Option Value}
theorem sc_0 : FnScope ["thing"] ["thing"] (defScope (top 3)) := ⟨rfl, rfl, rfl, by decide +kernel, rfl, by decide +kernel, by decide +kernel⟩
theorem ck_0 : ckS Ded.P.d_is_integer.body ⟨["thing"], defScope (top 3), fun _ => true, infos, noG, cons⟩ (defBody (top 3)) = true := by decide +kernel
theorem st_0 (X : K.In h) (G : h.Ns mainGlobals mg) (c : He.SaysD fa fn K) : ∃ f fd, Stat K mg Ded.P.Ds infos noG cons 0 ⟨"is_integer", ["thing"]⟩ f fd := by
  obtain ⟨fd, F⟩ := c.def_ 0 (d := mk (top 3) "is_integer") rfl
  have F : Fun K "is_integer" "is_integer" (top 3) _ fd := He5.fun_of F
  refine ⟨_, fd, ⟨Ded.P.d_is_integer, _, _, _, rfl, F, sc_0, rfl, rfl, ck_0⟩, He.glo_ok X G (c.fact 0 (f := .glo "is_integer") rfl), F.binds fun _ _ _ _ _ _ us hl => ?_, fun s us hK hl => ?_⟩
  · exact match us, hl with | [_], _ => rfl
  · obtain ⟨oc, od, kV, doc, pm, an, cdv, ct, osl, rfl, lk, hcd⟩ := F.ex
    exact .of_eq (match us, hl with | [_], _ => rfl)
theorem sc_1 : FnScope ["thing"] ["thing"] (defScope (top 4)) := ⟨rfl, rfl, rfl, by decide +kernel, rfl, by decide +kernel, by decide +kernel⟩
theorem ck_1 : ckS Ded.P.d_is_number.body ⟨["thing"], defScope (top 4), fun _ => true, infos, noG, cons⟩ (defBody (top 4)) = true := by decide +kernel
theorem st_1 (X : K.In h) (G : h.Ns mainGlobals mg) (c : He.SaysD fa fn K) : ∃ f fd, Stat K mg Ded.P.Ds infos noG cons 1 ⟨"is_number", ["thing"]⟩ f fd := by
  obtain ⟨fd, F⟩ := c.def_ 1 (d := mk (top 4) "is_number") rfl
  have F : Fun K "is_number" "is_number" (top 4) _ fd := He5.fun_of F
  refine ⟨_, fd, ⟨Ded.P.d_is_number, _, _, _, rfl, F, sc_1, rfl, rfl, ck_1⟩, He.glo_ok X G (c.fact 1 (f := .glo "is_number") rfl), F.binds fun _ _ _ _ _ _ us hl => ?_, fun s us hK hl => ?_⟩
  · exact match us, hl with | [_], _ => rfl
  · obtain ⟨oc, od, kV, doc, pm, an, cdv, ct, osl, rfl, lk, hcd⟩ := F.ex
    exact .of_eq (match us, hl with | [_], _ => rfl)
theorem sc_2 : FnScope ["thing", "letter"] ["thing"] (defScope (top 5)) := ⟨rfl, rfl, rfl, by decide +kernel, rfl, by decide +kernel, by decide +kernel⟩
theorem ck_2 : ckS Ded.P.d_is_name.body ⟨["thing", "letter"], defScope (top 5), fun _ => true, infos, noG, cons⟩ (defBody (top 5)) = true := by decide +kernel
theorem st_2 (X : K.In h) (G : h.Ns mainGlobals mg) (c : He.SaysD fa fn K) : ∃ f fd, Stat K mg Ded.P.Ds infos noG cons 2 ⟨"is_name", ["thing"]⟩ f fd := by
  obtain ⟨fd, F⟩ := c.def_ 2 (d := mk (top 5) "is_name") rfl
  have F : Fun K "is_name" "is_name" (top 5) _ fd := He5.fun_of F
  refine ⟨_, fd, ⟨Ded.P.d_is_name, _, _, _, rfl, F, sc_2, rfl, rfl, ck_2⟩, He.glo_ok X G (c.fact 2 (f := .glo "is_name") rfl), F.binds fun _ _ _ _ _ _ us hl => ?_, fun s us hK hl => ?_⟩
  · exact match us, hl with | [_], _ => rfl
  · obtain ⟨oc, od, kV, doc, pm, an, cdv, ct, osl, rfl, lk, hcd⟩ := F.ex
    exact .of_eq (match us, hl with | [_], _ => rfl)
theorem sc_3 : FnScope ["things", "early", "late"] ["things"] (defScope (top 6)) := ⟨rfl, rfl, rfl, by decide +kernel, rfl, by decide +kernel, by decide +kernel⟩
theorem ck_3 : ckS Ded.P.d_are_rising.body ⟨["things", "early", "late"], defScope (top 6), fun _ => true, infos, noG, cons⟩ (defBody (top 6)) = true := by decide +kernel
theorem st_3 (X : K.In h) (G : h.Ns mainGlobals mg) (c : He.SaysD fa fn K) : ∃ f fd, Stat K mg Ded.P.Ds infos noG cons 3 ⟨"are_rising", ["things"]⟩ f fd := by
  obtain ⟨fd, F⟩ := c.def_ 3 (d := mk (top 6) "are_rising") rfl
  have F : Fun K "are_rising" "are_rising" (top 6) _ fd := He5.fun_of F
  refine ⟨_, fd, ⟨Ded.P.d_are_rising, _, _, _, rfl, F, sc_3, rfl, rfl, ck_3⟩, He.glo_ok X G (c.fact 3 (f := .glo "are_rising") rfl), F.binds fun _ _ _ _ _ _ us hl => ?_, fun s us hK hl => ?_⟩
  · exact match us, hl with | [_], _ => rfl
  · obtain ⟨oc, od, kV, doc, pm, an, cdv, ct, osl, rfl, lk, hcd⟩ := F.ex
    exact .of_eq (match us, hl with | [_], _ => rfl)
theorem sc_4 : FnScope ["thing", "name"] ["thing"] (defScope (top 7)) := ⟨rfl, rfl, rfl, by decide +kernel, rfl, by decide +kernel, by decide +kernel⟩
theorem ck_4 : ckS Ded.P.d_is_names.body ⟨["thing", "name"], defScope (top 7), fun _ => true, infos, noG, cons⟩ (defBody (top 7)) = true := by decide +kernel
theorem st_4 (X : K.In h) (G : h.Ns mainGlobals mg) (c : He.SaysD fa fn K) : ∃ f fd, Stat K mg Ded.P.Ds infos noG cons 4 ⟨"is_names", ["thing"]⟩ f fd := by
  obtain ⟨fd, F⟩ := c.def_ 4 (d := mk (top 7) "is_names") rfl
  have F : Fun K "is_names" "is_names" (top 7) _ fd := He5.fun_of F
  refine ⟨_, fd, ⟨Ded.P.d_is_names, _, _, _, rfl, F, sc_4, rfl, rfl, ck_4⟩, He.glo_ok X G (c.fact 4 (f := .glo "is_names") rfl), F.binds fun _ _ _ _ _ _ us hl => ?_, fun s us hK hl => ?_⟩
  · exact match us, hl with | [_], _ => rfl
  · obtain ⟨oc, od, kV, doc, pm, an, cdv, ct, osl, rfl, lk, hcd⟩ := F.ex
    exact .of_eq (match us, hl with | [_], _ => rfl)
theorem sc_5 : FnScope ["_law_script", "_law_one"] ["_law_script"] (defScope (top 9)) := ⟨rfl, rfl, rfl, by decide +kernel, rfl, by decide +kernel, by decide +kernel⟩
theorem ck_5 : ckS Ded.P.d__law_feed.body ⟨["_law_script", "_law_one"], defScope (top 9), fun _ => true, infos, noG, cons⟩ (defBody (top 9)) = true := by decide +kernel
theorem st_5 (X : K.In h) (G : h.Ns mainGlobals mg) (c : He.SaysD fa fn K) : ∃ f fd, Stat K mg Ded.P.Ds infos noG cons 5 ⟨"_law_feed", ["_law_script"]⟩ f fd := by
  obtain ⟨fd, F⟩ := c.def_ 5 (d := mk (top 9) "_law_feed") rfl
  have F : Fun K "_law_feed" "_law_feed" (top 9) _ fd := He5.fun_of F
  refine ⟨_, fd, ⟨Ded.P.d__law_feed, _, _, _, rfl, F, sc_5, rfl, rfl, ck_5⟩, He.glo_ok X G (c.fact 5 (f := .glo "_law_feed") rfl), F.binds fun _ _ _ _ _ _ us hl => ?_, fun s us hK hl => ?_⟩
  · exact match us, hl with | [_], _ => rfl
  · obtain ⟨oc, od, kV, doc, pm, an, cdv, ct, osl, rfl, lk, hcd⟩ := F.ex
    exact .of_eq (match us, hl with | [_], _ => rfl)
theorem sc_6 : FnScope ["_law_feed_here", "_law_many", "_law_one", "_law_mixed", "_law_digit", "_law_some", "_law_k"] ["_law_feed_here", "_law_many"] (defScope (top 10)) := ⟨rfl, rfl, rfl, by decide +kernel, rfl, by decide +kernel, by decide +kernel⟩
theorem ck_6 : ckS Ded.P.d__law_draw.body ⟨["_law_feed_here", "_law_many", "_law_one", "_law_mixed", "_law_digit", "_law_some", "_law_k"], defScope (top 10), fun _ => true, infos, noG, cons⟩ (defBody (top 10)) = true := by decide +kernel
theorem st_6 (X : K.In h) (G : h.Ns mainGlobals mg) (c : He.SaysD fa fn K) : ∃ f fd, Stat K mg Ded.P.Ds infos noG cons 6 ⟨"_law_draw", ["_law_feed_here", "_law_many"]⟩ f fd := by
  obtain ⟨fd, F⟩ := c.def_ 6 (d := mk (top 10) "_law_draw") rfl
  have F : Fun K "_law_draw" "_law_draw" (top 10) _ fd := He5.fun_of F
  refine ⟨_, fd, ⟨Ded.P.d__law_draw, _, _, _, rfl, F, sc_6, rfl, rfl, ck_6⟩, He.glo_ok X G (c.fact 6 (f := .glo "_law_draw") rfl), F.binds fun _ _ _ _ _ _ us hl => ?_, fun s us hK hl => ?_⟩
  · exact match us, hl with | [_, _], _ => rfl
  · obtain ⟨oc, od, kV, doc, pm, an, cdv, ct, osl, rfl, lk, hcd⟩ := F.ex
    exact .of_eq (match us, hl with | [_, _], _ => rfl)
theorem sc_7 : FnScope ["_law_feed_here", "_law_some"] ["_law_feed_here", "_law_some"] (defScope (top 11)) := ⟨rfl, rfl, rfl, by decide +kernel, rfl, by decide +kernel, by decide +kernel⟩
theorem ck_7 : ckS Ded.P.d__law_any.body ⟨["_law_feed_here", "_law_some"], defScope (top 11), fun _ => true, infos, noG, cons⟩ (defBody (top 11)) = true := by decide +kernel
theorem st_7 (X : K.In h) (G : h.Ns mainGlobals mg) (c : He.SaysD fa fn K) : ∃ f fd, Stat K mg Ded.P.Ds infos noG cons 7 ⟨"_law_any", ["_law_feed_here", "_law_some"]⟩ f fd := by
  obtain ⟨fd, F⟩ := c.def_ 7 (d := mk (top 11) "_law_any") rfl
  have F : Fun K "_law_any" "_law_any" (top 11) _ fd := He5.fun_of F
  refine ⟨_, fd, ⟨Ded.P.d__law_any, _, _, _, rfl, F, sc_7, rfl, rfl, ck_7⟩, He.glo_ok X G (c.fact 7 (f := .glo "_law_any") rfl), F.binds fun _ _ _ _ _ _ us hl => ?_, fun s us hK hl => ?_⟩
  · exact match us, hl with | [_, _], _ => rfl
  · obtain ⟨oc, od, kV, doc, pm, an, cdv, ct, osl, rfl, lk, hcd⟩ := F.ex
    exact .of_eq (match us, hl with | [_, _], _ => rfl)
theorem sc_8 : FnScope ["_law_feed_here", "_law_many", "_law_pool", "_law_found", "_law_lap", "_law_style", "_law_letters", "_law_stem", "_law_sign", "_law_one"] ["_law_feed_here", "_law_many"] (defScope (top 12)) := ⟨rfl, rfl, rfl, by decide +kernel, rfl, by decide +kernel, by decide +kernel⟩
theorem ck_8 : ckS Ded.P.d__law_names.body ⟨["_law_feed_here", "_law_many", "_law_pool", "_law_found", "_law_lap", "_law_style", "_law_letters", "_law_stem", "_law_sign", "_law_one"], defScope (top 12), fun _ => true, infos, noG, cons⟩ (defBody (top 12)) = true := by decide +kernel
theorem st_8 (X : K.In h) (G : h.Ns mainGlobals mg) (c : He.SaysD fa fn K) : ∃ f fd, Stat K mg Ded.P.Ds infos noG cons 8 ⟨"_law_names", ["_law_feed_here", "_law_many"]⟩ f fd := by
  obtain ⟨fd, F⟩ := c.def_ 8 (d := mk (top 12) "_law_names") rfl
  have F : Fun K "_law_names" "_law_names" (top 12) _ fd := He5.fun_of F
  refine ⟨_, fd, ⟨Ded.P.d__law_names, _, _, _, rfl, F, sc_8, rfl, rfl, ck_8⟩, He.glo_ok X G (c.fact 8 (f := .glo "_law_names") rfl), F.binds fun _ _ _ _ _ _ us hl => ?_, fun s us hK hl => ?_⟩
  · exact match us, hl with | [_, _], _ => rfl
  · obtain ⟨oc, od, kV, doc, pm, an, cdv, ct, osl, rfl, lk, hcd⟩ := F.ex
    exact .of_eq (match us, hl with | [_, _], _ => rfl)
theorem sc_9 : FnScope ["_law_what"] ["_law_what"] (defScope (top 13)) := ⟨rfl, rfl, rfl, by decide +kernel, rfl, by decide +kernel, by decide +kernel⟩
theorem ck_9 : ckS Ded.P.d__law_is_number.body ⟨["_law_what"], defScope (top 13), fun _ => true, infos, noG, cons⟩ (defBody (top 13)) = true := by decide +kernel
theorem st_9 (X : K.In h) (G : h.Ns mainGlobals mg) (c : He.SaysD fa fn K) : ∃ f fd, Stat K mg Ded.P.Ds infos noG cons 9 ⟨"_law_is_number", ["_law_what"]⟩ f fd := by
  obtain ⟨fd, F⟩ := c.def_ 9 (d := mk (top 13) "_law_is_number") rfl
  have F : Fun K "_law_is_number" "_law_is_number" (top 13) _ fd := He5.fun_of F
  refine ⟨_, fd, ⟨Ded.P.d__law_is_number, _, _, _, rfl, F, sc_9, rfl, rfl, ck_9⟩, He.glo_ok X G (c.fact 9 (f := .glo "_law_is_number") rfl), F.binds fun _ _ _ _ _ _ us hl => ?_, fun s us hK hl => ?_⟩
  · exact match us, hl with | [_], _ => rfl
  · obtain ⟨oc, od, kV, doc, pm, an, cdv, ct, osl, rfl, lk, hcd⟩ := F.ex
    exact .of_eq (match us, hl with | [_], _ => rfl)
theorem sc_10 : FnScope ["_law_what", "_law_sign"] ["_law_what"] (defScope (top 14)) := ⟨rfl, rfl, rfl, by decide +kernel, rfl, by decide +kernel, by decide +kernel⟩
theorem ck_10 : ckS Ded.P.d__law_is_name.body ⟨["_law_what", "_law_sign"], defScope (top 14), fun _ => true, infos, noG, cons⟩ (defBody (top 14)) = true := by decide +kernel
theorem st_10 (X : K.In h) (G : h.Ns mainGlobals mg) (c : He.SaysD fa fn K) : ∃ f fd, Stat K mg Ded.P.Ds infos noG cons 10 ⟨"_law_is_name", ["_law_what"]⟩ f fd := by
  obtain ⟨fd, F⟩ := c.def_ 10 (d := mk (top 14) "_law_is_name") rfl
  have F : Fun K "_law_is_name" "_law_is_name" (top 14) _ fd := He5.fun_of F
  refine ⟨_, fd, ⟨Ded.P.d__law_is_name, _, _, _, rfl, F, sc_10, rfl, rfl, ck_10⟩, He.glo_ok X G (c.fact 10 (f := .glo "_law_is_name") rfl), F.binds fun _ _ _ _ _ _ us hl => ?_, fun s us hK hl => ?_⟩
  · exact match us, hl with | [_], _ => rfl
  · obtain ⟨oc, od, kV, doc, pm, an, cdv, ct, osl, rfl, lk, hcd⟩ := F.ex
    exact .of_eq (match us, hl with | [_], _ => rfl)
theorem sc_11 : FnScope ["_law_what", "_law_k", "_law_one"] ["_law_what"] (defScope (top 15)) := ⟨rfl, rfl, rfl, by decide +kernel, rfl, by decide +kernel, by decide +kernel⟩
theorem ck_11 : ckS Ded.P.d__law_is_set.body ⟨["_law_what", "_law_k", "_law_one"], defScope (top 15), fun _ => true, infos, noG, cons⟩ (defBody (top 15)) = true := by decide +kernel
theorem st_11 (X : K.In h) (G : h.Ns mainGlobals mg) (c : He.SaysD fa fn K) : ∃ f fd, Stat K mg Ded.P.Ds infos noG cons 11 ⟨"_law_is_set", ["_law_what"]⟩ f fd := by
  obtain ⟨fd, F⟩ := c.def_ 11 (d := mk (top 15) "_law_is_set") rfl
  have F : Fun K "_law_is_set" "_law_is_set" (top 15) _ fd := He5.fun_of F
  refine ⟨_, fd, ⟨Ded.P.d__law_is_set, _, _, _, rfl, F, sc_11, rfl, rfl, ck_11⟩, He.glo_ok X G (c.fact 11 (f := .glo "_law_is_set") rfl), F.binds fun _ _ _ _ _ _ us hl => ?_, fun s us hK hl => ?_⟩
  · exact match us, hl with | [_], _ => rfl
  · obtain ⟨oc, od, kV, doc, pm, an, cdv, ct, osl, rfl, lk, hcd⟩ := F.ex
    exact .of_eq (match us, hl with | [_], _ => rfl)
theorem sc_12 : FnScope ["_law_feed_here", "_law_some"] ["_law_feed_here"] (defScope (top 16)) := ⟨rfl, rfl, rfl, by decide +kernel, rfl, by decide +kernel, by decide +kernel⟩
theorem ck_12 : ckS Ded.P.d__law_strange.body ⟨["_law_feed_here", "_law_some"], defScope (top 16), fun _ => true, infos, noG, cons⟩ (defBody (top 16)) = true := by decide +kernel
theorem st_12 (X : K.In h) (G : h.Ns mainGlobals mg) (c : He.SaysD fa fn K) : ∃ f fd, Stat K mg Ded.P.Ds infos noG cons 12 ⟨"_law_strange", ["_law_feed_here"]⟩ f fd := by
  obtain ⟨fd, F⟩ := c.def_ 12 (d := mk (top 16) "_law_strange") rfl
  have F : Fun K "_law_strange" "_law_strange" (top 16) _ fd := He5.fun_of F
  refine ⟨_, fd, ⟨Ded.P.d__law_strange, _, _, _, rfl, F, sc_12, rfl, rfl, ck_12⟩, He.glo_ok X G (c.fact 12 (f := .glo "_law_strange") rfl), F.binds fun _ _ _ _ _ _ us hl => ?_, fun s us hK hl => ?_⟩
  · exact match us, hl with | [_], _ => rfl
  · obtain ⟨oc, od, kV, doc, pm, an, cdv, ct, osl, rfl, lk, hcd⟩ := F.ex
    exact .of_eq (match us, hl with | [_], _ => rfl)
theorem sc_13 : FnScope ["_law_feed_here", "_law_what", "_law_k", "_law_style", "_law_odd", "_law_some"] ["_law_feed_here", "_law_what"] (defScope (top 17)) := ⟨rfl, rfl, rfl, by decide +kernel, rfl, by decide +kernel, by decide +kernel⟩
theorem ck_13 : ckS Ded.P.d__law_spoilt.body ⟨["_law_feed_here", "_law_what", "_law_k", "_law_style", "_law_odd", "_law_some"], defScope (top 17), fun _ => true, infos, noG, cons⟩ (defBody (top 17)) = true := by decide +kernel
theorem st_13 (X : K.In h) (G : h.Ns mainGlobals mg) (c : He.SaysD fa fn K) : ∃ f fd, Stat K mg Ded.P.Ds infos noG cons 13 ⟨"_law_spoilt", ["_law_feed_here", "_law_what"]⟩ f fd := by
  obtain ⟨fd, F⟩ := c.def_ 13 (d := mk (top 17) "_law_spoilt") rfl
  have F : Fun K "_law_spoilt" "_law_spoilt" (top 17) _ fd := He5.fun_of F
  refine ⟨_, fd, ⟨Ded.P.d__law_spoilt, _, _, _, rfl, F, sc_13, rfl, rfl, ck_13⟩, He.glo_ok X G (c.fact 13 (f := .glo "_law_spoilt") rfl), F.binds fun _ _ _ _ _ _ us hl => ?_, fun s us hK hl => ?_⟩
  · exact match us, hl with | [_, _], _ => rfl
  · obtain ⟨oc, od, kV, doc, pm, an, cdv, ct, osl, rfl, lk, hcd⟩ := F.ex
    exact .of_eq (match us, hl with | [_, _], _ => rfl)
theorem sc_14 : FnScope ["_law_what", "_law_shown", "_law_due", "_law_heard", "_law_late"] ["_law_what"] (defScope (top 18)) := ⟨rfl, rfl, rfl, by decide +kernel, rfl, by decide +kernel, by decide +kernel⟩
theorem ck_14 : ckS Ded.P.d__law_is_right.body ⟨["_law_what", "_law_shown", "_law_due", "_law_heard", "_law_late"], defScope (top 18), fun _ => true, infos, noG, cons⟩ (defBody (top 18)) = true := by decide +kernel
theorem st_14 (X : K.In h) (G : h.Ns mainGlobals mg) (c : He.SaysD fa fn K) : ∃ f fd, Stat K mg Ded.P.Ds infos noG cons 14 ⟨"_law_is_right", ["_law_what"]⟩ f fd := by
  obtain ⟨fd, F⟩ := c.def_ 14 (d := mk (top 18) "_law_is_right") rfl
  have F : Fun K "_law_is_right" "_law_is_right" (top 18) _ fd := He5.fun_of F
  refine ⟨_, fd, ⟨Ded.P.d__law_is_right, _, _, _, rfl, F, sc_14, rfl, rfl, ck_14⟩, He.glo_ok X G (c.fact 14 (f := .glo "_law_is_right") rfl), F.binds fun _ _ _ _ _ _ us hl => ?_, fun s us hK hl => ?_⟩
  · exact match us, hl with | [_], _ => rfl
  · obtain ⟨oc, od, kV, doc, pm, an, cdv, ct, osl, rfl, lk, hcd⟩ := F.ex
    exact .of_eq (match us, hl with | [_], _ => rfl)
theorem sc_15 : FnScope ["_law_script", "_law_feed_here", "_law_some", "_law_lap", "_law_tags", "_law_good", "_law_what", "_law_turn"] ["_law_script"] (defScope (top 19)) := ⟨rfl, rfl, rfl, by decide +kernel, rfl, by decide +kernel, by decide +kernel⟩
theorem ck_15 : ckS Ded.P.d_law.body ⟨["_law_script", "_law_feed_here", "_law_some", "_law_lap", "_law_tags", "_law_good", "_law_what", "_law_turn"], defScope (top 19), fun _ => true, infos, noG, cons⟩ (defBody (top 19)) = true := by decide +kernel
theorem st_15 (X : K.In h) (G : h.Ns mainGlobals mg) (c : He.SaysD fa fn K) : ∃ f fd, Stat K mg Ded.P.Ds infos noG cons 15 ⟨"law", ["_law_script"]⟩ f fd := by
  obtain ⟨fd, F⟩ := c.def_ 15 (d := mk (top 19) "law") rfl
  have F : Fun K "law" "law" (top 19) _ fd := He5.fun_of F
  refine ⟨_, fd, ⟨Ded.P.d_law, _, _, _, rfl, F, sc_15, rfl, rfl, ck_15⟩, He.glo_ok X G (c.fact 15 (f := .glo "law") rfl), F.binds fun _ _ _ _ _ _ us hl => ?_, fun s us hK hl => ?_⟩
  · exact match us, hl with | [_], _ => rfl
  · obtain ⟨oc, od, kV, doc, pm, an, cdv, ct, osl, rfl, lk, hcd⟩ := F.ex
    exact .of_eq (match us, hl with | [_], _ => rfl)
theorem prog (X : K.In h) (G : h.Ns mainGlobals mg) (c : He.SaysD fa fn K) : ProgOk K mg Ded.P.Ds infos noG cons where
  fns := fun g i e => by
    match g, e with
    | 0, e => cases e; exact st_0 X G c
    | 1, e => cases e; exact st_1 X G c
    | 2, e => cases e; exact st_2 X G c
    | 3, e => cases e; exact st_3 X G c
    | 4, e => cases e; exact st_4 X G c
    | 5, e => cases e; exact st_5 X G c
    | 6, e => cases e; exact st_6 X G c
    | 7, e => cases e; exact st_7 X G c
    | 8, e => cases e; exact st_8 X G c
    | 9, e => cases e; exact st_9 X G c
    | 10, e => cases e; exact st_10 X G c
    | 11, e => cases e; exact st_11 X G c
    | 12, e => cases e; exact st_12 X G c
    | 13, e => cases e; exact st_13 X G c
    | 14, e => cases e; exact st_14 X G c
    | 15, e => cases e; exact st_15 X G c
    | g + 16, e => cases e
  noG := fun x hx => by
    simp only [noG, List.mem_cons, List.not_mem_nil, or_false] at hx
    rcases hx with rfl | rfl | rfl | rfl | rfl | rfl | rfl | rfl | rfl | rfl | rfl | rfl
    · exact He.free_ok X G (c.fact 16 (f := .free "len") rfl)
    · exact He.free_ok X G (c.fact 17 (f := .free "int") rfl)
    · exact He.free_ok X G (c.fact 18 (f := .free "list") rfl)
    · exact He.free_ok X G (c.fact 19 (f := .free "tuple") rfl)
    · exact He.free_ok X G (c.fact 20 (f := .free "repr") rfl)
    · exact He.free_ok X G (c.fact 21 (f := .free "all") rfl)
    · exact He.free_ok X G (c.fact 22 (f := .free "sorted") rfl)
    · exact He.free_ok X G (c.fact 23 (f := .free "str") rfl)
    · exact He.free_ok X G (c.fact 24 (f := .free "isinstance") rfl)
    · exact He.free_ok X G (c.fact 25 (f := .free "bool") rfl)
    · exact He.free_ok X G (c.fact 26 (f := .free "zip") rfl)
    · exact He.free_ok X G (c.fact 27 (f := .free "range") rfl)
  cs := fun p hp => by
    simp only [cons, List.mem_cons, List.not_mem_nil, or_false] at hp
    rcases hp with rfl | rfl
    · obtain ⟨t, e⟩ := He.int_ok X G (c.fact 28 (f := .int "LONGEST_NAME" 8) rfl)
      exact ⟨.int _, _, e, ⟨t, rfl⟩, fun _ _ => .int _⟩
    · obtain ⟨t, e⟩ := He.str_ok X G (c.fact 29 (f := .str "LETTERS" "abcdefghijklmnopqrstuvwxyz") rfl)
      exact ⟨.str _, _, e, ⟨t, rfl⟩, fun _ _ => .str _⟩
end
abbrev R : PySem.W.OpenRow := PySem.W.OpenLaw.row PySem.Challenge.rw_kitsleft_k01_kinds_told
abbrev hk : PySem.W.Hook := He.hookD 64 fa fn
def ob (s : PySem.W.SharedT) : He.AlD := He.obsDG 64 fa fn (HandSHeadRun.getT s)
theorem ob_eq (s : PySem.W.SharedT) : ob s = hk.obs s.abs := He.obsDG_eq (HandSHeadRun.getT_eq s)
def loose : List PySem.Str := ["is_integer", "is_number", "is_name", "are_rising", "is_names", "_law_feed", "_law_draw", "_law_any", "_law_names", "_law_is_number", "_law_is_name", "_law_is_set", "_law_strange", "_law_spoilt", "_law_is_right", "LETTERS", "LONGEST_NAME"]
theorem run (w : World) : HandSHeadRun.RunEq R (PySem.W.view R.prog [19]) hk ob 2000 loose w := by
  intro os
  kernel_rfl
end DedHead
open PySem PySem.W PySem.Calls PyProof.Rows Ded in
theorem ded_head (ans : ∀ ns : List Int, ns.length ≤ 63 → ∃ t, callD Ded.P.Ds 1000 60 15 [.scr ns] [] = .ok (.dat (.bool true)) t) : PySem.Challenge.rw_kitsleft_k01_kinds_told.Holds := by
  w_on; o_law
  refine HandSHeadRun.head_any (r := OpenLaw.row PySem.Challenge.rw_kitsleft_k01_kinds_told) (q := view (OpenLaw.row PySem.Challenge.rw_kitsleft_k01_kinds_told).prog [19]) (H := DedHead.hk) (ob := DedHead.ob) (M := 2000) (loose := DedHead.loose) (d := HandSHeadRun.topDef (OpenLaw.row PySem.Challenge.rw_kitsleft_k01_kinds_told).prog 19) (kwd := []) DedHead.ob_eq
    (by kernel_rfl) (fun s => by kernel_rfl) DedHead.run (by kernel_rfl) (by kernel_rfl) (by kernel_rfl) (by rfl) (by first | assumption | decide +kernel) (by decide +kernel) ⟨rfl, rfl, rfl, rfl, rfl, by decide +kernel⟩ ?hw ?hc
  case hw => w_witness2
  case hc =>
    refine Ded.law_walk (l := PySem.Challenge.rw_kitsleft_k01_kinds_told) (n := 63) (k := 60) (g := 15) (x := "_law_script") (Ds := Ded.P.Ds) (L := 1000) (infos := DedHead.infos) (noG := DedHead.noG) (cs := DedHead.cons) rfl (by decide) (by kernel_rfl) ⟨rfl, by decide, by decide⟩ (by kernel_rfl) ?F ans
    intro w mg h Y G
    obtain ⟨K, KX, c⟩ := Y
    exact ⟨K, KX, DedHead.prog KX G c⟩
end

section
set_option maxHeartbeats 0
theorem PySem.Challenge.cw_kitsleft_k01_kinds_told_holds : PySem.Challenge.rw_kitsleft_k01_kinds_told.Holds := by
  refine ded_head fun ns hn => ?_
  obtain ⟨v, t, e, hv⟩ := Ded.wpc_ok (Ded.DM.t15 (L := 1000) (n := 54) hn)
  exact ⟨t, hv ▸ e⟩
end
