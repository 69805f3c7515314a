import PyProof.Rows.All
import Wide.All
import OpenK.AllK
import Wide.FinOn
import KE.KStateDown
import Lean
import HandS.Head0
import HandS.Head1
import HandS.Head2
import HandS.HeadEnd
import HandS.HeadHook1
import HandS.HeadHook2
import HandS.HeadNt
import HandS.ForMost
import HandS.Lambda
import HandS.HotCalls
import HandS.ExcInitHot
import HandS.ExcIs
import HandS.ExcField
import HandS.TupMul
import HandS.TupAny
import HandS.Deep
import KE.KDictPairs
import HandS.Dict
import HandS.IsInst
import HandS.Flow
import HandS.SortRule
import KE.KSortTupAny
import HandS.More
import PyProof.ListStr
import HandS.Style
import HandS.ForExc
import HandS.NoneIn
import HandS.Iter
import KE.GoesMore
import KE.GoesEnum
import KE.GoesZip
import HandS.Zip
import HandS.Star
import HandS.ListItems
import HandS.Text
import HandS.DictComp
import KE.KExcIs
import PyProof.Rows.CountFlat
import HandS.WordsExc
import HandS.EndOwn
import KE.KNest
import PyProof.TableCode
import PySem.Challenge.RW_kitsleft_k16_netting_told
set_option Elab.async false
set_option linter.all false
set_option maxRecDepth 100000
set_option maxHeartbeats 4000000
section
set_option linter.all false
/-! A pure evaluator over data for the fragment of the language that the programs keep to. -/
namespace Ded
open PySem

abbrev D := PyData
/-- what a name or an expression holds: frozen data; a list or dict of one's own; an object that others hold too (by number); one that is only lent; the one in a slot -/
inductive Val where
  | dat (d : D) | own (d : D) | ext (k : Nat) | bor (d : D) | loc (i : Nat) | scr (ns : List Int)
  deriving Inhabited

structure S where
  ρ : List (Option Val)
  μ : List D

inductive R (α : Type) where
  | ok (a : α) (s : S)
  | exc (c : Nat) (fs : List D) (s : S)
  | bad

abbrev M (α : Type) := S → R α
@[inline] def M.ret {α : Type} (a : α) : M α := fun s => .ok a s
@[inline] def M.bind {α β : Type} (m : M α) (f : α → M β) : M β := fun s =>
  match m s with
  | .ok a s' => f a s'
  | .exc c fs s' => .exc c fs s'
  | .bad => .bad
instance : Monad M where
  pure := M.ret
  bind := M.bind
def M.bad {α : Type} : M α := fun _ => .bad
def M.opt {α : Type} : Option α → M α
  | some a => fun s => .ok a s
  | none => fun _ => .bad
def M.guard (b : Bool) : M Unit := if b then M.ret () else M.bad

inductive Bop where | add | sub | mul | fdiv | mod | pow
  deriving DecidableEq
inductive Cop where | eq | ne | lt | le | gt | ge | is_ | isnot | in_ | notin
  deriving DecidableEq
inductive Ty where | int | bool | str | tuple | list | dict
  deriving DecidableEq
inductive Blt where | len | int | list | tuple | repr | all | any | sorted | sum | min | max | dict | str | set
  deriving DecidableEq
/-- expressions; argument lists are nil, cons, star; pairs of a display are kv -/
inductive E where
  | var (i : Nat) | lend (i : Nat) | borw (i : Nat)
  | cst (d : D) | glb (x : Str) (d : D)
  | bin (o : Bop) (a b : E) | neg (a : E)
  | cmp (o : Cop) (a b : E) | chn (o o' : Cop) (a b c : E)
  | and (a b : E) | or (a b : E) | not (a : E)
  | ite (c a b : E)
  | tup (es : E) | lst (es : E) | dct (kvs : E)
  | nil | cons (a r : E) | star (a r : E) | kv (a b r : E)
  | idx (a b : E) | sli (a lo hi : E) | rev (a : E)
  | sls (i : Nat) (lo hi : Option Int)
  | isi (a : E) (ts : List Ty)
  | blt (f : Blt) (as : E)
  | call (g : Nat) (as : E) | callk (g : Nat) (ks : List Str) (as : E)
  /-- keywords in another order: ix tells for each parameter where it stands -/
  | callp (g : Nat) (ix : List Nat) (as : E)
  | join (o a : E) | get1 (o k : E) | get2 (o k d : E)
  /-- list(a.items()) -/
  | litems (a : E)
  /-- sorted(a.items()) -/
  | sitems (a : E)
  /-- a.upper() -/
  | upper (a : E)
  | app (i : Nat) (a : E) | pop0 (i : Nat) | pop1 (i : Nat) (a : E)
  | range (as : E) | zip (a b : E) | zip3 (a b c : E) | enum (a : E)
  | lc (elt : E) (tg : E) (it : E) (ifs : E) (vs : List Nat)
  | dlc (key val : E) (tg : E) (it : E) (ifs : E) (vs : List Nat)
  /-- {key: val for tg in it if .. for tg1 in it1 if ..} -/
  | dlc2 (key val : E) (tg : E) (it : E) (ifs : E) (tg1 : E) (it1 : E) (ifs1 : E) (vs vs1 : List Nat)
  /-- two fors: vs all names of its own, vs1 those of the second for -/
  | lc2 (elt : E) (tg : E) (it : E) (ifs : E) (tg1 : E) (it1 : E) (ifs1 : E) (vs vs1 : List Nat)
  /-- told: what a lambda says, or what its refusal is made of (kd: the way) -/
  | said (kd : Nat) (a : E)

inductive Flow where
  | nx | rt (v : Val) | bk | ct

/-- statements, each with what follows it -/
inductive C where
  | nop
  | exp (e : E) (k : C)
  | set (i : Nat) (e : E) (k : C)
  | asg (t : E) (e : E) (k : C)
  | par (i j : Nat) (a b : E) (k : C)
  | par3 (i j l : Nat) (a b d : E) (k : C)
  | sti (i : Nat) (key v : E) (k : C)
  | ret (e : E)
  | ite (c : E) (a b : C) (k : C)
  | for_ (t it : E) (body : C) (k : C)
  | whl (c : E) (body : C) (k : C)
  | rai (c : Nat) (as : E)

/-! ### places -/
def slot (s : S) (i : Nat) : Option Val := (s.ρ[i]?).join
def setSlot (s : S) (i : Nat) (v : Val) : S := { s with ρ := s.ρ.set i (some v) }
def peek (v : Val) (s : S) : Option D :=
  match v with
  | .dat d => some d
  | .own d => some d
  | .bor d => some d
  | .scr _ => none
  | .ext k => s.μ[k]?
  | .loc i => match slot s i with
    | some (.own d) => some d
    | some (.bor d) => some d
    | _ => none
def peekM (v : Val) : M D := fun s => match peek v s with
  | some d => .ok d s
  | none => .bad
/-- from now on it never changes -/
def freeze : Val → M D
  | .dat d => M.ret d
  | .own d => M.ret d
  | .bor _ => M.bad
  | .ext _ => M.bad
  | .scr _ => M.bad
  | .loc i => fun s => match slot s i with
    | some (.own d) => .ok d (setSlot s i (.dat d))
    | _ => .bad
/-- as an operand: what is new is frozen at once -/
def opd : Val → M Val
  | .dat d => M.ret (.dat d)
  | .own d => M.ret (.dat d)
  | .ext k => M.ret (.ext k)
  | .loc i => M.ret (.loc i)
  | _ => M.bad

/-! ### data -/
def atomic : D → Bool
  | .none => true | .bool _ => true | .int _ => true | .str _ => true
  | _ => false
/-- the truth of a value (not of a dict) -/
def truD : D → Option Bool
  | .none => some false
  | .bool b => some b
  | .int i => some (decide (i ≠ 0))
  | .str x => if x.length ≤ sizeLine then some (decide (x.length ≠ 0)) else none
  | .list xs => some (!xs.isEmpty)
  | .tuple xs => some (!xs.isEmpty)
  | .dict _ => none
def lenD : D → Option Nat
  | .str x => if x.length ≤ sizeLine then some x.length else none
  | .list xs => some xs.length
  | .tuple xs => some xs.length
  | _ => none
def isTy : Ty → D → Bool
  | .int, .int _ => true
  | .int, .bool _ => true
  | .bool, .bool _ => true
  | .str, .str _ => true
  | .tuple, .tuple _ => true
  | .list, .list _ => true
  | .dict, .dict _ => true
  | _, _ => false
def fitsMul (i j : Int) : Bool := decide ((-(2 ^ 64) < i ∧ i < 2 ^ 64) ∨ (-(2 ^ 64) < j ∧ j < 2 ^ 64))
def binD : Bop → D → D → Option Val
  | .add, .int i, .int j => some (.dat (.int (i + j)))
  | .add, .str x, .str y => if x.length + y.length ≤ sizeLine then some (.dat (.str (x ++ y))) else none
  | .add, .list xs, .list ys => if xs.length + ys.length ≤ sizeLine then some (.own (.list (xs ++ ys))) else none
  | .add, .tuple xs, .tuple ys => if xs.length + ys.length ≤ sizeLine then some (.dat (.tuple (xs ++ ys))) else none
  | .sub, .int i, .int j => some (.dat (.int (i - j)))
  | .mul, .tuple xs, .int j => if 1 ≤ j ∧ j ≤ 1000 ∧ xs.length ≤ 1000 ∧ 0 < xs.length then some (.dat (.tuple (List.replicate j.toNat xs).flatten)) else none
  | .mul, .int i, .int j => if fitsMul i j then some (.dat (.int (i * j))) else none
  | .fdiv, .int i, .int j => if 0 < j ∧ j < 1073741824 then some (.dat (.int (i / j))) else none
  | .mod, .int i, .int j => if 0 < j then some (.dat (.int (i % j))) else none
  | .pow, .int i, .int j => if 0 ≤ j ∧ j ≤ 1000000 ∧ i.natAbs < 2 ^ 64 then some (.dat (.int (i ^ j.toNat))) else none
  | .mul, .list xs, .int j => if 0 ≤ j ∧ j ≤ 1000 ∧ xs.length ≤ 1000 then some (.own (.list (List.replicate j.toNat xs).flatten)) else none
  | _, _, _ => none
def scalD : D → D → Bool
  | .none, .none => true | .none, .int _ => true | .int _, .none => true | .none, .bool _ => true | .bool _, .none => true
  | .none, .str _ => true | .str _, .none => true | .int _, .int _ => true | .bool _, .bool _ => true | .str _, .str _ => true
  | .int _, .str _ => true | .str _, .int _ => true | .bool _, .str _ => true | .str _, .bool _ => true
  | _, _ => false
def eqD (a b : D) : Option Bool :=
  if scalD a b || (SeqAt.shaped a && SeqAt.shaped b) then some (PyData.eqv a b) else none
def inStr (x z : Str) : Bool :=
  match x.cps.toList with
  | [c] => decide (c ∈ z.cps.toList)
  | _ => !(Builtin.Str.occurrences z x 0 z.length 1).isEmpty
def sameKey : D → D → Bool
  | .str y, .str x => decide (y = x)
  | .int y, .int x => decide (y = x)
  | _, _ => false
def keyIn (kvs : List (D × D)) (k : D) : Option D := (kvs.find? fun kv => sameKey kv.1 k).map (·.2)
def putIn (kvs : List (D × D)) (k v : D) : List (D × D) :=
  if (kvs.any fun kv => sameKey kv.1 k) = true then kvs.map (fun kv => if sameKey kv.1 k = true then (kv.1, v) else kv) else kvs ++ [(k, v)]
def dictOf (ps : List (D × D)) : List (D × D) := ps.foldl (fun acc p => putIn acc p.1 p.2) []
def inD (a b : D) : Option Bool :=
  match a, b with
  | .str x, .str z => some (inStr x z)
  | d, .list ds => if SeqAt.shaped d && SeqAt.shaped (.list ds) then some (ds.any fun z => PyData.eqv z d) else none
  | d, .tuple ds => if SeqAt.shaped d && SeqAt.shaped (.tuple ds) then some (ds.any fun z => PyData.eqv z d) else none
  | .str x, .dict kvs => some (keyIn kvs (.str x)).isSome
  | .int x, .dict kvs => some (keyIn kvs (.int x)).isSome
  | _, _ => none
def isNoneD : D → Bool
  | .none => true
  | _ => false
def cmpD : Cop → D → D → Option Bool
  | .eq, a, b => eqD a b
  | .ne, a, b => (eqD a b).map (!·)
  | .lt, .int i, .int j => some (decide (i < j))
  | .le, .int i, .int j => some (decide (i ≤ j))
  | .gt, .int i, .int j => some (decide (j < i))
  | .ge, .int i, .int j => some (decide (j ≤ i))
  | .lt, .str i, .str j => some (decide (i.cps.toList < j.cps.toList))
  | .le, .str i, .str j => some (!decide (j.cps.toList < i.cps.toList))
  | .gt, .str i, .str j => some (decide (j.cps.toList < i.cps.toList))
  | .ge, .str i, .str j => some (!decide (i.cps.toList < j.cps.toList))
  | .is_, a, .none => some (isNoneD a)
  | .isnot, a, .none => some (!isNoneD a)
  | .in_, a, b => inD a b
  | .notin, a, b => (inD a b).map (!·)
  | _, _, _ => none
def isKey : D → Bool
  | .str _ => true | .int _ => true | _ => false
/-- the place that an index means -/
abbrev ixAt (n : Nat) (i : Int) : Option Nat := L2.ixN n i
def idxD : D → D → Option D
  | .list xs, .int i => L2.atI xs i
  | .tuple xs, .int i => L2.atI xs i
  | .str x, .int i => if x.length ≤ sizeLine then (L2.atI x.cps.toList i).map fun c => .str ⟨#[c]⟩ else none
  | .dict kvs, k => if isKey k then keyIn kvs k else none
  | _, _ => none
def cutL {α : Type} (xs : List α) (lo hi : Option Int) : List α :=
  (xs.drop (HT.sIx xs.length 0 lo)).take (HT.sIx xs.length xs.length hi - HT.sIx xs.length 0 lo)
def sliD (d : D) (lo hi : Option Int) : Option Val :=
  match d with
  | .list xs => some (.own (.list (cutL xs lo hi)))
  | .tuple xs => some (.dat (.tuple (cutL xs lo hi)))
  | .str x => if x.length ≤ sizeLine then some (.dat (.str (L2.cutS x lo hi))) else none
  | _ => none
def revD : D → Option Val
  | .list xs => some (.own (.list xs.reverse))
  | .tuple xs => some (.dat (.tuple xs.reverse))
  | _ => none
def strsOf : List D → Option (List Str)
  | [] => some []
  | .str x :: r => (strsOf r).map (x :: ·)
  | _ :: _ => none
def boolsOf : List D → Option (List Bool)
  | [] => some []
  | .bool x :: r => (boolsOf r).map (x :: ·)
  | _ :: _ => none
def intsOf : List D → Option (List Int)
  | [] => some []
  | .int x :: r => (intsOf r).map (x :: ·)
  | _ :: _ => none
/-- texts in order -/
def strLe (a b : Str) : Bool := !decide (b.cps.toList < a.cps.toList)
def itemsOf : D → Option (List D)
  | .list xs => some xs
  | .tuple xs => some xs
  | .str x => some (x.cps.toList.map fun c => .str ⟨#[c]⟩)
  | .dict kvs => some (kvs.map (·.1))
  | _ => none
def seqOf : D → Option (List D)
  | .list xs => some xs
  | .tuple xs => some xs
  | _ => none
def canRepr (d : D) : Bool := d.canLay0 && d.showable && decide (d.shown.length ≤ sizeLine) && decide (d.depth ≤ 60)
/-- sorting that can be reckoned -/
def ins {α : Type} (le : α → α → Bool) (a : α) : List α → List α
  | [] => [a]
  | b :: l => if le a b then a :: b :: l else b :: ins le a l
def isort {α : Type} (le : α → α → Bool) : List α → List α
  | [] => []
  | a :: l => ins le a (isort le l)
theorem ins_perm {α : Type} {le : α → α → Bool} {a : α} : ∀ l : List α, (ins le a l).Perm (a :: l)
  | [] => .refl _
  | b :: l => by
    unfold ins
    split
    · exact .refl _
    · exact ((ins_perm l).cons b).trans (.swap a b l)
theorem isort_perm {α : Type} {le : α → α → Bool} : ∀ l : List α, (isort le l).Perm l
  | [] => .refl _
  | a :: l => (ins_perm _).trans ((isort_perm l).cons a)
theorem ins_pw {α : Type} {le : α → α → Bool} (tr : ∀ a b c, le a b = true → le b c = true → le a c = true) (tot : ∀ a b, (le a b || le b a) = true) {a : α} : ∀ {l : List α}, l.Pairwise (fun x y => le x y = true) → (ins le a l).Pairwise fun x y => le x y = true
  | [], _ => List.pairwise_singleton _ _
  | b :: l, h => by
    obtain ⟨h1, h2⟩ := List.pairwise_cons.mp h
    unfold ins
    split
    · rename_i q
      refine List.pairwise_cons.mpr ⟨fun x hx => ?_, h⟩
      rcases List.mem_cons.mp hx with e | e
      · exact e ▸ q
      · exact tr _ _ _ q (h1 x e)
    · rename_i q
      refine List.pairwise_cons.mpr ⟨fun x hx => ?_, ins_pw tr tot h2⟩
      rcases List.mem_cons.mp ((ins_perm l).mem_iff.mp hx) with e | e
      · have t := tot a b
        rw [Bool.eq_false_iff.mpr q, Bool.false_or] at t
        exact e ▸ t
      · exact h1 x e
theorem isort_pw {α : Type} {le : α → α → Bool} (tr : ∀ a b c, le a b = true → le b c = true → le a c = true) (tot : ∀ a b, (le a b || le b a) = true) : ∀ l : List α, (isort le l).Pairwise fun x y => le x y = true
  | [] => .nil
  | _ :: l => ins_pw tr tot (isort_pw tr tot l)
def sortedStr (xs : List D) : Option Val := (strsOf xs).bind fun ss => if ss.length < 64 then some (.own (.list ((isort strLe ss).map .str))) else none
/-- the text that a row begins with -/
def rowKey : D → Str
  | .tuple (.str x :: _) => x
  | _ => Str.ofString ""
def isRow : D → Bool
  | .tuple (.str _ :: _) => true
  | _ => false
def rowLe (a b : D) : Bool := strLe (rowKey a) (rowKey b)
/-- rows, no two of which begin alike -/
def sortedRow (xs : List D) : Option Val := if xs.all isRow = true ∧ (xs.map rowKey).Nodup then some (.own (.list (isort rowLe xs))) else none
def pairOf : D → Option (D × D)
  | .tuple [k, v] => if isKey k then some (k, v) else none
  | _ => none
def pairsOf : List D → Option (List (D × D))
  | [] => some []
  | d :: ds => (pairOf d).bind fun p => (pairsOf ds).map fun ps => p :: ps
def bltD : Blt → List D → Option Val
  | .len, [.str x] => (lenD (.str x)).map fun (n : Nat) => .dat (.int (n : Int))
  | .len, [.list x] => (lenD (.list x)).map fun (n : Nat) => .dat (.int (n : Int))
  | .len, [.tuple x] => (lenD (.tuple x)).map fun (n : Nat) => .dat (.int (n : Int))
  | .int, [.int i] => some (.dat (.int i))
  | .int, [.bool b] => some (.dat (.int (if b then 1 else 0)))
  | .list, [.list xs] => some (.own (.list xs))
  | .list, [.tuple xs] => some (.own (.list xs))
  | .list, [.str x] => if x.length ≤ sizeLine then some (.own (.list (x.cps.toList.map fun c => .str ⟨#[c]⟩))) else none
  | .tuple, [.list xs] => some (.dat (.tuple xs))
  | .tuple, [.tuple xs] => some (.dat (.tuple xs))
  | .repr, [d] => if canRepr d then some (.dat (.str d.shown)) else none
  | .all, [.list xs] => (boolsOf xs).map fun bs => .dat (.bool (bs.all id))
  | .min, [.int i, .int j] => some (.dat (.int (if j < i then j else i)))
  | .max, [.int i, .int j] => some (.dat (.int (if j > i then j else i)))
  | .any, [.list xs] => (boolsOf xs).map fun bs => .dat (.bool (bs.any id))
  | .dict, [.list xs] => (pairsOf xs).map fun ps => .own (.dict (dictOf ps))
  | .dict, [.tuple xs] => (pairsOf xs).map fun ps => .own (.dict (dictOf ps))
  | .sorted, [.list xs] => match sortedStr xs with
    | some v => some v
    | none => sortedRow xs
  | .sorted, [.dict kvs] => sortedStr (kvs.map (·.1))
  | .sorted, [.tuple xs] => sortedStr xs
  | .list, [.dict kvs] => if kvs.length ≤ sizeLine then some (.own (.list (kvs.map (·.1)))) else none
  | .dict, [.dict kvs] => some (.own (.dict kvs))
  | .len, [.dict kvs] => some (.dat (.int (kvs.length : Int)))
  | .sum, [.list xs] => (intsOf xs).map fun ns => .dat (.int ns.sum)
  | .min, [.list xs] => (intsOf xs).bind fun ns => ns.min?.map fun m => .dat (.int m)
  | .max, [.list xs] => (intsOf xs).bind fun ns => ns.max?.map fun m => .dat (.int m)
  | _, _ => none
/-- near enough for a range -/
@[irreducible] def fit62 (i : Int) : Bool := decide (-(2 ^ 62) ≤ i ∧ i < 2 ^ 62)
theorem fit62_iff {i : Int} : fit62 i = true ↔ -(2 ^ 62) ≤ i ∧ i < 2 ^ 62 := by
  unfold fit62
  exact decide_eq_true_iff
def rangeD : List D → Option (List D)
  | [.int j] => if fit62 j = true then some ((List.range j.toNat).map fun k => .int (k : Nat)) else none
  | [.int i, .int j] => if fit62 i = true ∧ fit62 j = true then some ((List.range (j - i).toNat).map fun k => .int (i + (k : Nat))) else none
  | _ => none

def wipe : List (Option Val) → List Nat → List (Option Val)
  | ρ, [] => ρ
  | ρ, v :: vs => (wipe ρ vs).set v none
/-- the slots of a comprehension's own names as they were -/
def putBack (old : List (Option Val)) : List (Option Val) → List Nat → List (Option Val)
  | ρ, [] => ρ
  | ρ, v :: vs => (putBack old ρ vs).set v (old[v]?).join
/-- a comprehension's own names hold nothing outside, or data -/
def restOk (old : List (Option Val)) (vs : List Nat) : Bool := vs.all fun v => match (old[v]?).join with
  | none => true
  | some (.dat _) => true
  | _ => false
/-- the elements that a comprehension makes -/
def lcLoop {α : Type} (turn : D → M (Option α)) : List D → M (List α)
  | [] => M.ret []
  | d :: r => M.bind (turn d) fun o => M.bind (lcLoop turn r) fun ys => M.ret (match o with | some y => y :: ys | none => ys)
def forLoop (turn : D → M Flow) : List D → M Flow
  | [] => M.ret .nx
  | d :: r => M.bind (turn d) fun f => match f with
    | .nx => forLoop turn r
    | .ct => forLoop turn r
    | .bk => M.ret .nx
    | .rt v => M.ret (.rt v)
def whileLoop (test : M Bool) (turn : M Flow) : Nat → M Flow
  | 0 => M.bad
  | n + 1 => M.bind test fun b => if b then M.bind turn fun f => match f with
    | .nx => whileLoop test turn n
    | .ct => whileLoop test turn n
    | .bk => M.ret .nx
    | .rt v => M.ret (.rt v) else M.ret .nx

/-! ### what the constructs do -/
def mVar (i : Nat) : M Val := fun s => match slot s i with
  | some (.dat d) => .ok (.dat d) s
  | some (.own _) => .ok (.loc i) s
  | some (.bor _) => .ok (.loc i) s
  | some (.ext k) => .ok (.ext k) s
  | _ => .bad
def mLend (i : Nat) : M Val := fun s => match slot s i with
  | some (.own d) => .ok (.ext s.μ.length) { ρ := s.ρ.set i (some (.ext s.μ.length)), μ := s.μ ++ [d] }
  | some (.ext k) => .ok (.ext k) s
  | some (.scr ns) => .ok (.scr ns) s
  | _ => .bad
/-- a slice of the script -/
def mSls (i : Nat) (lo hi : Option Int) : M Val := fun s => match slot s i with
  | some (.scr ns) => if ns.length ≤ sizeLine then .ok (.own (.list ((cutL ns lo hi).map .int))) s else .bad
  | _ => .bad
/-- an operand -/
def mOpd (m : M Val) : M Val := M.bind m opd
/-- its data as they are now -/
def mPeek (m : M Val) : M D := M.bind m peekM
def mFrz (m : M Val) : M D := M.bind m freeze
def mTwo (m n : M Val) (g : D → D → Option Val) : M Val := M.bind (mOpd m) fun u => M.bind (mOpd n) fun v => M.bind (peekM u) fun x => M.bind (peekM v) fun y => M.opt (g x y)
def gCmp (o : Cop) (x y : D) : Option Val := (cmpD o x y).map fun r => .dat (.bool r)
def mBin (o : Bop) (m n : M Val) : M Val := mTwo m n (binD o)
def mCmp (o : Cop) (m n : M Val) : M Val := mTwo m n (gCmp o)
def gIdx (x y : D) : Option Val := (idxD x y).map .dat
def mIdx (m n : M Val) : M Val := mTwo m n gIdx
def mOne (m : M Val) (g : D → Option Val) : M Val := M.bind (mOpd m) fun u => M.bind (peekM u) fun x => M.opt (g x)
def gNeg : D → Option Val
  | .int i => some (.dat (.int (-i)))
  | _ => none
def mNeg (m : M Val) : M Val := mOne m gNeg
def mChn (o o' : Cop) (m n l : M Val) : M Val := M.bind (mOpd m) fun u => M.bind (mOpd n) fun v => M.bind (peekM u) fun x => M.bind (peekM v) fun y => M.bind (M.opt (cmpD o x y)) fun r =>
  if r then M.bind (mOpd l) fun w => M.bind (peekM v) fun y => M.bind (peekM w) fun z => M.bind (M.opt (cmpD o' y z)) fun r' => M.ret (.dat (.bool r')) else M.ret (.dat (.bool false))
def mAnd (m n : M Val) : M Val := M.bind (mOpd m) fun u => M.bind (peekM u) fun x => M.bind (M.opt (truD x)) fun b => if b then n else M.ret u
def mOr (m n : M Val) : M Val := M.bind (mOpd m) fun u => M.bind (peekM u) fun x => M.bind (M.opt (truD x)) fun b => if b then M.ret u else n
def mNot (m : M Val) : M Val := mOne m fun x => (truD x).map fun b => .dat (.bool (!b))
def tTru (m : M Val) : M Bool := M.bind (mOpd m) fun u => M.bind (peekM u) fun x => M.opt (truD x)
def tAnd' (m n : M Bool) : M Bool := M.bind m fun x => if x then n else M.ret false
def tOr' (m n : M Bool) : M Bool := M.bind m fun x => if x then M.ret true else n
def tNot' (m : M Bool) : M Bool := M.bind m fun x => M.ret (!x)
def mIte (t : M Bool) (m n : M Val) : M Val := M.bind t fun b => if b then m else n
def mTup (m : M (List D)) : M Val := M.bind m fun ds => if ds.length ≤ sizeLine then M.ret (.dat (.tuple ds)) else M.bad
def mLst (m : M (List D)) : M Val := M.bind m fun ds => if ds.length ≤ sizeLine then M.ret (.own (.list ds)) else M.bad
def mDct (m : M (List (D × D))) : M Val := M.bind m fun ps => if ps.length ≤ 15 then M.ret (.own (.dict (ps.foldl (fun acc p => putIn acc p.1 p.2) []))) else M.bad
def mSli (m : M Val) (lo hi : M (Option Int)) : M Val := M.bind (mOpd m) fun u => M.bind lo fun i => M.bind hi fun j => M.bind (peekM u) fun x => M.opt (sliD x i j)
def mRev (m : M Val) : M Val := mOne m revD
def mIsi (m : M Val) (ts : List Ty) : M Val := mOne m fun x => some (.dat (.bool (ts.any fun t => isTy t x)))
def peeks : List Val → M (List D)
  | [] => M.ret []
  | v :: vs => M.bind (peekM v) fun x => M.bind (peeks vs) fun xs => M.ret (x :: xs)
def mBlt (f : Blt) (m : M (List Val)) : M Val := M.bind m fun vs => M.bind (peeks vs) fun ds => M.opt (bltD f ds)
def gJoin : D → D → Option Val
  | .str x, .list ys => (strsOf ys).bind fun ss => if (ss.map (·.length)).sum + ss.length * x.length ≤ sizeLine then some (.dat (.str (Txt.join x ss))) else none
  | _, _ => none
def isStrD : D → Bool
  | .str _ => true | _ => false
def isDictD : D → Bool
  | .dict _ => true | _ => false
/-- what stands ahead of a method's dot is looked at before the arguments are made -/
def mDot (k : D → Bool) (m : M Val) : M Val := M.bind (mOpd m) fun u => M.bind (peekM u) fun x => if k x then M.ret u else M.bad
def mJoin (m n : M Val) : M Val := M.bind (mDot isStrD m) fun u => M.bind (mOpd n) fun v => M.bind (peekM u) fun x => M.bind (peekM v) fun y => M.opt (gJoin x y)
def gGet (x k : D) (d : D) : Option Val := match x with
  | .dict kvs => if isKey k then some (.dat ((keyIn kvs k).getD d)) else none
  | _ => none
def mGet1 (m n : M Val) : M Val := M.bind (mDot isDictD m) fun u => M.bind (mOpd n) fun v => M.bind (peekM u) fun x => M.bind (peekM v) fun y => M.opt (gGet x y .none)
def mGet2 (m n l : M Val) : M Val := M.bind (mDot isDictD m) fun u => M.bind (mOpd n) fun v => M.bind (mFrz l) fun z => M.bind (peekM u) fun x => M.bind (peekM v) fun y => M.opt (gGet x y z)
def itemsD : D → Option Val
  | .dict kvs => some (.own (.list (kvs.map fun p => .tuple [p.1, p.2])))
  | _ => none
def mLitems (m : M Val) : M Val := mOne m itemsD
/-- sorted(d.items()) -/
def sitemsD : D → Option Val
  | .dict kvs => sortedRow (kvs.map fun p => .tuple [p.1, p.2])
  | _ => none
def mSitems (m : M Val) : M Val := mOne m sitemsD
def upperD : D → Option Val
  | .str x => if x.length ≤ 5592405 then some (.dat (.str (Txt.upper x))) else none
  | _ => none
def mUpper (m : M Val) : M Val := mOne m upperD
/-- a list of one's own, or one that others hold too, stands in the slot -/
def chkL (i : Nat) : M Unit := fun s => match slot s i with
  | some (.own (.list _)) => .ok () s
  | some (.ext k) => match s.μ[k]? with
    | some (.list _) => .ok () s
    | _ => .bad
  | _ => .bad
def putL (i : Nat) (f : List D → Option (List D × D)) : M Val := fun s => match slot s i with
  | some (.own (.list xs)) => match f xs with
    | some (ys, d) => .ok (.dat d) (setSlot s i (.own (.list ys)))
    | none => .bad
  | some (.ext k) => match s.μ[k]? with
    | some (.list xs) => match f xs with
      | some (ys, d) => .ok (.dat d) { s with μ := s.μ.set k (.list ys) }
      | none => .bad
    | _ => .bad
  | _ => .bad
def appF (d : D) (xs : List D) : Option (List D × D) := if xs.length < sizeLine then some (xs ++ [d], .none) else none
def mApp (i : Nat) (m : M Val) : M Val := M.bind (chkL i) fun _ => M.bind (mFrz m) fun d => putL i (appF d)
def popF (j : Int) (xs : List D) : Option (List D × D) := match ixAt xs.length j with
  | some j => match xs[j]? with
    | some d => some (xs.eraseIdx j, d)
    | none => none
  | none => none
def mPop0 (i : Nat) : M Val := putL i (popF (-1))
def mPop1 (i : Nat) (m : M Val) : M Val := M.bind (chkL i) fun _ => M.bind (mOpd m) fun v => M.bind (peekM v) fun x => match x with
  | .int j => putL i (popF j)
  | _ => M.bad
def mWipe (vs : List Nat) : M Unit := fun s => .ok () { s with ρ := wipe s.ρ vs }
/-- one turn of a comprehension -/
def lcTurn (g : D → M Unit) (c : M Bool) (m : M Val) (vs : List Nat) (d : D) : M (Option D) :=
  M.bind (g d) fun _ => M.bind c fun b => if b then M.bind (mFrz m) fun y => M.bind (mWipe vs) fun _ => M.ret (some y) else M.bind (mWipe vs) fun _ => M.ret none
/-- a comprehension: nothing is raised out of it -/
def mLc (m : M Val) (g : D → M Unit) (w : M (List D)) (c : M Bool) (vs : List Nat) : M Val := M.bind w fun ds => fun s =>
  match lcLoop (lcTurn g c m vs) ds { s with ρ := wipe s.ρ vs } with
  | .ok ys t => if ys.length ≤ sizeLine ∧ restOk s.ρ vs = true then .ok (.own (.list ys)) { t with ρ := putBack s.ρ t.ρ vs } else .bad
  | _ => .bad
/-- one turn of a comprehension of a dict -/
def dcTurn (g : D → M Unit) (c : M Bool) (mk mv : M Val) (vs : List Nat) (d : D) : M (Option (D × D)) :=
  M.bind (g d) fun _ => M.bind c fun b => if b then M.bind (mFrz mk) fun x => M.bind (mFrz mv) fun y => if isKey x then M.bind (mWipe vs) fun _ => M.ret (some (x, y)) else M.bad else M.bind (mWipe vs) fun _ => M.ret none
def mDlc (mk mv : M Val) (g : D → M Unit) (w : M (List D)) (c : M Bool) (vs : List Nat) : M Val := M.bind w fun ds => fun s =>
  match lcLoop (dcTurn g c mk mv vs) ds { s with ρ := wipe s.ρ vs } with
  | .ok ps t => if ps.length ≤ sizeLine ∧ restOk s.ρ vs = true then .ok (.own (.dict (dictOf ps))) { t with ρ := putBack s.ρ t.ρ vs } else .bad
  | _ => .bad
/-- the second for of a comprehension -/
def lc2In {α : Type} (turn : D → M (Option α)) (vs1 : List Nat) (ds : List D) : M (List α) := fun s => lcLoop turn ds { s with ρ := wipe s.ρ vs1 }
def lc2Turn {α : Type} (g : D → M Unit) (c : M Bool) (w1 : M (List D)) (turn : D → M (Option α)) (vs vs1 : List Nat) (d : D) : M (Option (List α)) :=
  M.bind (g d) fun _ => M.bind c fun b => if b then M.bind w1 fun ds => M.bind (lc2In turn vs1 ds) fun ys => M.bind (mWipe vs) fun _ => M.ret (some ys) else M.bind (mWipe vs) fun _ => M.ret none
def mLc2 (m : M Val) (g : D → M Unit) (w : M (List D)) (c : M Bool) (g1 : D → M Unit) (w1 : M (List D)) (c1 : M Bool) (vs vs1 : List Nat) : M Val := M.bind w fun ds => fun s =>
  match lcLoop (lc2Turn g c w1 (lcTurn g1 c1 m vs1) vs vs1) ds { s with ρ := wipe s.ρ vs } with
  | .ok yss t => if yss.flatten.length ≤ sizeLine ∧ restOk s.ρ vs = true then .ok (.own (.list yss.flatten)) { t with ρ := putBack s.ρ t.ρ vs } else .bad
  | _ => .bad
def mDlc2 (mk mv : M Val) (g : D → M Unit) (w : M (List D)) (c : M Bool) (g1 : D → M Unit) (w1 : M (List D)) (c1 : M Bool) (vs vs1 : List Nat) : M Val := M.bind w fun ds => fun s =>
  match lcLoop (lc2Turn g c w1 (dcTurn g1 c1 mk mv vs1) vs vs1) ds { s with ρ := wipe s.ρ vs } with
  | .ok pss t => if pss.flatten.length ≤ sizeLine ∧ restOk s.ρ vs = true then .ok (.own (.dict (dictOf pss.flatten))) { t with ρ := putBack s.ρ t.ρ vs } else .bad
  | _ => .bad
/-- what a call hands on: what is one's own is frozen, unless it is lent or given over -/
def argV : Val → M Val
  | .dat d => M.ret (.dat d)
  | .own d => M.ret (.dat d)
  | .ext k => M.ret (.ext k)
  | .bor _ => M.bad
  | .scr ns => M.ret (.scr ns)
  | .loc i => fun s => match slot s i with
    | some (.own d) => .ok (.dat d) (setSlot s i (.dat d))
    | _ => .bad
/-- put in another order -/
def rearr {α : Type} (ix : List Nat) (xs : List α) : List α := ix.filterMap fun i => xs[i]?
/-- as it stands when all arguments are made -/
def solve (s : S) : Val → Option Val
  | .dat d => some (.dat d)
  | .ext k => some (.ext k)
  | .scr ns => some (.scr ns)
  | .loc i => match slot s i with
    | some (.own d) => some (.bor d)
    | some (.bor d) => some (.bor d)
    | _ => none
  | _ => none
def solveAll (s : S) : List Val → Option (List Val)
  | [] => some []
  | v :: vs => match solve s v, solveAll s vs with
    | some u, some us => some (u :: us)
    | _, _ => none
def lNil {α : Type} : M (List α) := M.ret []
def lCons {α : Type} (m : M α) (l : M (List α)) : M (List α) := M.bind m fun x => M.bind l fun xs => M.ret (x :: xs)
/-- what a star hands on -/
def starOf : D → Option (List D)
  | .list xs => some xs
  | .tuple xs => some xs
  | .dict kvs => some (kvs.map (·.1))
  | _ => none
def lStar (m : M Val) (l : M (List D)) : M (List D) := M.bind (mFrz m) fun x => M.bind (M.opt (starOf x)) fun ys => M.bind l fun xs => M.ret (ys ++ xs)
def lKv (a b : M Val) (l : M (List (D × D))) : M (List (D × D)) := M.bind (mFrz a) fun x => M.bind (mFrz b) fun y => M.bind l fun ps => if isKey x then M.ret ((x, y) :: ps) else M.bad
def mBor (i : Nat) : M Val := fun s => match slot s i with
  | some (.own _) => .ok (.loc i) s
  | some (.bor _) => .ok (.loc i) s
  | some (.dat d) => .ok (.dat d) s
  | _ => .bad
def mOInt (m : M Val) : M (Option Int) := M.bind (mOpd m) fun u => M.bind (peekM u) fun x => match x with
  | .int i => M.ret (some i)
  | _ => M.bad
def wOf (m : M Val) : M (List D) := M.bind (mFrz m) fun x => M.opt (itemsOf x)
def wRange (m : M (List Val)) : M (List D) := M.bind m fun vs => M.bind (peeks vs) fun ds => M.opt (rangeD ds)
def zipD : List D → Option (List D)
  | [.list xs, .list ys] => some ((xs.zip ys).map fun p => .tuple [p.1, p.2])
  | [.tuple xs, .tuple ys] => some ((xs.zip ys).map fun p => .tuple [p.1, p.2])
  | _ => none
def wZip (m : M (List D)) : M (List D) := M.bind m fun l => M.opt (zipD l)
def enumD : List D → Option (List D)
  | [.list xs] => some ((xs.zipIdx).map fun p => .tuple [.int (p.2 : Nat), p.1])
  | [.tuple xs] => some ((xs.zipIdx).map fun p => .tuple [.int (p.2 : Nat), p.1])
  | _ => none
def zip3D : List D → Option (List D)
  | [x, y, z] => match seqOf x, seqOf y, seqOf z with
    | some xs, some ys, some zs => some ((xs.zip (ys.zip zs)).map fun p => .tuple [p.1, p.2.1, p.2.2])
    | _, _, _ => none
  | _ => none
def wZip3 (m : M (List D)) : M (List D) := M.bind m fun l => M.opt (zip3D l)
def wEnum (m : M (List D)) : M (List D) := M.bind m fun l => M.opt (enumD l)
def putSlot (i : Nat) (v : Val) : M Unit := fun s => if i < s.ρ.length then .ok () (setSlot s i v) else .bad
def gVar (i : Nat) (d : D) : M Unit := putSlot i (.dat d)
def gTup' (gs : List D → M Unit) : D → M Unit
  | .tuple ds => gs ds
  | .list ds => gs ds
  | _ => M.bad
def gNil' : List D → M Unit
  | [] => M.ret ()
  | _ => M.bad
def gCons' (g : D → M Unit) (gs : List D → M Unit) : List D → M Unit
  | d :: ds => M.bind (g d) fun _ => gs ds
  | [] => M.bad

/-- what an expression is, by the place where it stands -/
structure Den where
  v : M Val
  t : M Bool
  l : M (List D) := M.bad
  p : M (List Val) := M.bad
  a : M (List Val) := M.bad
  av : M Val
  k : M (List (D × D)) := M.bad
  o : M (Option Int)
  c : M Bool := M.bad
  w : M (List D)
  g : D → M Unit := fun _ => M.bad
  gs : List D → M Unit := fun _ => M.bad
def Den.ex (m : M Val) : Den := { v := m, t := tTru m, o := mOInt m, w := wOf m, av := M.bind m argV }
def Den.no : Den := { v := M.bad, t := M.bad, o := M.bad, w := M.bad, av := M.bad }
section
variable (cd : Nat → List Val → List D → R Val)
/-- a call of def g -/
def mCall (g : Nat) (m : M (List Val)) : M Val := M.bind m fun vs => fun s =>
  match solveAll s vs with
  | none => .bad
  | some us => match cd g us s.μ with
    | .ok v t => .ok v { s with μ := t.μ }
    | .exc c fs t => .exc c fs { s with μ := t.μ }
    | .bad => .bad
/-- lists and dicts of one's own are out of a lambda's sight -/
def maskV : Option Val → Option Val
  | some (.own _) => none
  | some (.bor _) => none
  | v => v
/-- how a refusal is told -/
def refusalOf : Nat → Nat → List D → Option D
  | 0, 1, fs => some (.tuple (.str (Str.ofString "use") :: fs))
  | 1, 0, fs => some (.tuple (.str (Str.ofString "not held") :: fs))
  | 1, 1, fs => some (.tuple (.str (Str.ofString "use") :: fs))
  | 1, 2, fs => some (.tuple (.str (Str.ofString "not possible") :: fs))
  | 1, 3, fs => some (.tuple (.str (Str.ofString "paper") :: fs))
  | _, _, _ => none
def mSaid (rf : Nat → List D → Option D) (m : M Val) : M Val := fun s => match mFrz m ⟨s.ρ.map maskV, s.μ⟩ with
  | .ok d t => .ok (.dat (.tuple [.str (Str.ofString "told"), d])) { s with μ := t.μ }
  | .exc c fs t => match rf c fs with
    | some d => .ok (.dat d) { s with μ := t.μ }
    | none => .bad
  | .bad => .bad
def den : E → Den
  | .var i => { Den.ex (mVar i) with g := gVar i }
  | .lend i => { Den.no with av := mLend i }
  | .borw i => { Den.no with av := mBor i }
  | .cst d => Den.ex (M.ret (.dat d))
  | .glb _ d => Den.ex (M.ret (.dat d))
  | .bin o a b => Den.ex (mBin o (den a).v (den b).v)
  | .neg a => Den.ex (mNeg (den a).v)
  | .cmp o a b => Den.ex (mCmp o (den a).v (den b).v)
  | .chn o o' a b c => Den.ex (mChn o o' (den a).v (den b).v (den c).v)
  | .and a b => { Den.ex (mAnd (den a).v (den b).v) with t := tAnd' (den a).t (den b).t }
  | .or a b => { Den.ex (mOr (den a).v (den b).v) with t := tOr' (den a).t (den b).t }
  | .not a => { Den.ex (mNot (den a).v) with t := tNot' (den a).t }
  | .ite c a b => Den.ex (mIte (den c).t (den a).v (den b).v)
  | .tup es => { Den.ex (mTup (den es).l) with g := gTup' (den es).gs }
  | .lst es => Den.ex (mLst (den es).l)
  | .dct kvs => Den.ex (mDct (den kvs).k)
  | .idx a b => Den.ex (mIdx (den a).v (den b).v)
  | .sli a lo hi => Den.ex (mSli (den a).v (den lo).o (den hi).o)
  | .rev a => Den.ex (mRev (den a).v)
  | .sls i lo hi => Den.ex (mSls i lo hi)
  | .isi a ts => Den.ex (mIsi (den a).v ts)
  | .blt f as => Den.ex (mBlt f (den as).p)
  | .call g as => Den.ex (mCall cd g (den as).a)
  | .callk g _ as => Den.ex (mCall cd g (den as).a)
  | .callp g ix as => Den.ex (mCall cd g (M.bind (den as).a fun vs => M.ret (rearr ix vs)))
  | .join o a => Den.ex (mJoin (den o).v (den a).v)
  | .get1 o k => Den.ex (mGet1 (den o).v (den k).v)
  | .get2 o k d => Den.ex (mGet2 (den o).v (den k).v (den d).v)
  | .litems a => Den.ex (mLitems (den a).v)
  | .sitems a => Den.ex (mSitems (den a).v)
  | .upper a => Den.ex (mUpper (den a).v)
  | .app i a => Den.ex (mApp i (den a).v)
  | .pop0 i => Den.ex (mPop0 i)
  | .pop1 i a => Den.ex (mPop1 i (den a).v)
  | .lc elt tg it ifs vs => Den.ex (mLc (den elt).v (den tg).g (den it).w (den ifs).c vs)
  | .lc2 elt tg it ifs tg1 it1 ifs1 vs vs1 => Den.ex (mLc2 (den elt).v (den tg).g (den it).w (den ifs).c (den tg1).g (den it1).w (den ifs1).c vs vs1)
  | .said kd a => Den.ex (mSaid (refusalOf kd) (den a).v)
  | .dlc key val tg it ifs vs => Den.ex (mDlc (den key).v (den val).v (den tg).g (den it).w (den ifs).c vs)
  | .dlc2 key val tg it ifs tg1 it1 ifs1 vs vs1 => Den.ex (mDlc2 (den key).v (den val).v (den tg).g (den it).w (den ifs).c (den tg1).g (den it1).w (den ifs1).c vs vs1)
  | .nil => { Den.no with l := lNil, p := lNil, a := lNil, k := lNil, o := M.ret none, c := M.ret true, gs := gNil' }
  | .cons a r => { Den.no with l := lCons (mFrz (den a).v) (den r).l, p := lCons (mOpd (den a).v) (den r).p, a := lCons (den a).av (den r).a, c := tAnd' (den a).t (den r).c, gs := gCons' (den a).g (den r).gs }
  | .star a r => { Den.no with l := lStar (den a).v (den r).l }
  | .kv a b r => { Den.no with k := lKv (den a).v (den b).v (den r).k }
  | .range as => { Den.no with w := wRange (den as).p }
  | .zip a b => { Den.no with w := wZip (lCons (mFrz (den a).v) (lCons (mFrz (den b).v) lNil)) }
  | .zip3 a b c => { Den.no with w := wZip3 (lCons (mFrz (den a).v) (lCons (mFrz (den b).v) (lCons (mFrz (den c).v) lNil))) }
  | .enum a => { Den.no with w := wEnum (lCons (mFrz (den a).v) lNil) }

/-! ### statements -/
def thenK (m : M Flow) (k : M Flow) : M Flow := M.bind m fun f => match f with
  | .nx => k
  | f => M.ret f
/-- what a name is given -/
def setV (i : Nat) : Val → M Unit
  | .dat d => putSlot i (.dat d)
  | .own d => putSlot i (.own d)
  | .ext k => putSlot i (.ext k)
  | .bor _ => M.bad
  | .scr _ => M.bad
  | .loc j => M.bind (freeze (.loc j)) fun d => putSlot i (.dat d)
def kExp (m : M Val) : M Flow := M.bind m fun _ => M.ret .nx
def kSet (i : Nat) (m : M Val) : M Flow := M.bind m fun v => M.bind (setV i v) fun _ => M.ret .nx
def kAsg (g : D → M Unit) (m : M Val) : M Flow := M.bind (mFrz m) fun d => M.bind (g d) fun _ => M.ret .nx
/-- data or one's own -/
def keepV : Val → M Val
  | .dat d => M.ret (.dat d)
  | .own d => M.ret (.own d)
  | _ => M.bad
def mKeep (m : M Val) : M Val := M.bind m keepV
def kPar (i j : Nat) (m n : M Val) : M Flow := M.bind (mKeep m) fun u => M.bind (mKeep n) fun v => M.bind (putSlot i u) fun _ => M.bind (putSlot j v) fun _ => M.ret .nx
def kPar3 (i j l : Nat) (m n o : M Val) : M Flow := M.bind (mKeep m) fun u => M.bind (mKeep n) fun v => M.bind (mKeep o) fun w => M.bind (putSlot i u) fun _ => M.bind (putSlot j v) fun _ => M.bind (putSlot l w) fun _ => M.ret .nx
/-- a dict of one's own, or one that others hold too, stands in the slot -/
def chkD (i : Nat) : M Unit := fun s => match slot s i with
  | some (.own (.dict _)) => .ok () s
  | some (.ext k) => match s.μ[k]? with
    | some (.dict _) => .ok () s
    | _ => .bad
  | _ => .bad
/-- x[key] = v, x the dict in slot i -/
def putD (i : Nat) (k v : D) : M Flow := fun s => if isKey k then (match slot s i with
  | some (.own (.dict kvs)) => if kvs.length < sizeLine then .ok .nx (setSlot s i (.own (.dict (putIn kvs k v)))) else .bad
  | some (.ext n) => match s.μ[n]? with
    | some (.dict kvs) => if kvs.length < sizeLine then .ok .nx { s with μ := s.μ.set n (.dict (putIn kvs k v)) } else .bad
    | _ => .bad
  | _ => .bad) else .bad
def kSti (i : Nat) (m n : M Val) : M Flow := M.bind (mFrz n) fun v => M.bind (chkD i) fun _ => M.bind (mFrz m) fun k => putD i k v
/-- what a def hands back: its own list or dict is the caller's then -/
def retV : Val → M Val
  | .loc i => fun s => match slot s i with
    | some (.own d) => .ok (.own d) s
    | _ => .bad
  | .bor _ => M.bad
  | .scr _ => M.bad
  | .dat d => M.ret (.dat d)
  | .own d => M.ret (.own d)
  | .ext k => M.ret (.ext k)
def kRet (m : M Val) : M Flow := M.bind m fun v => M.bind (retV v) fun v => M.ret (.rt v)
def kIte (t : M Bool) (a b : M Flow) : M Flow := M.bind t fun x => if x then a else b
def kFor (g : D → M Unit) (w : M (List D)) (b : M Flow) : M Flow := M.bind w fun ds => forLoop (fun d => M.bind (g d) fun _ => b) ds
variable (L : Nat)
def kWhl (t : M Bool) (b : M Flow) : M Flow := whileLoop t b L
/-- classes of odd numbers keep two things, the others one -/
def kRai (c : Nat) (m : M (List D)) : M Flow := M.bind m fun ds => fun s => if ds.length = 1 + c % 2 then .exc c ds s else .bad
def run : C → M Flow
  | .nop => M.ret .nx
  | .exp e k => thenK (kExp (den cd e).v) (run k)
  | .set i e k => thenK (kSet i (den cd e).v) (run k)
  | .asg t e k => thenK (kAsg (den cd t).g (den cd e).v) (run k)
  | .par i j a b k => thenK (kPar i j (den cd a).v (den cd b).v) (run k)
  | .par3 i j l a b d k => thenK (kPar3 i j l (den cd a).v (den cd b).v (den cd d).v) (run k)
  | .sti i a b k => thenK (kSti i (den cd a).v (den cd b).v) (run k)
  | .ret e => kRet (den cd e).v
  | .ite c a b k => thenK (kIte (den cd c).t (run a) (run b)) (run k)
  | .for_ t it b k => thenK (kFor (den cd t).g (den cd it).w (run b)) (run k)
  | .whl c b k => thenK (kWhl L (den cd c).t (run b)) (run k)
  | .rai c as => kRai c (den cd as).l
end
/-- a def: how many slots, how many parameters, its body -/
structure Def where
  slots : Nat
  pars : Nat
  body : C
/-- the defs of a program, calls nested at most n deep, loops at most L turns -/
def callD (Ds : List Def) (L : Nat) : Nat → Nat → List Val → List D → R Val
  | 0, _, _, _ => .bad
  | n + 1, g, vs, μ => match Ds[g]? with
    | none => .bad
    | some d => if vs.length = d.pars then (match run (callD Ds L n) L d.body { ρ := vs.map some ++ List.replicate (d.slots - vs.length) none, μ := μ } with
      | .ok (.rt v) s => .ok v { ρ := [], μ := s.μ }
      | .ok .nx s => .ok (.dat .none) { ρ := [], μ := s.μ }
      | .ok _ _ => .bad
      | .exc c fs s => .exc c fs { ρ := [], μ := s.μ }
      | .bad => .bad) else .bad
end Ded
end

section
set_option Elab.async false
set_option linter.all false
set_option maxRecDepth 100000
/-! How the pure state lies in the heap. -/
namespace Ded
open PySem L2

/-- the tables of code objects, and the names of what they bear -/
class TabName where
  T : List (Addr × Str)
abbrev Fz := Addr → Prop
def kd : Key → D
  | .inl i => .int i
  | .inr x => .str x

/-- a tuple at a, that bears no dict of its own -/
def Pl (H : Hp) (a : Addr) (xs : List V) : Prop := ∃ o, H a = some (.frz o (.tup xs)) ∧ o.dict = none
theorem Pl.sq {K : PySem.W.Frag} {H : Hp} {a : Addr} {xs : List V} (h : Pl H a xs) : SqT K H a xs := by
  obtain ⟨o, e, _⟩ := h
  exact .inl (.inr ⟨o, e⟩)
theorem Pl.new {H : Hp} {a : Addr} {o : Obj} {xs : List V} (h : o.dict = none) : Pl (upd H a (.frz o (.tup xs))) a xs := ⟨o, upd_same, h⟩
mutual
inductive Rf (K : PySem.W.Frag) (F : Fz) (H : Hp) : V → D → Prop
  | non : Rf K F H .non .none
  | bl (b : Bool) : Rf K F H (.bl b) (.bool b)
  | int (i : Int) : Rf K F H (.int i) (.int i)
  | str (x : Str) : Rf K F H (.str x) (.str x)
  | lst {a : Addr} {xs : List V} {ds : List D} : F a → H a = some (.lst xs) → xs.length ≤ sizeLine → RfA K F H xs ds → Rf K F H (.ref a) (.list ds)
  | tup {a : Addr} {xs : List V} {ds : List D} : F a → Pl H a xs → xs.length ≤ sizeLine → RfA K F H xs ds → Rf K F H (.ref a) (.tuple ds)
  | dct {a : Addr} {kvs : List (Key × V)} {es : List (D × D)} : F a → Rd H a (.dK kvs) → RfK K F H kvs es → Rf K F H (.ref a) (.dict es)
inductive RfA (K : PySem.W.Frag) (F : Fz) (H : Hp) : List V → List D → Prop
  | nil : RfA K F H [] []
  | cons {v : V} {vs : List V} {d : D} {ds : List D} : Rf K F H v d → RfA K F H vs ds → RfA K F H (v :: vs) (d :: ds)
inductive RfK (K : PySem.W.Frag) (F : Fz) (H : Hp) : List (Key × V) → List (D × D) → Prop
  | nil : RfK K F H [] []
  | cons {k : Key} {v : V} {kvs : List (Key × V)} {d : D} {es : List (D × D)} : Rf K F H v d → RfK K F H kvs es → RfK K F H ((k, v) :: kvs) ((kd k, d) :: es)
end
/-- what frozen things were, they are -/
def NT (o : HO) : Prop := ∀ ps, o ≠ .tbl ps
theorem nt_frz {o : Obj} {u : HO} : NT (.frz o u) := fun ps z => nomatch z
theorem nt_lst {xs : List V} : NT (.lst xs) := fun ps z => nomatch z
theorem nt_dK {kvs : List (Key × V)} : NT (.dK kvs) := fun ps z => nomatch z
/-- the same, or a dict that is frozen is now known as the object that it is -/
def Same (f : Prop) (o : HO) (r : Option HO) : Prop := r = some o ∨ (f ∧ ∃ kvs z, o = .dK kvs ∧ r = some (.frz z o))
theorem Same.lst {f : Prop} {xs : List V} {r : Option HO} (h : Same f (.lst xs) r) : r = some (.lst xs) := h.elim id fun ⟨_, _, _, e, _⟩ => nomatch e
theorem Same.frz {f : Prop} {z : Obj} {u : HO} {r : Option HO} (h : Same f (.frz z u) r) : r = some (.frz z u) := h.elim id fun ⟨_, _, _, e, _⟩ => nomatch e
theorem Same.off {f : Prop} {o : HO} {r : Option HO} (h : Same f o r) (n : ¬ f) : r = some o := h.elim id fun ⟨x, _⟩ => absurd x n
theorem Same.imp {f g : Prop} {o : HO} {r : Option HO} (h : Same f o r) (q : f → g) : Same g o r := h.imp_right fun ⟨a, b⟩ => ⟨q a, b⟩
theorem Same.rd {f : Prop} {H' : Hp} {a : Addr} {o : HO} (h : Same f o (H' a)) : Rd H' a o := h.imp_right fun ⟨_, _, z, _, e⟩ => ⟨z, e⟩
theorem Same.upd {f : Prop} {H : Hp} {a p : Addr} {x o : HO} (h : Same f o (H a)) (n : a ≠ p) : Same f o (upd H p x a) := by
  rw [upd_ne n]
  exact h
def Kp (F : Fz) (H H' : Hp) : Prop := ∀ a o, F a → NT o → H a = some o → Same True o (H' a)
theorem Kp.of {F : Fz} {H H' : Hp} (h : ∀ a o, F a → NT o → H a = some o → H' a = some o) : Kp F H H' := fun a o f n e => .inl (h a o f n e)
section
variable {K : PySem.W.Frag} {F F' : Fz} {H H' : Hp}
theorem Kp.then {H'' : Hp} (k : Kp F H H') (hF : ∀ a, F a → F' a) (k2 : Kp F' H' H'') : Kp F H H'' := fun a o f n e => by
  rcases k a o f n e with e1 | ⟨_, kvs, z, rfl, e1⟩
  · exact k2 a o (hF a f) n e1
  · exact .inr ⟨trivial, kvs, z, rfl, (k2 a _ (hF a f) nt_frz e1).frz⟩
theorem Kp.pl {a : Addr} {xs : List V} (k : Kp F H H') (f : F a) (r : Pl H a xs) : Pl H' a xs := by
  obtain ⟨o, e, d⟩ := r
  exact ⟨o, (k _ _ f nt_frz e).frz, d⟩
theorem Kp.rd {a : Addr} {u : HO} (k : Kp F H H') (n : NT u) (f : F a) (r : Rd H a u) : Rd H' a u := by
  rcases r with r | ⟨o, r⟩
  · exact (k _ _ f n r).rd
  · exact .inr ⟨o, (k _ _ f nt_frz r).frz⟩
mutual
theorem Rf.mono (hF : ∀ a, F a → F' a) (k : Kp F H H') : ∀ (d : D) {v : V}, Rf K F H v d → Rf K F' H' v d
  | .none, _, h => by cases h; exact .non
  | .bool _, _, h => by cases h; exact .bl _
  | .int _, _, h => by cases h; exact .int _
  | .str _, _, h => by cases h; exact .str _
  | .list ds, _, h => by
    cases h with
    | lst f e z r => exact .lst (hF _ f) (k _ _ f nt_lst e).lst z (RfA.mono hF k ds r)
  | .tuple ds, _, h => by
    cases h with
    | tup f e z r => exact .tup (hF _ f) (k.pl f e) z (RfA.mono hF k ds r)
  | .dict es, _, h => by
    cases h with
    | dct f e r => exact .dct (hF _ f) (k.rd nt_dK f e) (RfK.mono hF k es r)
theorem RfA.mono (hF : ∀ a, F a → F' a) (k : Kp F H H') : ∀ (ds : List D) {vs : List V}, RfA K F H vs ds → RfA K F' H' vs ds
  | [], _, h => by cases h; exact .nil
  | d :: ds, _, h => by
    cases h with
    | cons a b => exact .cons (Rf.mono hF k d a) (RfA.mono hF k ds b)
theorem RfK.mono (hF : ∀ a, F a → F' a) (k : Kp F H H') : ∀ (es : List (D × D)) {kvs : List (Key × V)}, RfK K F H kvs es → RfK K F' H' kvs es
  | [], _, h => by cases h; exact .nil
  | (_, d) :: es, _, h => by
    cases h with
    | cons a b => exact .cons (Rf.mono hF k d a) (RfK.mono hF k es b)
end
theorem RfA.length : ∀ {vs : List V} {ds : List D}, RfA K F H vs ds → vs.length = ds.length
  | _, _, .nil => rfl
  | _, _, .cons _ r => by simp [RfA.length r]
theorem RfA.append : ∀ {vs ws : List V} {ds es : List D}, RfA K F H vs ds → RfA K F H ws es → RfA K F H (vs ++ ws) (ds ++ es)
  | _, _, _, _, .nil, s => s
  | _, _, _, _, .cons a r, s => .cons a (RfA.append r s)
theorem RfA.get : ∀ {vs : List V} {ds : List D} {i : Nat} {d : D}, RfA K F H vs ds → ds[i]? = some d → ∃ v, vs[i]? = some v ∧ Rf K F H v d
  | _, _, _, _, .nil, e => by simp at e
  | _, _, 0, _, .cons a _, e => by simp at e; subst e; exact ⟨_, rfl, a⟩
  | _, _, i + 1, d, .cons _ r, e => by
    obtain ⟨v, h1, h2⟩ := RfA.get (i := i) (d := d) r (by simpa using e)
    exact ⟨v, by simpa using h1, h2⟩
theorem RfA.take : ∀ {vs : List V} {ds : List D} (n : Nat), RfA K F H vs ds → RfA K F H (vs.take n) (ds.take n)
  | _, _, 0, _ => by simp; exact .nil
  | _, _, _ + 1, .nil => .nil
  | _, _, n + 1, .cons a r => .cons a (RfA.take n r)
theorem RfA.drop : ∀ {vs : List V} {ds : List D} (n : Nat), RfA K F H vs ds → RfA K F H (vs.drop n) (ds.drop n)
  | _, _, 0, r => r
  | _, _, _ + 1, .nil => .nil
  | _, _, n + 1, .cons _ r => RfA.drop n r
theorem RfA.reverse : ∀ {vs : List V} {ds : List D}, RfA K F H vs ds → RfA K F H vs.reverse ds.reverse
  | _, _, .nil => .nil
  | _, _, .cons a r => by
    rw [List.reverse_cons, List.reverse_cons]
    exact (RfA.reverse r).append (.cons a .nil)
theorem RfA.eraseIdx : ∀ {vs : List V} {ds : List D} (n : Nat), RfA K F H vs ds → RfA K F H (vs.eraseIdx n) (ds.eraseIdx n)
  | _, _, _, .nil => .nil
  | _, _, 0, .cons _ r => r
  | _, _, n + 1, .cons a r => .cons a (RfA.eraseIdx n r)
theorem RfA.strs : ∀ (ss : List Str), RfA K F H (ss.map V.str) (ss.map .str)
  | [] => .nil
  | _ :: r => .cons (.str _) (RfA.strs r)
theorem RfA.ints : ∀ (ss : List Int), RfA K F H (ss.map V.int) (ss.map .int)
  | [] => .nil
  | _ :: r => .cons (.int _) (RfA.ints r)
theorem RfA.of_strs : ∀ {ds : List D} {ss : List Str} {vs : List V}, strsOf ds = some ss → RfA K F H vs ds → vs = ss.map V.str ∧ ds = ss.map .str
  | [], ss, _, e, r => by
    cases r
    simp [strsOf] at e; subst e; exact ⟨rfl, rfl⟩
  | .str x :: ds, ss, _, e, r => by
    cases r with
    | cons a b =>
      cases a
      simp only [strsOf, Option.map_eq_some_iff] at e
      obtain ⟨s2, e1, rfl⟩ := e
      obtain ⟨e2, e3⟩ := RfA.of_strs e1 b
      exact ⟨by rw [e2]; rfl, by rw [e3]; rfl⟩
  | .none :: _, _, _, e, _ => by simp [strsOf] at e
  | .bool _ :: _, _, _, e, _ => by simp [strsOf] at e
  | .int _ :: _, _, _, e, _ => by simp [strsOf] at e
  | .list _ :: _, _, _, e, _ => by simp [strsOf] at e
  | .tuple _ :: _, _, _, e, _ => by simp [strsOf] at e
  | .dict _ :: _, _, _, e, _ => by simp [strsOf] at e
mutual
/-- data without dicts, as the layer reads them -/
theorem Rf.dp : ∀ (d : D) {v : V}, d.canLay0 = true → Rf K F H v d → Dp K H v d
  | .none, _, _, h => by cases h; exact .non
  | .bool _, _, _, h => by cases h; exact .bl _
  | .int _, _, _, h => by cases h; exact .int _
  | .str _, _, _, h => by cases h; exact .str _
  | .list ds, _, c, h => by
    cases h with
    | lst f e z r => exact .lst (SqL.of e) (RfA.dp ds (by simpa only [PyData.canLay0] using c) r)
  | .tuple ds, _, c, h => by
    cases h with
    | tup f e z r => exact .tup e.sq (RfA.dp ds (by simpa only [PyData.canLay0] using c) r)
  | .dict _, _, c, _ => by simp [PyData.canLay0] at c
theorem RfA.dp : ∀ (ds : List D) {vs : List V}, PyData.canLayAll0 ds = true → RfA K F H vs ds → DpAll K H vs ds
  | [], _, _, h => by cases h; exact .nil
  | d :: ds, _, c, h => by
    cases h with
    | cons a b =>
      simp only [PyData.canLayAll0, Bool.and_eq_true] at c
      exact .cons (Rf.dp d c.1 a) (RfA.dp ds c.2 b)
end
end

/-- a list or dict of one's own -/
def Cell (K : PySem.W.Frag) (F : Fz) (H : Hp) (a : Addr) : D → Prop
  | .list ds => ∃ xs, H a = some (.lst xs) ∧ xs.length ≤ sizeLine ∧ RfA K F H xs ds
  | .dict es => ∃ kvs, H a = some (.dK kvs) ∧ RfK K F H kvs es
  | _ => False
theorem Cell.mono {K : PySem.W.Frag} {F F' : Fz} {H H' : Hp} {a : Addr} {d : D} (hF : ∀ a, F a → F' a) (k : Kp F H H') (ka : ∀ o, NT o → H a = some o → H' a = some o) (c : Cell K F H a d) : Cell K F' H' a d := by
  cases d with
  | list ds => obtain ⟨xs, e, z, r⟩ := c; exact ⟨xs, ka _ nt_lst e, z, r.mono hF k⟩
  | dict es => obtain ⟨kvs, e, r⟩ := c; exact ⟨kvs, ka _ nt_dK e, r.mono hF k⟩
  | none => exact c.elim
  | bool _ => exact c.elim
  | int _ => exact c.elim
  | str _ => exact c.elim
  | tuple _ => exact c.elim
theorem Cell.there {K : PySem.W.Frag} {F : Fz} {H : Hp} {a : Addr} {d : D} (c : Cell K F H a d) : ∃ o, H a = some o := by
  cases d with
  | list ds => obtain ⟨xs, e, _⟩ := c; exact ⟨_, e⟩
  | dict es => obtain ⟨kvs, e, r⟩ := c; exact ⟨_, e⟩
  | none => exact c.elim
  | bool _ => exact c.elim
  | int _ => exact c.elim
  | str _ => exact c.elim
  | tuple _ => exact c.elim
/-- a cell that is frozen -/
theorem Cell.rf {K : PySem.W.Frag} {F : Fz} {H : Hp} {a : Addr} {d : D} (c : Cell K F H a d) (f : F a) : Rf K F H (.ref a) d := by
  cases d with
  | list ds => obtain ⟨xs, e, z, r⟩ := c; exact .lst f e z r
  | dict es => obtain ⟨kvs, e, r⟩ := c; exact .dct f (.inl e) r
  | none => exact c.elim
  | bool _ => exact c.elim
  | int _ => exact c.elim
  | str _ => exact c.elim
  | tuple _ => exact c.elim

variable [TabName]
/-- from one moment to a later one: F frozen, M may change -/
structure Grow (F M : Fz) (H : Hp) (F' M' : Fz) (H' : Hp) : Prop where
  keep : ∀ a o, NT o → H a = some o → ¬ M a → Same (F' a) o (H' a)
  dom : ∀ a o, H a = some o → ∃ o', H' a = some o'
  fmono : ∀ a, F a → F' a
  fnew : ∀ a, F' a → F a ∨ M a ∨ H a = none
  mnew : ∀ a, M' a → M a ∨ H a = none
  tab : LamX.Tabs TabName.T H → LamX.Tabs TabName.T H'
theorem Grow.refl (F M : Fz) (H : Hp) : Grow F M H F M H := ⟨fun _ _ _ e _ => .inl e, fun _ o e => ⟨o, e⟩, fun _ f => f, fun _ f => .inl f, fun _ m => .inl m, fun t => t⟩
section
variable {F M F1 M1 F2 M2 : Fz} {H H1 H2 : Hp}
theorem Grow.none (g : Grow F M H F1 M1 H1) {a : Addr} (h : H1 a = none) : H a = none := by
  cases e : H a with
  | none => rfl
  | some o =>
    obtain ⟨o', e'⟩ := g.dom a o e
    rw [h] at e'; cases e'
theorem Grow.trans (g : Grow F M H F1 M1 H1) (k : Grow F1 M1 H1 F2 M2 H2) : Grow F M H F2 M2 H2 where
  tab := fun t => k.tab (g.tab t)
  keep := fun a o nt e nm => by
    have nm1 : ¬ M1 a := fun m1 => by
      rcases g.mnew a m1 with m | n
      · exact nm m
      · rw [n] at e; cases e
    rcases g.keep a o nt e nm with e1 | ⟨f, kvs, z, rfl, e1⟩
    · exact k.keep a o nt e1 nm1
    · exact .inr ⟨k.fmono a f, kvs, z, rfl, (k.keep a _ nt_frz e1 nm1).frz⟩
  dom := fun a o e => let ⟨o', e'⟩ := g.dom a o e; k.dom a o' e'
  fmono := fun a f => k.fmono a (g.fmono a f)
  fnew := fun a f => by
    rcases k.fnew a f with f | m | n
    · exact g.fnew a f
    · rcases g.mnew a m with m | n
      · exact .inr (.inl m)
      · exact .inr (.inr n)
    · exact .inr (.inr (g.none n))
  mnew := fun a m => by
    rcases k.mnew a m with m | n
    · exact g.mnew a m
    · exact .inr (g.none n)
theorem Grow.weakM {M' : Fz} (g : Grow F M H F1 M1 H1) (h : ∀ a, M' a → M1 a) : Grow F M H F1 M' H1 := ⟨g.keep, g.dom, g.fmono, g.fnew, fun a m => g.mnew a (h a m), g.tab⟩
theorem Grow.kp (g : Grow F M H F1 M1 H1) (dj : ∀ a, F a → ¬ M a) : Kp F H H1 := fun a o f n e => (g.keep a o n e (dj a f)).imp fun _ => trivial
end

/-- the script, as it was handed in -/
def Scr (K : PySem.W.Frag) (H : Hp) (a : Addr) (ns : List Int) : Prop := (∃ o, H a = some (.frz o (.lst (ns.map V.int)))) ∨ SqL K (fun _ => none) a (ns.map V.int)
theorem Scr.seq {K : PySem.W.Frag} {H : Hp} {a : Addr} {ns : List Int} (h : Scr K H a ns) : SqL K H a (ns.map V.int) := by
  rcases h with ⟨o, e⟩ | h
  · exact .inl (.inr ⟨o, e⟩)
  · rcases h with (h | ⟨o, h⟩) | h
    · cases h
    · cases h
    · exact .inr h
theorem Cell.nofrz {K : PySem.W.Frag} {F : Fz} {H : Hp} {a : Addr} {d : D} (c : Cell K F H a d) {o : Obj} {u : HO} (e : H a = some (.frz o u)) : False := by
  cases d with
  | list ds => obtain ⟨xs, e', _⟩ := c; rw [e] at e'; cases e'
  | dict es => obtain ⟨kvs, e', r⟩ := c; rw [e] at e'; cases e'
  | none => exact c.elim
  | bool _ => exact c.elim
  | int _ => exact c.elim
  | str _ => exact c.elim
  | tuple _ => exact c.elim
/-- tables stand elsewhere -/
theorem tabs_at {H : Hp} {a : Addr} {o u : HO} {T : List (Addr × Str)} (e : H a = some u) (n1 : NT u) (n2 : ∀ f, u ≠ .ext f) (t : LamX.Tabs T H) : LamX.Tabs T (upd H a o) := fun p hp => by
  obtain ⟨ps, h1, h2, h3⟩ := t p hp
  refine ⟨ps, by rw [upd_ne (fun q => by rw [q, e] at h1; exact n1 ps (Option.some.inj h1))]; exact h1, h2, fun pos cv hc => ?_⟩
  obtain ⟨c, e1, e2⟩ := h3 pos cv hc
  exact ⟨c, e1, by rw [upd_ne (fun q => by rw [q, e] at e2; exact n2 _ (Option.some.inj e2))]; exact e2⟩
theorem tabs_cell {K : PySem.W.Frag} {F : Fz} {H : Hp} {a : Addr} {d : D} {o : HO} {T : List (Addr × Str)} (c : Cell K F H a d) (t : LamX.Tabs T H) : LamX.Tabs T (upd H a o) := by
  cases d with
  | list ds => obtain ⟨xs, e, _⟩ := c; exact tabs_at e nt_lst (fun f z => nomatch z) t
  | dict es => obtain ⟨kvs, e, r⟩ := c; exact tabs_at e nt_dK (fun f z => nomatch z) t
  | none => exact c.elim
  | bool _ => exact c.elim
  | int _ => exact c.elim
  | str _ => exact c.elim
  | tuple _ => exact c.elim
/-- the addresses that slots own -/
def Ow (ρ : List (Option Val)) (σ : St) (a : Addr) : Prop := ∃ (i : Nat) (d : D), ρ[i]? = some (some (Val.own d)) ∧ σ[i]? = some (some (V.ref a))
def Mu (ρ : List (Option Val)) (σ : St) (ex : List Addr) (a : Addr) : Prop := a ∈ ex ∨ Ow ρ σ a
/-- the addresses that slots only hold as lent -/
def Bo (ρ : List (Option Val)) (σ : St) (a : Addr) : Prop := ∃ (i : Nat) (d : D), ρ[i]? = some (some (Val.bor d)) ∧ σ[i]? = some (some (V.ref a))

def SlotOk (K : PySem.W.Frag) (F : Fz) (ex : List Addr) (H : Hp) (x : V) : Val → Prop
  | .dat d => Rf K F H x d
  | .own d => ∃ a, x = .ref a ∧ Cell K F H a d ∧ ¬ F a ∧ a ∉ ex
  | .ext k => ∃ a, ex[k]? = some a ∧ x = .ref a
  | .bor d => ∃ a, x = .ref a ∧ Cell K F H a d ∧ ¬ F a ∧ a ∉ ex
  | .loc _ => False
  | .scr ns => ∃ a, x = .ref a ∧ Scr K H a ns
structure Rel (K : PySem.W.Frag) (F : Fz) (ex : List Addr) (s : S) (σ : St) (H : Hp) : Prop where
  len : s.ρ.length = σ.length
  slot : ∀ (i : Nat) (v : Val), s.ρ[i]? = some (some v) → ∃ x, σ[i]? = some (some x) ∧ SlotOk K F ex H x v
  sep : ∀ (i j : Nat) (d d' : D) (a : Addr), s.ρ[i]? = some (some (.own d)) → s.ρ[j]? = some (some (.own d')) → σ[i]? = some (some (.ref a)) → σ[j]? = some (some (.ref a)) → i = j
  lent : ∀ (i : Nat) (d : D) (a : Addr), s.ρ[i]? = some (some (.bor d)) → σ[i]? = some (some (.ref a)) → ¬ Ow s.ρ σ a
  exl : s.μ.length = ex.length
  exd : ex.Nodup
  cel : ∀ (k : Nat) (d : D), s.μ[k]? = some d → ∃ a, ex[k]? = some a ∧ ¬ F a ∧ Cell K F H a d
  fdom : ∀ a, F a → ∃ o, H a = some o
section
variable {K : PySem.W.Frag} {F F' : Fz} {ex ex' : List Addr} {s s' : S} {σ : St} {H H' : Hp}
theorem Rel.ow {a : Addr} (r : Rel K F ex s σ H) (o : Ow s.ρ σ a) : ¬ F a ∧ a ∉ ex ∧ ∃ o, H a = some o := by
  obtain ⟨i, d, e1, e2⟩ := o
  obtain ⟨x, e3, h⟩ := r.slot i _ e1
  obtain ⟨b, rfl, c, nf, nx⟩ := h
  rw [e2] at e3; cases e3
  exact ⟨nf, nx, c.there⟩
theorem Rel.exm {a : Addr} (r : Rel K F ex s σ H) (m : a ∈ ex) : ¬ F a ∧ ∃ o, H a = some o := by
  obtain ⟨k, hk, e⟩ := List.mem_iff_getElem.mp m
  have hk' : k < s.μ.length := by rw [r.exl]; exact hk
  obtain ⟨b, e1, nf, c⟩ := r.cel k _ (List.getElem?_eq_getElem hk')
  rw [List.getElem?_eq_getElem hk, e] at e1
  cases e1
  exact ⟨nf, c.there⟩
theorem Rel.dj (r : Rel K F ex s σ H) : ∀ a, F a → ¬ Mu s.ρ σ ex a := fun a f m => by
  rcases m with m | m
  · exact (r.exm m).1 f
  · exact (r.ow m).1 f
theorem Rel.bo {a : Addr} (r : Rel K F ex s σ H) (o : Bo s.ρ σ a) : ∃ o, H a = some o := by
  obtain ⟨i, d, e1, e2⟩ := o
  obtain ⟨x, e3, b, rfl, c, _⟩ := r.slot i _ e1
  rw [e2] at e3; cases e3
  exact c.there
/-- what nobody holds is frozen -/
theorem Rel.freeze {a : Addr} (r : Rel K F ex s σ H) (c : ∃ o, H a = some o) (nm : ¬ Mu s.ρ σ ex a) (nb : ¬ Bo s.ρ σ a) : Rel K (fun b => F b ∨ b = a) ex s σ H := by
  have hF : ∀ b, F b → (fun b => F b ∨ b = a) b := fun b f => .inl f
  have kp : Kp F H H := .of fun _ _ _ _ e => e
  refine ⟨r.len, fun i v e => ?_, r.sep, r.lent, r.exl, r.exd, fun k d e => ?_, fun b f => f.elim (r.fdom b) fun e => by subst e; exact c⟩
  · obtain ⟨x, e1, h⟩ := r.slot i v e
    refine ⟨x, e1, ?_⟩
    cases v with
    | dat d => exact Rf.mono hF kp d h
    | own d =>
      obtain ⟨b, rfl, c, nf, nx⟩ := h
      exact ⟨b, rfl, c.mono hF kp fun _ _ e => e, fun f => f.elim nf fun z => nm (.inr ⟨i, d, e, by rw [← z]; exact e1⟩), nx⟩
    | ext k => exact h
    | bor d =>
      obtain ⟨b, rfl, c, nf, nx⟩ := h
      exact ⟨b, rfl, c.mono hF kp fun _ _ e => e, fun f => f.elim nf fun z => nb ⟨i, d, e, by rw [← z]; exact e1⟩, nx⟩
    | loc _ => exact h.elim
    | scr ns => exact h
  · obtain ⟨b, e1, nf, c⟩ := r.cel k d e
    exact ⟨b, e1, fun f => f.elim nf fun z => nm (.inl (by rw [← z]; exact List.mem_of_getElem? e1)), c.mono hF kp fun _ _ e => e⟩
theorem Rel.mdom {a : Addr} (r : Rel K F ex s σ H) (m : Mu s.ρ σ ex a) : ∃ o, H a = some o := by
  rcases m with m | m
  · exact (r.exm m).2
  · exact (r.ow m).2.2
end

/-- new frozen things come, nothing else changes -/
structure New (F : Fz) (H : Hp) (F' : Fz) (H' : Hp) : Prop where
  same : ∀ a o, H a = some o → H' a = some o
  fmono : ∀ a, F a → F' a
  fnew : ∀ a, F' a → F a ∨ H a = none
  fdom : ∀ a, F' a → ∃ o, H' a = some o
section
variable {K : PySem.W.Frag} {F F' : Fz} {ex ex' : List Addr} {s s' : S} {σ : St} {H H' : Hp}
theorem New.refl (h : ∀ a, F a → ∃ o, H a = some o) : New F H F H := ⟨fun _ _ e => e, fun _ f => f, fun _ f => .inl f, h⟩
theorem New.kp (n : New F H F' H') : Kp F H H' := .of fun a o _ _ e => n.same a o e
theorem New.grow (n : New F H F' H') (M : Fz) : Grow F M H F' M H' :=
  ⟨fun a o _ e _ => .inl (n.same a o e), fun a o e => ⟨o, n.same a o e⟩, n.fmono, fun a f => (n.fnew a f).elim .inl fun z => .inr (.inr z), fun a m => .inl m, fun t => t.ext n.same⟩
/-- a new object at p, frozen from the start -/
theorem New.frz (h : ∀ a, F a → ∃ o, H a = some o) {p : Addr} (hp : H p = none) (o : HO) : New F H (fun a => F a ∨ a = p) (upd H p o) where
  same := fun a u e => by rw [upd_ne (ne_of_none e hp)]; exact e
  fmono := fun a f => .inl f
  fnew := fun a f => f.elim .inl fun e => .inr (by rw [e]; exact hp)
  fdom := fun a f => by
    by_cases e : a = p
    · subst e; exact ⟨o, upd_same⟩
    · rw [upd_ne e]; exact f.elim (h a) fun z => absurd z e
/-- a new object at p -/
theorem New.own (h : ∀ a, F a → ∃ o, H a = some o) {p : Addr} (hp : H p = none) (o : HO) : New F H F (upd H p o) where
  same := fun a u e => by rw [upd_ne (ne_of_none e hp)]; exact e
  fmono := fun a f => f
  fnew := fun a f => .inl f
  fdom := fun a f => by
    obtain ⟨u, e⟩ := h a f
    exact ⟨u, by rw [upd_ne (ne_of_none e hp)]; exact e⟩
theorem New.trans {F1 F2 : Fz} {H1 H2 : Hp} (n : New F H F1 H1) (m : New F1 H1 F2 H2) : New F H F2 H2 where
  same := fun a o e => m.same a o (n.same a o e)
  fmono := fun a f => m.fmono a (n.fmono a f)
  fnew := fun a f => by
    rcases m.fnew a f with f | z
    · exact n.fnew a f
    · refine .inr ?_
      cases e : H a with
      | none => rfl
      | some o => rw [n.same a o e] at z; cases z
  fdom := m.fdom
/-- what a slot held, it holds later -/
theorem SlotOk.grow {M M' : Fz} (g : Grow F M H F' M' H') (dj : ∀ a, F a → ¬ M a) (nfz : ∀ a o u, M a → H a = some (.frz o u) → False) (px : ∀ (k : Nat) (a : Addr), ex[k]? = some a → ex'[k]? = some a) (hx : ∀ a, a ∈ ex' → a ∈ ex ∨ M a ∨ H a = none) {x : V} {v : Val} (h : SlotOk K F ex H x v)
    (hm : ∀ a d, x = .ref a → (v = .own d ∨ v = .bor d) → ¬ M a) : SlotOk K F' ex' H' x v := by
  have cellOk : ∀ {a : Addr} {d : D}, Cell K F H a d → ¬ F a → a ∉ ex → ¬ M a → Cell K F' H' a d ∧ ¬ F' a ∧ a ∉ ex' := fun {a d} c nf nx nm => by
    obtain ⟨u, e⟩ := c.there
    have nf' : ¬ F' a := fun f => by
      rcases g.fnew a f with f | m | z
      · exact nf f
      · exact nm m
      · rw [z] at e; cases e
    refine ⟨c.mono g.fmono (g.kp dj) (fun o n e => (g.keep a o n e nm).off nf'), nf', fun m => ?_⟩
    rcases hx a m with m | m | z
    · exact nx m
    · exact nm m
    · rw [z] at e; cases e
  cases v with
  | dat d => exact Rf.mono g.fmono (g.kp dj) d h
  | own d =>
    obtain ⟨a, rfl, c, nf, nx⟩ := h
    exact ⟨a, rfl, cellOk c nf nx (hm a d rfl (.inl rfl))⟩
  | ext k => obtain ⟨a, e, rfl⟩ := h; exact ⟨a, px k a e, rfl⟩
  | bor d =>
    obtain ⟨a, rfl, c, nf, nx⟩ := h
    exact ⟨a, rfl, cellOk c nf nx (hm a d rfl (.inr rfl))⟩
  | loc _ => exact h.elim
  | scr ns =>
    obtain ⟨a, rfl, c⟩ := h
    refine ⟨a, rfl, ?_⟩
    rcases c with ⟨o, e⟩ | c
    · exact .inl ⟨o, (g.keep a _ nt_frz e fun m => nfz a _ _ m e).frz⟩
    · exact .inr c
theorem Rel.nfz (r : Rel K F ex s σ H) : ∀ a o u, Mu s.ρ σ ex a → H a = some (.frz o u) → False := fun a o u m e => by
  rcases m with m | ⟨i, d, e1, e2⟩
  · obtain ⟨k, hk, ek⟩ := List.mem_iff_getElem.mp m
    have hk' : k < s.μ.length := by rw [r.exl]; exact hk
    obtain ⟨b, e1, nf, c⟩ := r.cel k _ (List.getElem?_eq_getElem hk')
    rw [List.getElem?_eq_getElem hk, ek] at e1
    cases e1
    exact c.nofrz e
  · obtain ⟨x, e3, b, rfl, c, _⟩ := r.slot i _ e1
    rw [e2] at e3; cases e3
    exact c.nofrz e
/-- new frozen things come: all stays -/
theorem Rel.new (r : Rel K F ex s σ H) (n : New F H F' H') : Rel K F' ex s σ H' where
  len := r.len
  slot := fun i v e => by
    obtain ⟨x, e1, h⟩ := r.slot i v e
    refine ⟨x, e1, ?_⟩
    refine h.grow (n.grow fun _ => False) (fun _ _ z => z) (fun _ _ _ z => z.elim) (fun _ _ e => e) (fun a m => .inl m) fun _ _ _ _ z => z
  sep := r.sep
  lent := r.lent
  exl := r.exl
  exd := r.exd
  cel := fun k d e => by
    obtain ⟨a, e1, nf, c⟩ := r.cel k d e
    obtain ⟨u, eu⟩ := c.there
    refine ⟨a, e1, fun f => ?_, c.mono n.fmono n.kp fun o _ => n.same a o⟩
    rcases n.fnew a f with f | z
    · exact nf f
    · rw [z] at eu; cases eu
  fdom := n.fdom
/-- a list or dict of one's own is changed -/
theorem Rel.setOwn {i : Nat} {d d' : D} {a : Addr} {o : HO} (r : Rel K F ex s σ H) (e : s.ρ[i]? = some (some (.own d))) (hx : σ[i]? = some (some (V.ref a))) (c : Cell K F (upd H a o) a d') :
    Rel K F ex (setSlot s i (.own d')) σ (upd H a o) ∧ Grow F (Mu s.ρ σ ex) H F (Mu (setSlot s i (.own d')).ρ σ ex) (upd H a o) := by
  have hm : Ow s.ρ σ a := ⟨i, d, e, hx⟩
  obtain ⟨nf, nx, o0, eo⟩ := r.ow hm
  have kp : Kp F H (upd H a o) := .of fun b u f _ z => by
    rw [upd_ne (fun q => nf (by rw [← q]; exact f))]; exact z
  have hne : ∀ {b u}, b ≠ a → H b = some u → upd H a o b = some u := fun n z => by rw [upd_ne n]; exact z
  have hi : i < s.ρ.length := (List.getElem?_eq_some_iff.mp e).1
  have gs : ∀ {j : Nat} {v : Val}, (s.ρ.set i (some (Val.own d')))[j]? = some (some v) → (i = j ∧ v = .own d') ∨ (i ≠ j ∧ s.ρ[j]? = some (some v)) := fun {j v} z => by
    by_cases h : i = j
    · subst h
      rw [List.getElem?_set_self hi] at z
      cases z; exact .inl ⟨rfl, rfl⟩
    · rw [List.getElem?_set_ne h] at z; exact .inr ⟨h, z⟩
  have ow : ∀ b, Ow (setSlot s i (.own d')).ρ σ b → Ow s.ρ σ b := fun b ⟨j, d1, e3, e4⟩ => by
    rcases gs e3 with ⟨rfl, _⟩ | ⟨_, z⟩
    · rw [hx] at e4; cases e4; exact hm
    · exact ⟨j, d1, z, e4⟩
  refine ⟨⟨by simp [setSlot, r.len], fun j v e3 => ?_, fun j k d1 d2 b e3 e4 h1 h2 => ?_, fun j d1 b e3 e4 o => ?_, r.exl, r.exd, fun k d1 e3 => ?_, fun b f => ?_⟩, ⟨fun b u _ z nm => .inl (hne (fun q => nm (.inr (by rw [q]; exact hm))) z), fun b u z => ?_, fun _ f => f, fun _ f => .inl f, fun b m => m.elim (fun m => .inl (.inl m)) fun m => .inl (.inr (ow b m)), fun t => ?_⟩⟩
  · rcases gs e3 with ⟨rfl, rfl⟩ | ⟨hj, z⟩
    · exact ⟨_, hx, a, rfl, c, nf, nx⟩
    · obtain ⟨x, e4, h⟩ := r.slot j v z
      refine ⟨x, e4, ?_⟩
      cases v with
      | dat d => exact Rf.mono (fun _ f => f) kp d h
      | own d2 =>
        obtain ⟨b, rfl, c2, nf2, nx2⟩ := h
        have hb : b ≠ a := fun q => hj (r.sep i j d d2 a e z hx (by rw [← q]; exact e4))
        exact ⟨b, rfl, c2.mono (fun _ f => f) kp fun u _ => hne hb, nf2, nx2⟩
      | ext k => exact h
      | bor d2 =>
        obtain ⟨b, rfl, c2, nf2, nx2⟩ := h
        have hb : b ≠ a := fun q => r.lent j d2 b z e4 (by rw [q]; exact hm)
        exact ⟨b, rfl, c2.mono (fun _ f => f) kp fun u _ => hne hb, nf2, nx2⟩
      | loc _ => exact h.elim
      | scr ns =>
        obtain ⟨b, rfl, c2⟩ := h
        refine ⟨b, rfl, ?_⟩
        rcases c2 with ⟨ob, z2⟩ | c2
        · exact .inl ⟨ob, hne (fun q => r.nfz a ob _ (.inr hm) (by rw [← q]; exact z2)) z2⟩
        · exact .inr c2
  · rcases gs e3 with ⟨rfl, q1⟩ | ⟨n1, z1⟩
    · rcases gs e4 with ⟨rfl, q2⟩ | ⟨n2, z2⟩
      · rfl
      · exact r.sep i k d d2 b e z2 h1 h2
    · rcases gs e4 with ⟨rfl, q2⟩ | ⟨n2, z2⟩
      · exact r.sep j i d1 d b z1 e h1 h2
      · exact r.sep j k d1 d2 b z1 z2 h1 h2
  · rcases gs e3 with ⟨_, z⟩ | ⟨_, z⟩
    · cases z
    · exact r.lent j d1 b z e4 (ow b o)
  · obtain ⟨b, e4, nf2, c2⟩ := r.cel k d1 e3
    have hb : b ≠ a := fun q => nx (by rw [← q]; exact List.mem_of_getElem? e4)
    exact ⟨b, e4, nf2, c2.mono (fun _ f => f) kp fun u _ => hne hb⟩
  · obtain ⟨u, z⟩ := r.fdom b f
    exact ⟨u, hne (fun q => nf (by rw [← q]; exact f)) z⟩
  · by_cases hb : b = a
    · subst hb; exact ⟨o, upd_same⟩
    · exact ⟨u, hne hb z⟩
  · obtain ⟨x, ex1, b, rfl, c0, _⟩ := r.slot i _ e
    rw [hx] at ex1; cases ex1
    exact tabs_cell c0 t
/-- an object that others hold too is changed -/
theorem Rel.setExt {k : Nat} {d d' : D} {a : Addr} {o : HO} (r : Rel K F ex s σ H) (e : s.μ[k]? = some d) (hx : ex[k]? = some a) (c : Cell K F (upd H a o) a d') :
    Rel K F ex { s with μ := s.μ.set k d' } σ (upd H a o) ∧ Grow F (Mu s.ρ σ ex) H F (Mu s.ρ σ ex) (upd H a o) := by
  have hm : a ∈ ex := List.mem_of_getElem? hx
  obtain ⟨nf, o0, eo⟩ := r.exm hm
  have kp : Kp F H (upd H a o) := .of fun b u f _ z => by
    rw [upd_ne (fun q => nf (by rw [← q]; exact f))]; exact z
  have hne : ∀ {b u}, b ≠ a → H b = some u → upd H a o b = some u := fun n z => by rw [upd_ne n]; exact z
  have hk : k < s.μ.length := (List.getElem?_eq_some_iff.mp e).1
  refine ⟨⟨r.len, fun j v e3 => ?_, r.sep, r.lent, by simp [r.exl], r.exd, fun j d1 e3 => ?_, fun b f => ?_⟩, ⟨fun b u _ z nm => .inl (hne (fun q => nm (.inl (by rw [q]; exact hm))) z), fun b u z => ?_, fun _ f => f, fun _ f => .inl f, fun b m => .inl m, fun t => ?_⟩⟩
  · obtain ⟨x, e4, h⟩ := r.slot j v e3
    refine ⟨x, e4, ?_⟩
    cases v with
    | dat d => exact Rf.mono (fun _ f => f) kp d h
    | own d2 =>
      obtain ⟨b, rfl, c2, nf2, nx2⟩ := h
      exact ⟨b, rfl, c2.mono (fun _ f => f) kp fun u _ => hne (fun q => nx2 (by rw [q]; exact hm)), nf2, nx2⟩
    | ext k => exact h
    | bor d2 =>
      obtain ⟨b, rfl, c2, nf2, nx2⟩ := h
      exact ⟨b, rfl, c2.mono (fun _ f => f) kp fun u _ => hne (fun q => nx2 (by rw [q]; exact hm)), nf2, nx2⟩
    | loc _ => exact h.elim
    | scr ns =>
      obtain ⟨b, rfl, c2⟩ := h
      refine ⟨b, rfl, ?_⟩
      rcases c2 with ⟨ob, z2⟩ | c2
      · exact .inl ⟨ob, hne (fun q => r.nfz a ob _ (.inl hm) (by rw [← q]; exact z2)) z2⟩
      · exact .inr c2
  · by_cases h : k = j
    · subst h
      have e3 : (s.μ.set k d')[k]? = some d1 := e3
      rw [List.getElem?_set_self hk] at e3
      cases e3
      exact ⟨a, hx, nf, c⟩
    · have e3 : (s.μ.set k d')[j]? = some d1 := e3
      rw [List.getElem?_set_ne h] at e3
      obtain ⟨b, e4, nf2, c2⟩ := r.cel j d1 e3
      have hb : b ≠ a := fun q => h (by
        obtain ⟨l1, g1⟩ := List.getElem?_eq_some_iff.mp hx
        obtain ⟨l2, g2⟩ := List.getElem?_eq_some_iff.mp e4
        exact (List.getElem_inj r.exd).mp (g1.trans (q.symm.trans g2.symm)))
      exact ⟨b, e4, nf2, c2.mono (fun _ f => f) kp fun u _ => hne hb⟩
  · obtain ⟨u, z⟩ := r.fdom b f
    exact ⟨u, hne (fun q => nf (by rw [← q]; exact f)) z⟩
  · by_cases hb : b = a
    · subst hb; exact ⟨o, upd_same⟩
    · exact ⟨u, hne hb z⟩
  · obtain ⟨b, eb, _, c0⟩ := r.cel k d e
    rw [hx] at eb; cases eb
    exact tabs_cell c0 t
end
end Ded
end

section
set_option Elab.async false
set_option linter.all false
set_option maxRecDepth 100000
/-! What an expression's reading is, by the pure evaluator. -/
namespace Ded
open PySem L2
variable [TabName]

/-- where a def's body began -/
structure Entry (T : List (Addr × Str)) where
  F : Fz
  H : Hp
  ex : List Addr
  M : Fz
/-- how a raised exception lies: its class by number, its fields -/
structure Xc where
  x : Nat → List D → Fz → List Addr → List D → Hp → Value → Option Addr → Prop
abbrev Xc.T [TabName] (_ : Xc) : List (Addr × Str) := TabName.T
structure From {T : List (Addr × Str)} (en : Entry T) (F : Fz) (ex : List Addr) (s : S) (σ : L2.St) (H : Hp) : Prop where
  grow : Grow en.F en.M en.H F (Mu s.ρ σ ex) H
  pre : en.ex <+: ex
  tb : LamX.Tabs TabName.T H
/-- no slot becomes one that is only lent -/
def NB (s s' : S) : Prop := ∀ (i : Nat) (d : D), s'.ρ[i]? = some (some (.bor d)) → ∃ d', s.ρ[i]? = some (some (Val.bor d'))
theorem NB.refl {s : S} : NB s s := fun _ d e => ⟨d, e⟩
theorem NB.trans {s s1 s2 : S} (a : NB s s1) (b : NB s1 s2) : NB s s2 := fun i d e => let ⟨d', e'⟩ := b i d e; a i d' e'
theorem NB.set {s : S} {i : Nat} {v : Val} (h : ∀ d, v ≠ .bor d) : NB s (setSlot s i v) := fun j d e => by
  have e : (s.ρ.set i (some v))[j]? = some (some (.bor d)) := e
  by_cases q : i = j
  · subst q
    by_cases hl : i < s.ρ.length
    · rw [List.getElem?_set_self hl] at e; cases e; exact absurd rfl (h d)
    · rw [List.getElem?_eq_none (by simpa using hl)] at e; cases e
  · rw [List.getElem?_set_ne q] at e; exact ⟨d, e⟩
structure Step (F : Fz) (ex : List Addr) (s : S) (σ : L2.St) (H : Hp) (F' : Fz) (ex' : List Addr) (s' : S) (H' : Hp) : Prop where
  grow : Grow F (Mu s.ρ σ ex) H F' (Mu s'.ρ σ ex') H'
  pre : ex <+: ex'
  bo : NB s s'
theorem Step.refl {F : Fz} {ex : List Addr} {s : S} {σ : L2.St} {H : Hp} : Step F ex s σ H F ex s H := ⟨Grow.refl _ _ _, List.prefix_refl _, .refl⟩
theorem Step.trans {F F1 F2 : Fz} {ex ex1 ex2 : List Addr} {s s1 s2 : S} {σ : L2.St} {H H1 H2 : Hp} (a : Step F ex s σ H F1 ex1 s1 H1) (b : Step F1 ex1 s1 σ H1 F2 ex2 s2 H2) : Step F ex s σ H F2 ex2 s2 H2 :=
  ⟨a.grow.trans b.grow, a.pre.trans b.pre, a.bo.trans b.bo⟩
theorem From.step {T : List (Addr × Str)} {en : Entry T} {F F1 : Fz} {ex ex1 : List Addr} {s s1 : S} {σ : L2.St} {H H1 : Hp} (f : From en F ex s σ H) (b : Step F ex s σ H F1 ex1 s1 H1) : From en F1 ex1 s1 σ H1 := ⟨f.grow.trans b.grow, f.pre.trans b.pre, b.grow.tab f.tb⟩

/-- what is held where an exception has come: every list, dict that was handed in is told anew -/
structure XRel (K : PySem.W.Frag) {T : List (Addr × Str)} (en : Entry T) (F : Fz) (ex : List Addr) (μ : List D) (H : Hp) : Prop where
  grow : ∃ M, Grow en.F en.M en.H F M H
  pre : en.ex <+: ex
  exl : μ.length = ex.length
  exd : ex.Nodup
  cel : ∀ (k : Nat) (d : D), μ[k]? = some d → ∃ a, ex[k]? = some a ∧ ¬ F a ∧ Cell K F H a d
  fdom : ∀ a, F a → ∃ o, H a = some o
  new : ∀ a, a ∈ ex → en.M a ∨ en.H a = none

/-- a value at hand; H0: the heap where its expression began -/
def RV (K : PySem.W.Frag) (F : Fz) (ex : List Addr) (s : S) (σ : L2.St) (H0 H : Hp) (x : V) : Val → Prop
  | .dat d => Rf K F H x d
  | .own d => ∃ a, x = .ref a ∧ Cell K F H a d ∧ ¬ F a ∧ ¬ Mu s.ρ σ ex a ∧ ¬ Bo s.ρ σ a ∧ H0 a = none
  | .ext k => ∃ a, ex[k]? = some a ∧ x = .ref a
  | .bor d => ∃ a, x = .ref a ∧ Cell K F H a d ∧ ¬ F a ∧ a ∉ ex
  | .loc i => σ[i]? = some (some x)
  | .scr ns => ∃ a, x = .ref a ∧ Scr K H a ns

section
variable (K : PySem.W.Frag) (xc : Xc) (en : Entry xc.T) (Wi : XK)
def Ends_ {α : Type} (r : R α) (F : Fz) (ex : List Addr) (s : S) (σ : L2.St) (H : Hp) (Pk : Fz → List Addr → Hp → S → α → Prop) : Prop :=
  match r with
  | .ok a s' => ∀ F' ex' H', Rel K F' ex' s' σ H' → Step F ex s σ H F' ex' s' H' → Pk F' ex' H' s' a
  | .exc c fs s' => ∀ F' ex' H' cls od, XRel K en F' ex' s'.μ H' → xc.x c fs F' ex' s'.μ H' cls od → Wi cls od H'
  | .bad => False
def TE' (m : M Val) : TE := fun σ H Q => ∃ F ex s, Rel K F ex s σ H ∧ From en F ex s σ H ∧ Ends_ K xc en Wi (m s) F ex s σ H fun F' ex' H' s' v => ∀ x, RV K F' ex' s' σ H H' x v → Q x H'
def TT' (m : M Bool) : TT := fun σ H Q => ∃ F ex s, Rel K F ex s σ H ∧ From en F ex s σ H ∧ Ends_ K xc en Wi (m s) F ex s σ H fun F' ex' H' s' b => Q b H'
end

section
variable {K : PySem.W.Frag} {xc : Xc} {en : Entry xc.T} {Wi : XK} {α β : Type} {F F' : Fz} {ex ex' : List Addr} {s s' : S} {σ : L2.St} {H H' : Hp}
theorem Ends_.imp {r : R α} {P P' : Fz → List Addr → Hp → S → α → Prop} (h : Ends_ K xc en Wi r F ex s σ H P)
    (q : ∀ F' ex' H' s' a, r = .ok a s' → Rel K F' ex' s' σ H' → Step F ex s σ H F' ex' s' H' → P F' ex' H' s' a → P' F' ex' H' s' a) : Ends_ K xc en Wi r F ex s σ H P' := by
  cases r with
  | ok a t => exact fun F' ex' H' r st => q F' ex' H' t a rfl r st (h F' ex' H' r st)
  | exc c fs t => exact h
  | bad => exact h
/-- seen from a later moment -/
theorem Ends_.later {r : R α} {P : Fz → List Addr → Hp → S → α → Prop} {F1 : Fz} {ex1 : List Addr} {s1 : S} {H1 : Hp} (h : Ends_ K xc en Wi r F ex s σ H P) (st : Step F ex s σ H F1 ex1 s1 H1) : Ends_ K xc en Wi r F1 ex1 s1 σ H1 P := by
  cases r with
  | ok a t => exact fun F2 ex2 H2 r2 st2 => h F2 ex2 H2 r2 (st.trans st2)
  | exc c fs t => exact h
  | bad => exact h
/-- the first of two -/
theorem Ends_.bind {m : M α} {f : α → M β} {t : S} {P : Fz → List Addr → Hp → S → β → Prop} (h : Ends_ K xc en Wi (M.bind m f t) F ex s σ H P) :
    Ends_ K xc en Wi (m t) F ex s σ H fun F1 ex1 H1 s1 a => Ends_ K xc en Wi (f a s1) F ex s σ H P := by
  unfold M.bind at h
  cases e : m t with
  | ok a t =>
    rw [e] at h
    intro F1 ex1 H1 r st
    exact h
  | exc c fs t => rw [e] at h; exact h
  | bad => rw [e] at h; exact h
/-- .. with new frozen things -/
theorem Ends_.new {a : α} {P : Fz → List Addr → Hp → S → α → Prop} {F0 : Fz} {ex0 : List Addr} {s0 : S} {H0 : Hp} (h : Ends_ K xc en Wi (.ok a s) F0 ex0 s0 σ H0 P) (st : Step F0 ex0 s0 σ H0 F ex s H) (r : Rel K F ex s σ H) (n : New F H F' H') : P F' ex H' s a :=
  h F' ex H' (r.new n) (st.trans ⟨n.grow _, List.prefix_refl _, .refl⟩)

theorem pre_get {α : Type} {l l' : List α} (p : l <+: l') {k : Nat} {a : α} (e : l[k]? = some a) : l'[k]? = some a := by
  obtain ⟨t, rfl⟩ := p
  rw [List.getElem?_append_left (List.getElem?_eq_some_iff.mp e).1]
  exact e
/-- an operand's value: it stays while others are made -/
def OV (K : PySem.W.Frag) (F : Fz) (ex : List Addr) (σ : L2.St) (H : Hp) (x : V) : Val → Prop
  | .dat d => Rf K F H x d
  | .ext k => ∃ a, ex[k]? = some a ∧ x = .ref a
  | .loc i => σ[i]? = some (some x)
  | _ => False
theorem OV.step {x : V} {u : Val} (r : Rel K F ex s σ H) (st : Step F ex s σ H F' ex' s' H') (h : OV K F ex σ H x u) : OV K F' ex' σ H' x u := by
  cases u with
  | dat d => exact Rf.mono st.grow.fmono (st.grow.kp r.dj) d h
  | ext k => obtain ⟨a, e, rfl⟩ := h; exact ⟨a, pre_get st.pre e, rfl⟩
  | loc i => exact h
  | own _ => exact h.elim
  | bor _ => exact h.elim
  | scr _ => exact h.elim
/-- read as it stands now: frozen, or somebody's own -/
def RT (K : PySem.W.Frag) (F : Fz) (H : Hp) (x : V) (d : D) : Prop := Rf K F H x d ∨ ∃ a, x = .ref a ∧ Cell K F H a d
theorem OV.peek {x : V} {u : Val} {d : D} (r : Rel K F ex s σ H) (h : OV K F ex σ H x u) (e : peek u s = some d) : RT K F H x d := by
  cases u with
  | dat d' => cases e; exact .inl h
  | ext k =>
    obtain ⟨a, e1, rfl⟩ := h
    obtain ⟨b, e2, _, c⟩ := r.cel k d e
    rw [e1] at e2; cases e2
    exact .inr ⟨a, rfl, c⟩
  | loc i =>
    have h : σ[i]? = some (some x) := h
    have e : (match slot s i with | some (.own d) => some d | some (.bor d) => some d | _ => none) = some d := e
    unfold slot at e
    cases e1 : s.ρ[i]? with
    | none => rw [e1] at e; cases e
    | some o =>
      cases o with
      | none => rw [e1] at e; cases e
      | some v =>
        rw [e1] at e
        obtain ⟨y, e2, so⟩ := r.slot i v e1
        rw [h] at e2; cases e2
        cases v with
        | own d' => cases e; obtain ⟨a, rfl, c, _⟩ := so; exact .inr ⟨a, rfl, c⟩
        | bor d' => cases e; obtain ⟨a, rfl, c, _⟩ := so; exact .inr ⟨a, rfl, c⟩
        | dat _ => cases e
        | ext _ => cases e
        | loc _ => cases e
        | scr _ => cases e
  | own _ => exact h.elim
  | bor _ => exact h.elim
  | scr _ => exact h.elim
end

section
variable {K : PySem.W.Frag} {xc : Xc} {en : Entry xc.T} {Wi : XK} {F F' : Fz} {ex ex' : List Addr} {s s' : S} {σ : L2.St} {H H0 H' : Hp}
/-- a fresh thing is frozen -/
theorem RV.freezes {x : V} {d : D} (r : Rel K F ex s σ H) (h : RV K F ex s σ H0 H x (.own d)) (st : Step F' ex' s' σ H0 F ex s H) :
    ∃ F2, Rel K F2 ex s σ H ∧ Rf K F2 H x d ∧ Step F' ex' s' σ H0 F2 ex s H ∧ ∀ a, F a → F2 a := by
  obtain ⟨a, rfl, c, nf, nm, nb, n0⟩ := h
  refine ⟨fun b => F b ∨ b = a, r.freeze c.there nm nb, (c.mono (fun b f => .inl f) (.of fun _ _ _ _ e => e) fun _ _ e => e).rf (.inr rfl), ⟨⟨fun b u n e m => (st.grow.keep b u n e m).imp .inl, st.grow.dom, fun b f => .inl (st.grow.fmono b f), fun b f => ?_, st.grow.mnew, st.grow.tab⟩, st.pre, st.bo⟩, fun b f => .inl f⟩
  rcases f with f | rfl
  · exact st.grow.fnew b f
  · exact .inr (.inr n0)
/-- an operand -/
theorem TE'.opd {m : M Val} {Q : VK} (h : TE' K xc en Wi (mOpd m) σ H Q) : TE' K xc en Wi m σ H Q := by
  obtain ⟨F, ex, s, r, f, h⟩ := h
  refine ⟨F, ex, s, r, f, ?_⟩
  refine (Ends_.bind (m := m) (f := Ded.opd) h).imp fun F1 ex1 H1 s1 v _ r1 st q x rv => ?_
  cases v with
  | dat d => exact q F1 ex1 H1 r1 st x rv
  | own d =>
    obtain ⟨F2, r2, rf, st2, _⟩ := RV.freezes r1 rv st
    exact q F2 ex1 H1 r2 st2 x rf
  | ext k => exact q F1 ex1 H1 r1 st x rv
  | bor d => exact q.elim
  | loc i => exact q F1 ex1 H1 r1 st x rv
  | scr ns => exact q.elim
/-- an operand's value -/
theorem RV.ov {x : V} {v : Val} {m : M Val} {t : S} {s : S} (e : mOpd m t = .ok v s') (h : RV K F ex s σ H0 H x v) : OV K F ex σ H x v := by
  unfold mOpd M.bind at e
  cases e1 : m t with
  | exc _ _ _ => rw [e1] at e; cases e
  | bad => rw [e1] at e; cases e
  | ok u s2 =>
    rw [e1] at e
    have e : Ded.opd u s2 = .ok v s' := e
    cases u <;> simp only [Ded.opd, M.ret, M.bad] at e <;> first | (cases e; exact h) | cases e
theorem bind_ok {α β : Type} {m : M α} {f : α → M β} {b : β} (e : M.bind m f s = .ok b s') : ∃ a t, m s = .ok a t ∧ f a t = .ok b s' := by
  unfold M.bind at e
  cases e1 : m s with
  | exc _ _ _ => rw [e1] at e; cases e
  | bad => rw [e1] at e; cases e
  | ok a t => rw [e1] at e; exact ⟨a, t, rfl, e⟩
theorem slot_eq {i : Nat} {v : Val} : Ded.slot s i = some v ↔ s.ρ[i]? = some (some v) := by
  unfold Ded.slot
  cases e : s.ρ[i]? with
  | none => simp
  | some o => cases o <;> simp
theorem get_set {α : Type} {l : List α} {i j : Nat} {a b : α} (e : (l.set i a)[j]? = some b) : (i = j ∧ a = b) ∨ (i ≠ j ∧ l[j]? = some b) := by
  by_cases h : i = j
  · subst h
    by_cases hl : i < l.length
    · rw [List.getElem?_set_self hl] at e; cases e; exact .inl ⟨rfl, rfl⟩
    · rw [List.getElem?_eq_none (by simpa using hl)] at e; cases e
  · rw [List.getElem?_set_ne h] at e; exact .inr ⟨h, e⟩
/-- one's own slot is frozen -/
theorem frz_slot {i : Nat} {d : D} {x : V} (r : Rel K F ex s σ H) (e : Ded.slot s i = some (.own d)) (hx : σ[i]? = some (some x)) :
    ∃ F2, Rel K F2 ex (setSlot s i (.dat d)) σ H ∧ Rf K F2 H x d ∧ Step F ex s σ H F2 ex (setSlot s i (.dat d)) H := by
  have e' := slot_eq.mp e
  obtain ⟨y, e2, a, rfl, c, nf, nx⟩ := r.slot i _ e'
  rw [hx] at e2; cases e2
  have hF : ∀ b, F b → (fun b => F b ∨ b = a) b := fun b f => .inl f
  have kp : Kp F H H := .of fun _ _ _ _ e => e
  have rf : Rf K (fun b => F b ∨ b = a) H (.ref a) d := (c.mono hF kp fun _ _ e => e).rf (.inr rfl)
  have ow : ∀ b, Ow (setSlot s i (.dat d)).ρ σ b → Ow s.ρ σ b := fun b ⟨j, d', e3, e4⟩ => by
    rcases get_set e3 with ⟨_, z⟩ | ⟨_, z⟩
    · cases z
    · exact ⟨j, d', z, e4⟩
  refine ⟨fun b => F b ∨ b = a, ⟨by simp [setSlot, r.len], fun j v e3 => ?_, fun j k d1 d2 b e3 e4 => ?_, fun j d1 b e3 e4 o => ?_, r.exl, r.exd, fun k d1 e3 => ?_, fun b f => f.elim (r.fdom b) fun z => by subst z; exact c.there⟩, rf, ⟨⟨fun _ _ _ e _ => .inl e, fun _ o e => ⟨o, e⟩, hF, fun b f => f.elim .inl fun z => .inr (.inl (.inr ⟨i, d, e', by rw [z]; exact hx⟩)), fun b m => m.elim (fun m => .inl (.inl m)) fun m => .inl (.inr (ow b m)), fun t => t⟩, List.prefix_refl _, .set fun _ => by simp⟩⟩
  · rcases get_set e3 with ⟨rfl, z⟩ | ⟨hne, z⟩
    · cases z
      exact ⟨_, hx, rf⟩
    · obtain ⟨x, e4, h⟩ := r.slot j v z
      refine ⟨x, e4, ?_⟩
      cases v with
      | dat d => exact Rf.mono hF kp d h
      | own d' =>
        obtain ⟨b, rfl, c, nf, nx⟩ := h
        exact ⟨b, rfl, c.mono hF kp fun _ _ e => e, fun f => f.elim nf fun q => hne (r.sep i j d d' a e' z hx (by rw [← q]; exact e4)), nx⟩
      | ext k => exact h
      | bor d2 =>
        obtain ⟨b, rfl, c, nf, nx⟩ := h
        exact ⟨b, rfl, c.mono hF kp fun _ _ e => e, fun f => f.elim nf fun q => r.lent j d2 b z e4 ⟨i, d, e', by rw [q]; exact hx⟩, nx⟩
      | loc _ => exact h.elim
      | scr ns => exact h
  · rcases get_set e3 with ⟨_, z⟩ | ⟨_, z⟩
    · cases z
    · rcases get_set e4 with ⟨_, z'⟩ | ⟨_, z'⟩
      · cases z'
      · exact r.sep j k d1 d2 b z z'
  · rcases get_set e3 with ⟨_, z⟩ | ⟨_, z⟩
    · cases z
    · exact r.lent j d1 b z e4 (ow b o)
  · obtain ⟨b, e4, nf, c⟩ := r.cel k d1 e3
    exact ⟨b, e4, fun f => f.elim nf fun q => nx (by rw [← q]; exact List.mem_of_getElem? e4), c.mono hF kp fun _ _ e => e⟩
/-- frozen -/
theorem TE'.frz {m : M Val} {Q : VK} (h : TE' K xc en Wi (M.bind (mFrz m) fun d => M.ret (.dat d)) σ H Q) : TE' K xc en Wi m σ H Q := by
  obtain ⟨F, ex, s, r, f, h⟩ := h
  refine ⟨F, ex, s, r, f, ?_⟩
  have h := Ends_.bind (m := mFrz m) h
  refine (Ends_.bind (m := m) (f := Ded.freeze) h).imp fun F1 ex1 H1 s1 v _ r1 st q x rv => ?_
  cases v with
  | dat d => exact q F1 ex1 H1 r1 st F1 ex1 H1 r1 st x rv
  | own d =>
    obtain ⟨F2, r2, rf, st2, _⟩ := RV.freezes r1 rv st
    exact q F2 ex1 H1 r2 st2 F2 ex1 H1 r2 st2 x rf
  | ext k => exact q.elim
  | bor d => exact q.elim
  | loc i =>
    have q : Ends_ K xc en Wi (match Ded.slot s1 i with | some (.own d) => R.ok d (setSlot s1 i (.dat d)) | _ => .bad) F ex s σ H _ := q
    cases e : Ded.slot s1 i with
    | none => rw [e] at q; exact q.elim
    | some w =>
      rw [e] at q
      cases w <;> first | exact q.elim | skip
      rename_i d
      obtain ⟨F2, r2, rf, st2⟩ := frz_slot r1 e rv
      exact q F2 ex1 H1 r2 (st.trans st2) F2 ex1 H1 r2 (st.trans st2) x rf
  | scr ns => exact q.elim
/-- what an operation hands on: all else is as it was -/
def ResOk (K : PySem.W.Frag) (F : Fz) (H : Hp) (res : Val) (x : V) (F' : Fz) (H' : Hp) : Prop := New F H F' H' ∧ match res with
  | .dat d => Rf K F' H' x d
  | .own d => ∃ p, x = .ref p ∧ H p = none ∧ ¬ F' p ∧ Cell K F' H' p d
  | _ => False
theorem ResOk.rv {F0 : Fz} {ex0 : List Addr} {s0 : S} {res : Val} {x : V} (r : Rel K F ex s σ H) (st : Step F0 ex0 s0 σ H0 F ex s H) (h : ResOk K F H res x F' H') : RV K F' ex s σ H0 H' x res := by
  obtain ⟨n, h⟩ := h
  cases res with
  | dat d => exact h
  | own d =>
    obtain ⟨p, rfl, hp, nf, c⟩ := h
    refine ⟨p, rfl, c, nf, fun m => ?_, fun m => ?_, st.grow.none hp⟩
    · obtain ⟨o, e⟩ := r.mdom m
      rw [hp] at e; cases e
    · obtain ⟨o, e⟩ := r.bo m
      rw [hp] at e; cases e
  | ext _ => exact h.elim
  | bor _ => exact h.elim
  | loc _ => exact h.elim
  | scr _ => exact h.elim
/-- what is known where an operation is done -/
def rOp2 (K : PySem.W.Frag) (g : D → D → Option Val) : R2 := fun x y H Q => ∃ F dx dy res, (∀ a, F a → ∃ o, H a = some o) ∧ RT K F H x dx ∧ RT K F H y dy ∧ g dx dy = some res ∧ ∀ x' F' H', ResOk K F H res x' F' H' → Q x' H'
def rOp1 (K : PySem.W.Frag) (g : D → Option Val) : V → Hp → VK → Prop := fun x H Q => ∃ F dx res, (∀ a, F a → ∃ o, H a = some o) ∧ RT K F H x dx ∧ g dx = some res ∧ ∀ x' F' H', ResOk K F H res x' F' H' → Q x' H'
theorem Ends_.peek' {β : Type} {u : Val} {f : D → M β} {F0 : Fz} {ex0 : List Addr} {s0 : S} {H0 : Hp} {P : Fz → List Addr → Hp → S → β → Prop} (h : Ends_ K xc en Wi (M.bind (peekM u) f s) F0 ex0 s0 σ H0 P) : ∃ d, Ded.peek u s = some d ∧ Ends_ K xc en Wi (f d s) F0 ex0 s0 σ H0 P := by
  unfold M.bind Ded.peekM at h
  cases e : Ded.peek u s with
  | none => rw [e] at h; exact h.elim
  | some d => rw [e] at h; exact ⟨d, rfl, h⟩
theorem Ends_.opt {β : Type} {o : Option β} {F0 : Fz} {ex0 : List Addr} {s0 : S} {H0 : Hp} {P : Fz → List Addr → Hp → S → β → Prop} (h : Ends_ K xc en Wi (M.opt o s) F0 ex0 s0 σ H0 P) : ∃ d, o = some d ∧ Ends_ K xc en Wi (.ok d s) F0 ex0 s0 σ H0 P := by
  cases o with
  | none => exact h.elim
  | some d => exact ⟨d, rfl, h⟩
theorem Ends_.optb {α β : Type} {o : Option α} {f : α → M β} {F0 : Fz} {ex0 : List Addr} {s0 : S} {H0 : Hp} {P : Fz → List Addr → Hp → S → β → Prop} (h : Ends_ K xc en Wi (M.bind (M.opt o) f s) F0 ex0 s0 σ H0 P) : ∃ d, o = some d ∧ Ends_ K xc en Wi (f d s) F0 ex0 s0 σ H0 P := by
  cases o with
  | none => exact h.elim
  | some d => exact ⟨d, rfl, h⟩
/-- an operation's end -/
theorem Ends_.res {res : Val} {Q : VK} {F0 : Fz} {ex0 : List Addr} {s0 : S} {H0 H00 : Hp} (h : Ends_ K xc en Wi (.ok res s) F0 ex0 s0 σ H0 fun F' ex' H' s' v => ∀ x, RV K F' ex' s' σ H00 H' x v → Q x H') (r : Rel K F ex s σ H) (st : Step F0 ex0 s0 σ H0 F ex s H)
    (h00 : ∀ a, H0 a = none → H00 a = none) : ∀ x' F' H', ResOk K F H res x' F' H' → Q x' H' := fun x' F' H' q => by
  refine h.new st r q.1 x' ?_
  have rv := q.rv r st
  cases res with
  | own d => obtain ⟨p, e, c, a, b, c', z⟩ := rv; exact ⟨p, e, c, a, b, c', h00 p z⟩
  | _ => exact rv
/-- two operands -/
theorem TE'.two {m n : M Val} {g : D → D → Option Val} {Q : VK} (h : TE' K xc en Wi (mTwo m n g) σ H Q) : TE' K xc en Wi m σ H fun x H1 => TE' K xc en Wi n σ H1 fun y H2 => rOp2 K g x y H2 Q := by
  refine TE'.opd ?_
  obtain ⟨F, ex, s, r, fr, h⟩ := h
  refine ⟨F, ex, s, r, fr, ?_⟩
  refine (Ends_.bind (m := mOpd m) h).imp fun F1 ex1 H1 s1 u e1 r1 st1 q x rv => ?_
  have ov : OV K F1 ex1 σ H1 x u := RV.ov e1 rv
  refine TE'.opd ⟨F1, ex1, s1, r1, fr.step st1, ?_⟩
  refine ((Ends_.bind (m := mOpd n) (s := s1) (F := F1) (ex := ex1) (H := H1) (q.later st1))).imp fun F2 ex2 H2 s2 v e2 r2 st2 q2 y rv2 => ?_
  have ov2 : OV K F2 ex2 σ H2 y v := RV.ov e2 rv2
  have ov1 := ov.step r1 st2
  obtain ⟨dx, p1, q2⟩ := q2.peek'
  obtain ⟨dy, p2, q2⟩ := q2.peek'
  obtain ⟨res, p3, q2⟩ := q2.opt
  exact ⟨F2, dx, dy, res, r2.fdom, ov1.peek r2 p1, ov2.peek r2 p2, p3, q2.res r2 st2 fun a z => st1.grow.none z⟩
theorem TE'.one {m : M Val} {g : D → Option Val} {Q : VK} (h : TE' K xc en Wi (mOne m g) σ H Q) : TE' K xc en Wi m σ H fun x H1 => rOp1 K g x H1 Q := by
  refine TE'.opd ?_
  obtain ⟨F, ex, s, r, fr, h⟩ := h
  refine ⟨F, ex, s, r, fr, ?_⟩
  refine (Ends_.bind (m := mOpd m) h).imp fun F1 ex1 H1 s1 u e1 r1 st1 q x rv => ?_
  have ov : OV K F1 ex1 σ H1 x u := RV.ov e1 rv
  obtain ⟨dx, p1, q2⟩ := q.peek'
  obtain ⟨res, p3, q2⟩ := q2.opt
  exact ⟨F1, dx, res, r1.fdom, ov.peek r1 p1, p3, q2.res r1 st1 fun a z => z⟩
end
end Ded
end

section
set_option Elab.async false
set_option linter.all false
set_option maxRecDepth 100000
set_option maxHeartbeats 2000000
/-! A tuple taken once. -/
namespace Ded
open PySem PySem.Spec PyProof.Rows L2
theorem once_meets (l : Addr) (its : Array Value) (n : Nat) (dd : Option Addr) (sl : Array (Option Value)) (u : Tok) :
    Meets (Builtin.«tuple.__mul__» ⟨[.ref l, .int 1 u], []⟩) (fun _ R s => s.heap.get? l = some { cls := .type "tuple", dict := dd, data := .seq its n, slots := sl } ∧ R (.ok (.ret (.ref l))) s) :=
  .of_wp fun prog w A R s z => by
    obtain ⟨hh, gg, d, tk, oo⟩ := s
    obtain ⟨zl, z⟩ := z
    have ix := AutoSeq1.idx_int
    have c0 : (decide ((1 : Int) < -(2 ^ 63)) || decide ((1 : Int) ≥ 2 ^ 63)) = false := by decide
    have c1 : (its.isEmpty || ((1 : Int) == 1)) = true := by simp
    wp_walk using AutoSeq1.wpAny_loadPart' zl
    exact ⟨_, rfl, z⟩
theorem op_once {X : Cx} : OpR X (binaryOp .Mult) (fun x y H Q => ∃ l xs, x = .ref l ∧ y = .int 1 ∧ SqT X.K H l xs ∧ Q (.ref l) H) := by
  intro pins s σ H x y v u Q I rx ry h
  obtain ⟨l, xs, rfl, rfl, hT, q⟩ := h
  cases rx
  obtain ⟨t, rfl⟩ := ry
  obtain ⟨its, r, ⟨⟨cls, dd, data, sl⟩, ho, hc, n, hd⟩, hs⟩ := I.tuple hT
  simp only at hc hd
  subst hc hd
  refine wpAny_binaryOp_repeat_ref (T := "tuple") (U := "int") (by decide) ⟨_, ho, rfl⟩ (fun s' => typeIs_int s' 1 t) noFill_tuple_mul F.fills_int_mul F.slot_int_rmul repeat_tuple F.slot_int_index.lookup
    (call_meets F.slot_int_rmul (typeIs_int s 1 t) F.entry_int_rmul (F.args_int_rmul_2 _ _) (int_rmul_tuple 1 t l its.toArray n dd sl) ⟨ho, rfl, ⟨_, ho, rfl⟩, ?_⟩)
  exact call_meets F.slot_tuple_mul ⟨_, ho, rfl⟩ F.entry_tuple_mul (F.args_tuple_mul_2 _ _) (once_meets l its.toArray n dd sl t) ⟨ho, .ref l, H, I, rfl, q⟩
end Ded
end

section
set_option Elab.async false
set_option linter.all false
set_option maxRecDepth 100000
set_option maxHeartbeats 2000000
/-! New tuples, known to bear no dict. -/
namespace Ded
open PySem PySem.Spec PyProof.Rows L2
/-- whatever new tuple it is -/
def PlQ (H : Hp) (vs : List V) (Q : VK) : Prop := ∀ p o, H p = none → o.dict = none → Q (.ref p) (upd H p (.frz o (.tup vs)))
section
variable {X : Cx} {pins : List (Addr × Obj)} {σ : L2.St} {H : Hp} {s : Shared} {vs : List V} {us : List Value} {Q : VK}
theorem plain_new (I : Inv X pins σ H s) (rv : Vals vs us) (hz : vs.length ≤ sizeLine) {tk : Nat} :
    Inv X pins σ (upd H s.heap.objs.size (.frz { cls := .type "tuple", data := .seq us.toArray } (.tup vs))) { s with heap := s.heap.push { cls := .type "tuple", data := .seq us.toArray }, toks := tk } := by
  refine I.laid (fun b u e => Heap.get?_push_of_some _ e) (Nat.le_refl _) ?_
  exact ⟨Heap.get?_push_size _ rfl, hz, us, rv, IsTup.new _ _⟩
theorem plain_end (I : Inv X pins σ H s) (rv : Vals vs us) (hz : vs.length ≤ sizeLine) {tk : Nat} (q : PlQ H vs Q) :
    EP X pins σ Q (.ref s.heap.objs.size) { s with heap := s.heap.push { cls := .type "tuple", data := .seq us.toArray }, toks := tk } :=
  ⟨.ref s.heap.objs.size, _, plain_new I rv hz, rfl, q _ _ (I.hok.fresh (Nat.le_refl _)) rfl⟩
end
section
variable {X : Cx}
/-! the sum of two -/
def rCatP (K : PySem.W.Frag) : R2 := fun x y H Q => ∃ a b vs ws, x = .ref a ∧ y = .ref b ∧ SqT K H a vs ∧ SqT K H b ws ∧ vs.length + ws.length ≤ sizeLine ∧ (vs = [] → Q (.ref b) H) ∧ (vs ≠ [] → ws = [] → Q (.ref a) H) ∧ (vs ≠ [] → ws ≠ [] → PlQ H (vs ++ ws) Q)
theorem op_catP : OpR X (binaryOp .Add) (rCatP X.K) := by
  intro pins s σ H x y v u Q I rx ry h
  obtain ⟨a, b, vs, ws, e1, e2, sa, sb, z, q0, q1, q2⟩ := h
  by_cases hv : vs = []
  · exact op_catA pins s σ H x y v u Q I rx ry ⟨a, b, vs, ws, e1, e2, sa, sb, z, q0, q1, fun n => absurd hv n⟩
  · subst e1 e2
    cases rx; cases ry
    obtain ⟨i1, r1, t1, _⟩ := I.tuple sa
    obtain ⟨i2, r2, t2, _⟩ := I.tuple sb
    have z' : i1.length + i2.length ≤ sizeLine := by rw [← r1.length, ← r2.length]; exact z
    have n1 : i1 ≠ [] := fun n => hv (r1.nil_iff.mp n)
    refine HT.cat_tup t1 t2 n1 (fun n => ⟨.ref a, H, I, rfl, q1 hv (r2.nil_iff.mp n)⟩) (fun n => ?_) z'
    exact plain_end I (r1.append r2) (by rw [List.length_append]; exact z) (tk := s.toks) (q2 hv fun m => n (r2.nil_iff.mpr m))
/-! a part -/
def rSlP (K : PySem.W.Frag) : V → Option Int → Option Int → Hp → VK → Prop := fun x lo hi H Q => ∃ a vs, x = .ref a ∧ SqT K H a vs ∧ (HT.sIx vs.length 0 lo = 0 ∧ HT.sIx vs.length vs.length hi = vs.length → Q (.ref a) H) ∧ (¬ (HT.sIx vs.length 0 lo = 0 ∧ HT.sIx vs.length vs.length hi = vs.length) → PlQ H (cutV vs lo hi) Q)
theorem sl_tupP : SlR X (rSlP X.K) := by
  intro pins s σ H x v vl vu lo hi sl Q I rx hs pl pu h
  obtain ⟨a, vs, e, sa, q0, q1⟩ := h
  by_cases hw : HT.sIx vs.length 0 lo = 0 ∧ HT.sIx vs.length vs.length hi = vs.length
  · exact sl_tupA pins s σ H x v vl vu lo hi sl Q I rx hs pl pu ⟨a, vs, e, sa, q0, fun n => absurd hw n⟩
  · subst e
    cases rx
    obtain ⟨i1, r1, t1, z⟩ := I.tuple sa
    have ln : vs.length = i1.toArray.size := r1.length
    refine ⟨"tuple", _, PyProof.Rows.slot_tuple_getitem.lookup, t1.typeIs, HT.getItem_tuple_cut t1 hs pl pu (ln ▸ hw) ?_ (ln ▸ z)⟩
    rw [← ln]
    have rc : Vals (cutV vs lo hi) ((i1.toArray.toList.drop (HT.sIx vs.length 0 lo)).take (HT.sIx vs.length vs.length hi - HT.sIx vs.length 0 lo)) := (r1.drop _).take _
    exact plain_end I rc (Nat.le_trans (cutV_length vs lo hi) z) (tk := s.toks) (q1 hw)
/-! tuple(x) -/
theorem call_tupleP : CallR X (.type "tuple") (fun xs H Q => ∃ p ys, xs = [.ref p] ∧ ((SqL X.K H p ys ∧ PlQ H ys Q) ∨ (SqT X.K H p ys ∧ Q (.ref p) H))) := by
  intro pins s σ H xs us Q I r h
  obtain ⟨p, ys, e, h⟩ := h
  rcases h with ⟨sq, q⟩ | h
  · subst e
    obtain ⟨u, rfl, ru⟩ := vals1 r
    cases ru
    obtain ⟨i1, r1, l1, z⟩ := I.list sq
    have z1 : i1.toArray.size ≤ sizeLine := by rw [List.size_toArray, ← r1.length]; exact z
    exact call_tuple_list l1.isList (fun h' k => plain_end (I.kept (t' := s.toks) k) r1 z (tk := s.toks) q) z1
  · exact call_tuple_of pins s σ H xs us Q I r ⟨p, ys, e, .inr h⟩
/-! a display -/
def tTupP (t : TA) : TE := fun σ H Q => t σ H fun vs H1 => vs.length ≤ sizeLine ∧ PlQ H1 vs Q
theorem pe_tupP {es : List Expr} {t : TA} {k : Nat} {pos : Pos} (h : PA X es t) : PE X (.Tuple es k pos) (tTupP t) := by
  refine ⟨fun pins s σ H Q I q => wpAny_Tuple_spliced (thn (h.run pos pins s σ H _ I q) ?_)⟩
  rintro us s1 ⟨vs, H1, I1, r, z, q1⟩
  exact ⟨r.length ▸ z, plain_end I1 r z (tk := s1.toks) q1⟩
/-! several times -/
def rRepP (K : PySem.W.Frag) : R2 := fun x y H Q => ∃ l k vs, x = .ref l ∧ y = .int k ∧ SqT K H l vs ∧ vs ≠ [] ∧ 2 ≤ k ∧ k ≤ 1000 ∧ vs.length ≤ 1000 ∧ PlQ H (List.replicate k.toNat vs).flatten Q
theorem op_repP : OpR X (binaryOp .Mult) (rRepP X.K) := by
  intro pins s σ H x y v u Q I rx ry h
  obtain ⟨l, k, vs, e1, e2, sa, ne, k2, km, lm, q⟩ := h
  subst e1 e2
  cases rx
  obtain ⟨t, rfl⟩ := ry
  obtain ⟨i1, r1, tu, _⟩ := I.tuple sa
  obtain ⟨⟨cl, dd, da, sl⟩, ho, hc, n, hd⟩ := tu
  dsimp only at hc hd
  cases hc; cases hd
  have sz1 : i1.toArray.size = vs.length := (List.size_toArray ..).trans r1.length.symm
  have pos : 0 < vs.length := List.length_pos_iff.mpr ne
  have emp : i1.toArray.isEmpty = false := by
    rw [Array.isEmpty_eq_false_iff, Ne, ← Array.size_eq_zero_iff, sz1]
    exact Nat.ne_of_gt pos
  have prod : ((i1.toArray.size : Nat) : Int) * k ≤ 1000000 := by
    have b1 := Int.mul_le_mul (a := ((i1.toArray.size : Nat) : Int)) (b := k) (c := 1000) (d := 1000) (by omega) km (by omega) (by omega)
    omega
  have len : ∀ {α : Type} (w : List α), w.length = vs.length → (List.replicate k.toNat w).flatten.length ≤ sizeLine := fun w e => by
    rw [PyProof.Rows.lm_len_rep_flat, sizeLine_eq, e]
    have b1 : k.toNat * vs.length ≤ 1000 * 1000 := Nat.mul_le_mul (by omega) lm
    omega
  have many : Builtin.Tuple.tupleTooMany (((i1.toArray.size : Nat) : Int) * k) = false := by
    unfold Builtin.Tuple.tupleTooMany
    rw [sizeLine_eq, decide_eq_false_iff_not]
    omega
  have g0 : (decide (k < -(2 ^ 63)) || decide (k ≥ 2 ^ 63)) = false := by
    rw [Bool.or_eq_false_iff, decide_eq_false_iff_not, decide_eq_false_iff_not]
    omega
  have g1 : (i1.toArray.isEmpty || k == 1) = false := by
    rw [Bool.or_eq_false_iff, beq_eq_false_iff_ne]
    exact ⟨emp, by omega⟩
  have g2 : (decide (k ≤ 0) || i1.toArray.isEmpty) = false := by
    rw [Bool.or_eq_false_iff, decide_eq_false_iff_not]
    exact ⟨by omega, emp⟩
  have big : ¬ ((i1.toArray.size : Nat) : Int) * k > (2 ^ 63 - 1) / 8 := by omega
  have tt : s.TypeIs (.ref l) "tuple" := ⟨_, ho, rfl⟩
  have last : (List.foldl (fun x1 x2 => x1 ++ x2) #[] (List.replicate k.toNat i1.toArray)).size ≤ sizeLine := by
    rw [size_rep, List.size_toArray]
    exact len i1 r1.length.symm
  have goal := plain_end I (r1.rep k.toNat) (len vs rfl) (tk := s.toks) q
  rw [← size_rep] at goal
  have inner := call_meets F.slot_tuple_mul (prog := X.prog) (w := X.w) (A := X.A) (E := X.xe) tt F.entry_tuple_mul (F.args_tuple_mul_2 _ _) (tuple_mulW l i1.toArray n dd sl k t g0 g1 g2 big many last) ⟨ho, goal⟩
  exact wpAny_binaryOp_repeat_ref (T := "tuple") (U := "int") (by decide) tt (fun _ => typeIs_int _ k t) noFill_tuple_mul F.fills_int_mul F.slot_int_rmul repeat_tuple F.slot_int_index.lookup
    (call_meets F.slot_int_rmul (typeIs_int s k t) F.entry_int_rmul (F.args_int_rmul_2 _ _) (int_rmul_tuple k t l i1.toArray n dd sl) ⟨ho, rfl, tt, inner⟩)
end
end Ded
end

section
set_option Elab.async false
set_option linter.all false
set_option maxRecDepth 100000
/-! The operations do what the evaluator says. -/
namespace Ded
open PySem L2
variable [TabName]
section
variable {K : PySem.W.Frag} {F F' : Fz} {H H' : Hp} {x y : V}
theorem rt_int {i : Int} (h : RT K F H x (.int i)) : x = .int i := by
  rcases h with h | ⟨a, _, c⟩
  · cases h; rfl
  · exact c.elim
theorem rt_bool {i : Bool} (h : RT K F H x (.bool i)) : x = .bl i := by
  rcases h with h | ⟨a, _, c⟩
  · cases h; rfl
  · exact c.elim
theorem rt_none (h : RT K F H x .none) : x = .non := by
  rcases h with h | ⟨a, _, c⟩
  · cases h; rfl
  · exact c.elim
theorem rt_str {i : Str} (h : RT K F H x (.str i)) : x = .str i := by
  rcases h with h | ⟨a, _, c⟩
  · cases h; rfl
  · exact c.elim
theorem rt_list {ds : List D} (h : RT K F H x (.list ds)) : ∃ a xs, x = .ref a ∧ H a = some (.lst xs) ∧ xs.length ≤ sizeLine ∧ RfA K F H xs ds := by
  rcases h with h | ⟨a, e, c⟩
  · cases h with
    | lst f e z r => exact ⟨_, _, rfl, e, z, r⟩
  · obtain ⟨xs, e1, z, r⟩ := c
    exact ⟨a, xs, e, e1, z, r⟩
theorem rt_tup {ds : List D} (h : RT K F H x (.tuple ds)) : ∃ a xs, x = .ref a ∧ F a ∧ Pl H a xs ∧ xs.length ≤ sizeLine ∧ RfA K F H xs ds := by
  rcases h with h | ⟨a, e, c⟩
  · cases h with
    | tup f e z r => exact ⟨_, _, rfl, f, e, z, r⟩
  · exact c.elim
theorem rt_dict {es : List (D × D)} (h : RT K F H x (.dict es)) : ∃ a kvs, x = .ref a ∧ Rd H a (.dK kvs) ∧ RfK K F H kvs es := by
  rcases h with h | ⟨a, e, c⟩
  · cases h with
    | dct f e r => exact ⟨_, _, rfl, e, r⟩
  · obtain ⟨kvs, e1, r⟩ := c
    exact ⟨a, kvs, e, .inl e1, r⟩
theorem rt_dp {d : D} (c : d.canLay0 = true) (h : RT K F H x d) : Dp K H x d := by
  rcases h with h | ⟨a, rfl, q⟩
  · exact Rf.dp d c h
  · cases d with
    | list ds =>
      obtain ⟨xs, e, z, r⟩ := q
      exact .lst (SqL.of e) (RfA.dp ds (by simpa only [PyData.canLay0] using c) r)
    | dict es => simp [PyData.canLay0] at c
    | none => exact q.elim
    | bool _ => exact q.elim
    | int _ => exact q.elim
    | str _ => exact q.elim
    | tuple _ => exact q.elim
/-- results that are no objects -/
theorem ResOk.atom {d : D} {v : V} (hF : ∀ a, F a → ∃ o, H a = some o) (h : ∀ F H, Rf K F H v d) : ResOk K F H (.dat d) v F H := ⟨New.refl hF, h F H⟩
theorem ResOk.old {d : D} {v : V} (hF : ∀ a, F a → ∃ o, H a = some o) (h : Rf K F H v d) : ResOk K F H (.dat d) v F H := ⟨New.refl hF, h⟩
theorem ResOk.lst {xs : List V} {ds : List D} {p : Addr} (hF : ∀ a, F a → ∃ o, H a = some o) (hp : H p = none) (z : xs.length ≤ sizeLine) (r : RfA K F H xs ds) : ResOk K F H (.own (.list ds)) (.ref p) F (upd H p (.lst xs)) := by
  have n := New.own hF hp (.lst xs)
  refine ⟨n, p, rfl, hp, fun f => ?_, xs, upd_same, z, RfA.mono (fun _ f => f) n.kp ds r⟩
  obtain ⟨o, e⟩ := hF p f
  rw [hp] at e; cases e
theorem ResOk.tup {xs : List V} {ds : List D} {p : Addr} {o : Obj} (hF : ∀ a, F a → ∃ o, H a = some o) (hp : H p = none) (hd : o.dict = none) (z : xs.length ≤ sizeLine) (r : RfA K F H xs ds) : ResOk K F H (.dat (.tuple ds)) (.ref p) (fun a => F a ∨ a = p) (upd H p (.frz o (.tup xs))) := by
  have n := New.frz hF hp (.frz o (.tup xs))
  exact ⟨n, .tup (.inr rfl) (Pl.new hd) z (RfA.mono n.fmono n.kp ds r)⟩
theorem ResOk.dK {kvs : List (Key × V)} {es : List (D × D)} {p : Addr} (hF : ∀ a, F a → ∃ o, H a = some o) (hp : H p = none) (r : RfK K F H kvs es) : ResOk K F H (.own (.dict es)) (.ref p) F (upd H p (.dK kvs)) := by
  have n := New.own hF hp (.dK kvs)
  refine ⟨n, p, rfl, hp, fun f => ?_, kvs, upd_same, RfK.mono (fun _ f => f) n.kp es r⟩
  obtain ⟨o, e⟩ := hF p f
  rw [hp] at e; cases e
end

def Bop.op : Bop → Operator
  | .add => .Add | .sub => .Sub | .mul => .Mult | .fdiv => .FloorDiv | .mod => .Mod | .pow => .Pow
section
variable {X : Cx}
theorem op_bin (o : Bop) : OpR X (binaryOp o.op) (rOp2 X.K (binD o)) := by
  intro pins s σ H x y v u Q I rx ry h
  obtain ⟨F, dx, dy, res, hF, hx, hy, e, q⟩ := h
  unfold binD at e
  split at e
  · cases rt_int hx; cases rt_int hy; cases e
    exact op_add pins s σ H _ _ v u Q I rx ry ⟨_, _, rfl, rfl, q _ _ _ (ResOk.atom hF fun _ _ => .int _)⟩
  · cases rt_str hx; cases rt_str hy
    split at e <;> cases e
    exact op_add_str pins s σ H _ _ v u Q I rx ry ⟨_, _, rfl, rfl, by assumption, q _ _ _ (ResOk.atom hF fun _ _ => .str _)⟩
  · split at e <;> cases e
    rename_i hz
    obtain ⟨a, xs, rfl, ea, za, ra⟩ := rt_list hx
    obtain ⟨b, ys, rfl, eb, zb, rb⟩ := rt_list hy
    have hz2 : xs.length + ys.length ≤ sizeLine := by rw [ra.length, rb.length]; exact hz
    exact op_cat pins s σ H _ _ v u Q I rx ry ⟨_, _, xs, ys, rfl, rfl, ea, eb, hz2, fun p hp => q _ _ _ (ResOk.lst hF hp (by rw [List.length_append]; exact hz2) (ra.append rb))⟩
  · split at e <;> cases e
    rename_i hz
    obtain ⟨a, xs, rfl, fa, ea, za, ra⟩ := rt_tup hx
    obtain ⟨b, ys, rfl, fb, eb, zb, rb⟩ := rt_tup hy
    have hz2 : xs.length + ys.length ≤ sizeLine := by rw [ra.length, rb.length]; exact hz
    refine op_catP pins s σ H _ _ v u Q I rx ry ⟨_, _, xs, ys, rfl, rfl, ea.sq, eb.sq, hz2, fun e => ?_, fun _ e => ?_, fun _ _ p o hp hd => q _ _ _ (ResOk.tup hF hp hd (by rw [List.length_append]; exact hz2) (ra.append rb))⟩
    · subst e
      cases ra
      exact q _ _ _ (ResOk.old hF (.tup fb eb zb rb))
    · subst e
      cases rb
      exact q _ _ _ (ResOk.old hF (by rw [List.append_nil]; exact .tup fa ea za ra))
  · cases rt_int hx; cases rt_int hy; cases e
    exact op_sub pins s σ H _ _ v u Q I rx ry ⟨_, _, rfl, rfl, q _ _ _ (ResOk.atom hF fun _ _ => .int _)⟩
  · obtain ⟨a, ys, rfl, fa, ea, za, ra⟩ := rt_tup hx
    cases rt_int hy
    split at e <;> cases e
    rename_i hm
    obtain ⟨h1, h2, h3, h4⟩ := hm
    have lx : ys.length = _ := ra.length
    rename_i j
    by_cases one : j = 1
    · subst one
      refine op_once pins s σ H _ _ v u Q I rx ry ⟨a, ys, rfl, rfl, ea.sq, q _ _ _ (ResOk.old hF ?_)⟩
      have e1 : ∀ zs : List D, (List.replicate (1 : Int).toNat zs).flatten = zs := fun zs => by
        show (List.replicate 1 zs).flatten = zs
        rw [List.replicate_one, List.flatten_singleton]
      rw [e1]
      exact .tup fa ea za ra
    · have lf : ∀ {α : Type} (zs : List α), zs.length ≤ 1000 → (List.replicate j.toNat zs).flatten.length ≤ sizeLine := fun zs hz => by
        rw [PyProof.Rows.lm_len_rep_flat, sizeLine_eq]
        have a1 : j.toNat * zs.length ≤ 1000 * 1000 := Nat.mul_le_mul (by omega) hz
        omega
      refine op_repP pins s σ H _ _ v u Q I rx ry ⟨a, j, ys, rfl, rfl, ea.sq, fun z => ?_, by omega, h2, by omega, fun p o hp hd => q _ _ _ (ResOk.tup hF hp hd (lf ys (by omega)) ?_)⟩
      · rw [z] at lx
        rw [← lx] at h4
        exact Nat.lt_irrefl _ h4
      · generalize j.toNat = m
        induction m with
        | zero => exact .nil
        | succ m ih => rw [List.replicate_succ, List.replicate_succ, List.flatten_cons, List.flatten_cons]; exact ra.append ih
  · cases rt_int hx; cases rt_int hy
    split at e <;> cases e
    rename_i hm
    exact op_mul pins s σ H _ _ v u Q I rx ry ⟨_, _, rfl, rfl, by unfold fitsMul at hm; unfold CMul; exact of_decide_eq_true hm, q _ _ _ (ResOk.atom hF fun _ _ => .int _)⟩
  · cases rt_int hx; cases rt_int hy
    split at e <;> cases e
    rename_i hm
    exact op_fdiv pins s σ H _ _ v u Q I rx ry ⟨_, _, rfl, rfl, hm, q _ _ _ (ResOk.atom hF fun _ _ => .int _)⟩
  · cases rt_int hx; cases rt_int hy
    split at e <;> cases e
    rename_i hm
    exact op_mod pins s σ H _ _ v u Q I rx ry ⟨_, _, rfl, rfl, hm, q _ _ _ (ResOk.atom hF fun _ _ => .int _)⟩
  · cases rt_int hx; cases rt_int hy
    split at e <;> cases e
    rename_i hm
    exact op_pow pins s σ H _ _ v u Q I rx ry ⟨_, _, rfl, rfl, hm, q _ _ _ (ResOk.atom hF fun _ _ => .int _)⟩
  · obtain ⟨a, ys, rfl, ea, za, ra⟩ := rt_list hx
    cases rt_int hy
    split at e <;> cases e
    rename_i hm
    obtain ⟨h1, h2, h3⟩ := hm
    have lx : ys.length = _ := ra.length
    rename_i j
    have many : ys.length * j.toNat ≤ sizeLine := by
      have a1 : ys.length * j.toNat ≤ 1000 * 1000 := Nat.mul_le_mul (by omega) (by omega)
      rw [sizeLine_eq]
      omega
    refine op_rep pins s σ H _ _ v u Q I rx ry ⟨a, j, ys, rfl, rfl, ea, by omega, by omega, many, fun p hp => q _ _ _ (ResOk.lst hF hp (by rw [PyProof.Rows.lm_len_rep_flat, Nat.mul_comm]; exact many) ?_)⟩
    generalize j.toNat = m
    induction m with
    | zero => exact .nil
    | succ m ih => rw [List.replicate_succ, List.replicate_succ, List.flatten_cons, List.flatten_cons]; exact ra.append ih
  · cases e

theorem kd_inj {k k' : Key} : sameKey (kd k') (kd k) = decide (k' = k) := by
  cases k <;> cases k' <;> simp [kd, sameKey]
theorem RfK.look {K : PySem.W.Frag} {F : Fz} {H : Hp} : ∀ {kvs : List (Key × V)} {es : List (D × D)} (k : Key), RfK K F H kvs es →
    (valV kvs k = none ∧ keyIn es (kd k) = none) ∨ ∃ v d, valV kvs k = some v ∧ keyIn es (kd k) = some d ∧ Rf K F H v d
  | _, _, k, .nil => .inl ⟨rfl, rfl⟩
  | (k', v) :: kvs, (_, d) :: es, k, .cons a r => by
    unfold valV keyIn
    rw [List.find?_cons, List.find?_cons]
    dsimp only
    rw [kd_inj]
    by_cases h : k' = k
    · rw [decide_eq_true h]
      exact .inr ⟨v, d, rfl, rfl, a⟩
    · rw [decide_eq_false h]
      exact RfK.look k r
theorem dict_in {K : PySem.W.Frag} {F : Fz} {H : Hp} {a : Addr} {kvs : List (Key × V)} {es : List (D × D)} (k : Key) (er : Rd H a (.dK kvs)) (rk : RfK K F H kvs es) : DGet H a (kV k) (valV kvs k) ∧ (valV kvs k).isSome = (keyIn es (kd k)).isSome := by
  refine ⟨.inl ⟨kvs, k, er, rfl, rfl⟩, ?_⟩
  rcases rk.look k with ⟨e1, e2⟩ | ⟨v, d, e1, e2, _⟩
  · simp [e1, e2]
  · simp [e1, e2]
theorem key_of {K : PySem.W.Frag} {F : Fz} {H : Hp} {x : V} {d : D} (hk : isKey d = true) (h : RT K F H x d) : ∃ k : Key, d = kd k ∧ x = kV k := by
  cases d <;> simp [isKey] at hk
  · exact ⟨.inl _, rfl, rt_int h⟩
  · exact ⟨.inr _, rfl, rt_str h⟩
def Cop.op : Cop → CmpOp
  | .eq => .Eq | .ne => .NotEq | .lt => .Lt | .le => .LtE | .gt => .Gt | .ge => .GtE | .is_ => .Is | .isnot => .IsNot | .in_ => .In | .notin => .NotIn
theorem scal_eqv {K : PySem.W.Frag} {F : Fz} {H : Hp} {x y : V} {dx dy : D} (h : scalD dx dy = true) (hx : RT K F H x dx) (hy : RT K F H y dy) : scal x y = true ∧ decide (x = y) = PyData.eqv dx dy := by
  cases dx <;> cases dy <;> simp only [scalD, Bool.false_eq_true] at h <;>
    (first | cases rt_none hx | cases rt_int hx | cases rt_bool hx | cases rt_str hx) <;> (first | cases rt_none hy | cases rt_int hy | cases rt_bool hy | cases rt_str hy) <;>
    refine ⟨rfl, ?_⟩ <;> simp [PyData.eqv, Bool.beq_eq_decide_eq]
theorem rt_isN {K : PySem.W.Frag} {F : Fz} {H : Hp} {x : V} {d : D} (h : RT K F H x d) : isNoneD d = decide (x = V.non) := by
  cases d with
  | none => cases rt_none h; rfl
  | bool _ => cases rt_bool h; rfl
  | int _ => cases rt_int h; rfl
  | str _ => cases rt_str h; rfl
  | list _ => obtain ⟨a, _, rfl, _⟩ := rt_list h; rfl
  | tuple _ => obtain ⟨a, _, rfl, _⟩ := rt_tup h; rfl
  | dict _ => obtain ⟨a, _, rfl, _⟩ := rt_dict h; rfl
theorem inStr_cases (x z : Str) : (∃ c, x = ⟨#[c]⟩) ∨ inStr x z = !(Builtin.Str.occurrences z x 0 z.length 1).isEmpty := by
  unfold inStr
  split
  · rename_i c hc
    refine .inl ⟨c, ?_⟩
    obtain ⟨cps⟩ := x
    congr 1
    exact Array.toList_inj.mp hc
  · exact .inr rfl
theorem op_cmpG (o : Cop) (hu : X.A.units + 65 < cLine) : OpR X (compareOp o.op) (rOp2 X.K (gCmp o)) := by
  intro pins s σ H x y v u Q I rx ry h
  obtain ⟨F, dx, dy, res, hF, hx, hy, e, q⟩ := h
  unfold gCmp at e
  obtain ⟨b, eb, rfl⟩ := Option.map_eq_some_iff.mp e
  clear e
  have q := q _ _ _ (ResOk.atom (d := .bool b) hF fun _ _ => .bl b)
  have eqCase : ∀ {b : Bool}, eqD dx dy = some b → (scalD dx dy = true ∧ b = PyData.eqv dx dy) ∨ (SeqAt.shaped dx = true ∧ SeqAt.shaped dy = true ∧ b = PyData.eqv dx dy) := fun {b} e => by
    unfold eqD at e
    split at e <;> cases e
    rename_i hc
    rcases Bool.or_eq_true_iff.mp hc with h | h
    · exact .inl ⟨h, rfl⟩
    · exact .inr ⟨(Bool.and_eq_true_iff.mp h).1, (Bool.and_eq_true_iff.mp h).2, rfl⟩
  have inCase : ∀ {b : Bool}, inD dx dy = some b → (Q (.bl b) H → wpAny (model X.prog X.w) X.A (compareOp .In v u) (EP X pins σ Q) X.xe s) ∧ (Q (.bl (!b)) H → wpAny (model X.prog X.w) X.A (compareOp .NotIn v u) (EP X pins σ Q) X.xe s) := fun {b} e => by
    unfold inD at e
    split at e
    · rename_i xa za
      cases rt_str hx; cases rt_str hy; cases e
      rcases inStr_cases xa za with ⟨c, rfl⟩ | e'
      · exact ⟨fun q => op_in_sign pins s σ H _ _ v u Q I rx ry ⟨c, _, rfl, rfl, q⟩, fun q => op_notIn_sign pins s σ H _ _ v u Q I rx ry ⟨c, _, rfl, rfl, q⟩⟩
      · rw [e']
        exact ⟨fun q => op_in_str pins s σ H _ _ v u Q I rx ry ⟨_, _, rfl, rfl, q⟩, fun q => op_notIn_str pins s σ H _ _ v u Q I rx ry ⟨_, _, rfl, rfl, q⟩⟩
    · split at e <;> cases e
      rename_i hs
      obtain ⟨h1, h2⟩ := Bool.and_eq_true_iff.mp hs
      have d1 := rt_dp (SeqAt.canLay_of_shaped h1) hx
      have d2 := rt_dp (SeqAt.canLay_of_shaped h2) hy
      exact ⟨fun q => op_inD hu pins s σ H _ _ v u Q I rx ry ⟨_, _, d1, d2, h1, h2, q⟩, fun q => op_notInD hu pins s σ H _ _ v u Q I rx ry ⟨_, _, d1, d2, h1, h2, q⟩⟩
    · split at e <;> cases e
      rename_i hs
      obtain ⟨h1, h2⟩ := Bool.and_eq_true_iff.mp hs
      have d1 := rt_dp (SeqAt.canLay_of_shaped h1) hx
      have d2 := rt_dp (SeqAt.canLay_of_shaped h2) hy
      obtain ⟨as, r1⟩ := Dp.reads I _ x v d1 rx
      obtain ⟨bs, r2⟩ := Dp.reads I _ y u d2 ry
      exact ⟨fun q => SeqAt.in_tuple_reads r2 r1 (SeqAt.canLay_of_shaped h2) (SeqAt.canLay_of_shaped h1) (by have h3 := SeqAt.depth_of_shaped h1; omega) ⟨.bl _, H, I, rfl, q⟩,
        fun q => SeqAt.notIn_tuple_reads r2 r1 (SeqAt.canLay_of_shaped h2) (SeqAt.canLay_of_shaped h1) (by have h3 := SeqAt.depth_of_shaped h1; omega) ⟨.bl _, H, I, rfl, q⟩⟩
    · rename_i xa esa
      cases e
      obtain ⟨a, kvs, rfl, er, rk⟩ := rt_dict hy
      cases rt_str hx
      obtain rfl : u = Value.ref a := ry
      obtain ⟨g, hb⟩ := dict_in (.inr xa) er rk
      exact ⟨fun q => d_in (by omega) I g rx fun s3 I3 => ⟨.bl _, H, I3, rfl, by rw [hb]; exact q⟩, fun q => d_notIn (by omega) I g rx fun s3 I3 => ⟨.bl _, H, I3, rfl, by rw [hb]; exact q⟩⟩
    · rename_i xa esa
      cases e
      obtain ⟨a, kvs, rfl, er, rk⟩ := rt_dict hy
      cases rt_int hx
      obtain rfl : u = Value.ref a := ry
      obtain ⟨g, hb⟩ := dict_in (.inl xa) er rk
      exact ⟨fun q => d_in (by omega) I g rx fun s3 I3 => ⟨.bl _, H, I3, rfl, by rw [hb]; exact q⟩, fun q => d_notIn (by omega) I g rx fun s3 I3 => ⟨.bl _, H, I3, rfl, by rw [hb]; exact q⟩⟩
    · cases e
  have e := eb
  unfold cmpD at e
  split at e
  · rcases eqCase e with ⟨h, rfl⟩ | ⟨h1, h2, rfl⟩
    · obtain ⟨e1, e2⟩ := scal_eqv h hx hy
      exact op_eq pins s σ H _ _ v u Q I rx ry ⟨e1, by rw [e2]; exact q⟩
    · exact op_eqD (by omega) pins s σ H _ _ v u Q I rx ry ⟨_, _, rt_dp (SeqAt.canLay_of_shaped h1) hx, rt_dp (SeqAt.canLay_of_shaped h2) hy, h1, h2, q⟩
  · obtain ⟨b, e2, rfl⟩ := Option.map_eq_some_iff.mp e
    rcases eqCase e2 with ⟨h, rfl⟩ | ⟨h1, h2, rfl⟩
    · obtain ⟨e1, e2⟩ := scal_eqv h hx hy
      exact op_ne pins s σ H _ _ v u Q I rx ry ⟨e1, by rw [e2]; exact q⟩
    · exact op_neD (by omega) pins s σ H _ _ v u Q I rx ry ⟨_, _, rt_dp (SeqAt.canLay_of_shaped h1) hx, rt_dp (SeqAt.canLay_of_shaped h2) hy, h1, h2, q⟩
  · cases rt_int hx; cases rt_int hy; cases e
    exact op_lt pins s σ H _ _ v u Q I rx ry ⟨_, _, rfl, rfl, q⟩
  · cases rt_int hx; cases rt_int hy; cases e
    exact op_le pins s σ H _ _ v u Q I rx ry ⟨_, _, rfl, rfl, q⟩
  · cases rt_int hx; cases rt_int hy; cases e
    exact op_gt pins s σ H _ _ v u Q I rx ry ⟨_, _, rfl, rfl, q⟩
  · cases rt_int hx; cases rt_int hy; cases e
    exact op_ge pins s σ H _ _ v u Q I rx ry ⟨_, _, rfl, rfl, q⟩
  · cases rt_str hx; cases rt_str hy; cases e
    exact op_lt_str pins s σ H _ _ v u Q I rx ry ⟨_, _, rfl, rfl, q⟩
  · cases rt_str hx; cases rt_str hy; cases e
    exact op_le_str pins s σ H _ _ v u Q I rx ry ⟨_, _, rfl, rfl, q⟩
  · cases rt_str hx; cases rt_str hy; cases e
    exact op_gt_str pins s σ H _ _ v u Q I rx ry ⟨_, _, rfl, rfl, q⟩
  · cases rt_str hx; cases rt_str hy; cases e
    exact op_ge_str pins s σ H _ _ v u Q I rx ry ⟨_, _, rfl, rfl, q⟩
  · cases rt_none hy
    refine op_isN pins s σ H _ _ v u Q I rx ry ⟨rfl, ?_⟩
    have hb : decide (x = V.non) = b := by
      rw [← Option.some.inj e]
      exact (rt_isN hx).symm
    rw [hb]; exact q
  · cases rt_none hy
    refine op_notN pins s σ H _ _ v u Q I rx ry ⟨rfl, ?_⟩
    have hb : (!decide (x = V.non)) = b := by
      rw [← Option.some.inj e, ← rt_isN hx]
    rw [hb]; exact q
  · exact (inCase e).1 q
  · obtain ⟨b, e2, rfl⟩ := Option.map_eq_some_iff.mp e
    exact (inCase e2).2 q
  · cases e
end
end Ded
end

section
set_option Elab.async false
set_option linter.all false
set_option maxRecDepth 100000
/-! dict(t) of a tuple of pairs. -/
namespace Ded
open PySem PySem.Spec PyProof.Rows L2
variable [TabName]
/-! ### dicts -/
section
variable {K : PySem.W.Frag} {F : Fz} {H : Hp}
theorem RfK.any : ∀ {kvs : List (Key × V)} {es : List (D × D)} (k : Key), RfK K F H kvs es → (kvs.any fun kv => decide (kv.1 = k)) = es.any fun kv => sameKey kv.1 (kd k)
  | _, _, k, .nil => rfl
  | _, _, k, .cons a r => by rw [List.any_cons, List.any_cons, RfK.any k r, kd_inj]
theorem RfK.map {v : V} {d : D} (k : Key) (hv : Rf K F H v d) : ∀ {kvs : List (Key × V)} {es : List (D × D)}, RfK K F H kvs es →
    RfK K F H (kvs.map fun kv => if kv.1 = k then (kv.1, v) else kv) (es.map fun kv => if sameKey kv.1 (kd k) = true then (kv.1, d) else kv)
  | _, _, .nil => .nil
  | (k', w) :: kvs, (_, e) :: es, .cons a r => by
    rw [List.map_cons, List.map_cons]
    dsimp only
    rw [kd_inj]
    by_cases h : k' = k
    · rw [if_pos h, if_pos (decide_eq_true h)]; exact .cons hv (RfK.map k hv r)
    · rw [if_neg h, if_neg (by simpa using h)]; exact .cons a (RfK.map k hv r)
theorem RfK.append : ∀ {kvs kws : List (Key × V)} {es fs : List (D × D)}, RfK K F H kvs es → RfK K F H kws fs → RfK K F H (kvs ++ kws) (es ++ fs)
  | _, _, _, _, .nil, h => h
  | _, _, _, _, .cons a r, h => .cons a (RfK.append r h)
theorem RfK.put {kvs : List (Key × V)} {es : List (D × D)} {v : V} {d : D} (k : Key) (r : RfK K F H kvs es) (hv : Rf K F H v d) : RfK K F H (putK kvs k v) (putIn es (kd k) d) := by
  unfold putK putIn
  rw [r.any k]
  split
  · exact r.map k hv
  · exact r.append (.cons hv .nil)
theorem RfK.length : ∀ {kvs : List (Key × V)} {es : List (D × D)}, RfK K F H kvs es → kvs.length = es.length
  | _, _, .nil => rfl
  | _, _, .cons _ r => by rw [List.length_cons, List.length_cons, RfK.length r]
end
section
theorem merge_rf {K : PySem.W.Frag} {F : Fz} {H : Hp} : ∀ {kvs acc : List (Key × V)} {es acc' : List (D × D)}, RfK K F H kvs es → RfK K F H acc acc' → RfK K F H (mergeK acc kvs) (es.foldl (fun acc p => putIn acc p.1 p.2) acc')
  | _, _, _, _, .nil, h => h
  | _, _, _, _, .cons (k := k) a r, h => by
    have z := merge_rf r (h.put k a)
    exact z
theorem pairs_den {K : PySem.W.Frag} {F : Fz} {H : Hp} : ∀ {xs : List V} {ds : List D} {es : List (D × D)}, RfA K F H xs ds → pairsOf ds = some es →
    ∃ (ts : List Addr) (kvs : List (Key × V)), xs = ts.map V.ref ∧ Paired (fun p kv => SqT K H p [kV kv.1, kv.2]) ts kvs ∧ RfK K F H kvs es
  | _, _, _, .nil, e => by
    cases e
    exact ⟨[], [], rfl, .nil, .nil⟩
  | _, _, _, .cons (d := d) a r, e => by
    obtain ⟨p, e1, e⟩ := Option.bind_eq_some_iff.mp e
    obtain ⟨ps, e2, rfl⟩ := Option.map_eq_some_iff.mp e
    obtain ⟨ts, kvs, rfl, h2, h3⟩ := pairs_den r e2
    unfold pairOf at e1
    split at e1
    · rename_i kk vv
      by_cases hk : isKey kk = true
      · rw [if_pos hk] at e1
        cases e1
        cases a with
        | tup fa ea z ra =>
          cases ra with
          | cons a1 ra =>
            cases ra with
            | cons a2 ra =>
              cases ra
              obtain ⟨key, rfl, rfl⟩ := key_of hk (.inl a1)
              exact ⟨_ :: ts, (key, _) :: kvs, rfl, .cons ea.sq h2, .cons a2 h3⟩
      · rw [if_neg hk] at e1
        cases e1
    · cases e1
theorem pairs_at {X : Cx} {pins : List (Addr × Obj)} {σ : L2.St} {H : Hp} {s : Shared} (I : Inv X pins σ H s) : ∀ {ts : List Addr} {kvs : List (Key × V)}, Paired (fun p kv => SqT X.K H p [kV kv.1, kv.2]) ts kvs →
    ∃ (prs : List (Key × Value)) (ps : List (Value × Value)), KV kvs prs ∧ prs.length = ts.length ∧ ps.length = ts.length ∧
      ∀ (j : Nat) (u v : Value), ps[j]? = some (u, v) → ∃ t k, ts[j]? = some t ∧ s.heap.IsTuple t #[u, v] ∧ prs[j]? = some (k, v) ∧ (mixKind X.prog X.w).is k u = true
  | _, _, .nil => ⟨[], [], .nil, rfl, rfl, fun j u v e => by simp at e⟩
  | _, _, .cons (a := t) (b := kv) h r => by
    obtain ⟨prs, ps, q1, q2, q3, q4⟩ := pairs_at I r
    obtain ⟨its, rv, tu, _⟩ := I.tuple h
    obtain ⟨u, v, e, ru, rr⟩ := vals2 rv
    subst e
    refine ⟨(kv.1, v) :: prs, (u, v) :: ps, .cons ⟨rfl, rr⟩ q1, congrArg (· + 1) q2, congrArg (· + 1) q3, fun j u' v' e => ?_⟩
    cases j with
    | zero =>
      cases (Option.some.inj e : (u, v) = (u', v'))
      exact ⟨t, kv.1, rfl, tu, rfl, kV_is ru⟩
    | succ j => exact q4 j u' v' e
/-- dict(t) -/
theorem call_dictT {X : Cx} (hcalm : X.calm = true) : CallR X (.type "dict") (fun xs H Q => ∃ (a : Addr) (ts : List Addr) (kvs : List (Key × V)), xs = [.ref a] ∧ Pl H a (ts.map V.ref) ∧ ts.length ≤ sizeLine ∧ Paired (fun p kv => SqT X.K H p [kV kv.1, kv.2]) ts kvs ∧
    ∀ p, H p = none → Q (.ref p) (upd H p (.dK (mergeK [] kvs)))) := by
  intro pins s σ H xs us Q I r h
  obtain ⟨a, ts, kvs, rfl, ⟨o, ea, hd⟩, hz, hp, q⟩ := h
  obtain ⟨u, rfl, ru⟩ := vals1 r
  cases ru
  obtain ⟨g, _, its, rv, o', g', hc, n, hdat⟩ := (show ObjOk X.prog X.w H s.heap a (.frz o (.tup (ts.map V.ref))) from I.hok a _ ea)
  rw [g] at g'; cases g'
  have ei := refs_at rv
  subst ei
  obtain ⟨prs, ps, rel, l1, l2, hpr⟩ := pairs_at I hp
  have item : ∀ j, j < ts.length → ((ts.map Value.ref).toArray)[j]? = some (.ref (ts.getD j 0)) := fun j hj => by simp [hj]
  have P := PairArg.tuple (prog := X.prog) (w := X.w) a (ts.map Value.ref).toArray (fun j => ts.getD j 0) ps
  have len : (mergeK [] kvs).length ≤ sizeLine := by
    have b1 := length_mergeK kvs []
    have b2 := rel.length
    simp only [List.length_nil] at b1
    omega
  refine PySem.call_dict_pairs (knd := mixKind X.prog X.w) (kvs := prs) P (I.ok.hd hcalm) ⟨⟨o, n, g, hc, hd, hdat⟩, by simp [l2], fun j k v e => ?_⟩ ⟨by omega, fun j k v e => ?_⟩ (by omega) fun h' tk hd' hk => ?_
  · obtain ⟨t, _, e1, tu, _⟩ := hpr j k v e
    have et : ts.getD j 0 = t := by simp [List.getD, e1]
    refine ⟨?_, .inl (show s.heap.IsTuple (ts.getD j 0) #[k, v] from et ▸ tu)⟩
    rw [item j (List.getElem?_eq_some_iff.mp e1).1]
  · obtain ⟨_, key, _, _, e2, e3⟩ := hpr j k v e
    exact ⟨key, e2, e3⟩
  · have sm : (s.heap.objs.size == sysModules) = false := beq_eq_false_iff_ne.mpr (Nat.ne_of_gt I.big)
    refine ⟨.ref s.heap.objs.size, _, I.laid (t' := tk) (o := .dK (mergeK [] kvs)) (fun b o e => hk b o (by simp) e) (Nat.le_refl _) ?_, rfl, q _ (I.hok.fresh (Nat.le_refl _))⟩
    exact ⟨len, sm, merged [] prs, KV.merge rel .nil, hd'⟩
end
end Ded
end

section
set_option Elab.async false
set_option linter.all false
set_option maxRecDepth 100000
namespace Ded
open PySem L2
variable [TabName]
section
variable {K : PySem.W.Frag} {F : Fz} {H : Hp} {x : V}
theorem RfA.atI {xs : List V} {ds : List D} {i : Int} {d : D} (r : RfA K F H xs ds) (e : L2.atI ds i = some d) : ∃ v, L2.atI xs i = some v ∧ Rf K F H v d := by
  unfold L2.atI at e ⊢
  rw [r.length]
  cases h : ixN ds.length i with
  | none => rw [h] at e; cases e
  | some j =>
    rw [h] at e
    exact r.get (i := j) e
theorem tru_of {d : D} {b : Bool} (h : RT K F H x d) (e : truD d = some b) : TruV K x H b := by
  cases d with
  | none => cases rt_none h; cases e; rfl
  | bool _ => cases rt_bool h; cases e; rfl
  | int i =>
    cases rt_int h; cases e
    show decide (i ≠ 0) = (i != 0)
    by_cases h : i = 0 <;> simp [h]
  | str y =>
    cases rt_str h
    simp only [truD] at e
    split at e <;> cases e
    rename_i hz
    refine ⟨hz, ?_⟩
    by_cases h0 : y.length = 0
    · simp [h0]
    · have : ((y.length : Int) ≠ 0) := by omega
      simp [h0, this]
  | list ds =>
    obtain ⟨a, xs, rfl, ea, z, r⟩ := rt_list h
    cases e
    refine .inl ⟨xs, SqL.of ea, ?_⟩
    cases r <;> rfl
  | tuple ds =>
    obtain ⟨a, xs, rfl, fa, ea, z, r⟩ := rt_tup h
    cases e
    refine .inr (.inl ⟨xs, ea.sq, ?_⟩)
    cases r <;> rfl
  | dict _ => cases e
theorem len_of {d : D} {n : Nat} (h : RT K F H x d) (e : lenD d = some n) : LenV K x H n := by
  cases d with
  | none => cases e
  | bool _ => cases e
  | int i => cases e
  | str y =>
    cases rt_str h
    simp only [lenD] at e
    split at e <;> cases e
    exact ⟨by assumption, rfl⟩
  | list ds =>
    obtain ⟨a, xs, rfl, ea, z, r⟩ := rt_list h
    cases e
    exact .inl ⟨xs, SqL.of ea, r.length.symm⟩
  | tuple ds =>
    obtain ⟨a, xs, rfl, fa, ea, z, r⟩ := rt_tup h
    cases e
    exact .inr ⟨xs, ea.sq, r.length.symm⟩
  | dict _ => cases e
end
section
variable {X : Cx}
theorem ix_den (hu : X.A.units + 1 < cLine) : IxR X (rOp2 X.K gIdx) := by
  intro value slice pins s σ H x y v u Q I rx ry h hs
  obtain ⟨F, dx, dy, res, hF, hx, hy, e, q⟩ := h
  obtain ⟨d, e2, rfl⟩ := Option.map_eq_some_iff.mp e
  clear e
  have e := e2
  clear e2
  unfold idxD at e
  split at e
  · obtain ⟨a, xs, rfl, ea, z, r⟩ := rt_list hx
    cases rt_int hy
    obtain ⟨w, e1, rw'⟩ := r.atI e
    exact ix_list value slice pins s σ H _ _ v u Q I rx ry ⟨a, xs, _, w, rfl, rfl, SqL.of ea, e1, q _ _ _ (ResOk.old hF rw')⟩ hs
  · obtain ⟨a, xs, rfl, fa, ea, z, r⟩ := rt_tup hx
    cases rt_int hy
    obtain ⟨w, e1, rw'⟩ := r.atI e
    exact ix_tup value slice pins s σ H _ _ v u Q I rx ry ⟨a, xs, _, w, rfl, rfl, ea.sq, e1, q _ _ _ (ResOk.old hF rw')⟩ hs
  · cases rt_str hx; cases rt_int hy
    split at e
    · rename_i hz
      obtain ⟨c, e1, rfl⟩ := Option.map_eq_some_iff.mp e
      exact ix_str value slice pins s σ H _ _ v u Q I rx ry ⟨_, _, c, rfl, rfl, hz, e1, q _ _ _ (ResOk.atom hF fun _ _ => .str _)⟩ hs
    · cases e
  · split at e
    · rename_i hk
      obtain ⟨a, kvs, rfl, er, rk⟩ := rt_dict hx
      obtain ⟨k, rfl, rfl⟩ := key_of hk hy
      obtain rfl : v = Value.ref a := rx
      rcases rk.look k with ⟨e1, e2⟩ | ⟨w, d', e1, e2, rw'⟩
      · rw [e2] at e; cases e
      · rw [e2] at e; cases e
        have g : DGet H a (kV k) (some w) := .inl ⟨kvs, k, er, rfl, e1.symm⟩
        exact PyProof.Rows.tail_any (dict_typeIs I g) PySem.F.slot_dict_getitem.lookup (d_getItem hu I g ry fun w' s3 I3 rw2 => ⟨w, H, I3, rw2, q _ _ _ (ResOk.old hF rw')⟩) hs
    · cases e
  · cases e
/-- slices -/
def rSli (K : PySem.W.Frag) : V → Option Int → Option Int → Hp → VK → Prop := fun x lo hi H Q => ∃ F dx res, (∀ a, F a → ∃ o, H a = some o) ∧ RT K F H x dx ∧ sliD dx lo hi = some res ∧ ∀ x' F' H', ResOk K F H res x' F' H' → Q x' H'
theorem RfA.cut {K : PySem.W.Frag} {F : Fz} {H : Hp} {xs : List V} {ds : List D} (r : RfA K F H xs ds) (lo hi : Option Int) : RfA K F H (cutV xs lo hi) (cutL ds lo hi) := by
  unfold cutV cutL
  rw [r.length]
  exact (r.drop _).take _
theorem sl_den : SlR X (rSli X.K) := by
  intro pins s σ H x v vl vu lo hi sl Q I rx hs pl pu h
  obtain ⟨F, dx, res, hF, hx, e, q⟩ := h
  unfold sliD at e
  split at e
  · obtain ⟨a, xs, rfl, ea, z, r⟩ := rt_list hx
    cases e
    exact sl_list pins s σ H _ v vl vu lo hi sl Q I rx hs pl pu ⟨a, xs, rfl, SqL.of ea, fun p hp => q _ _ _ (ResOk.lst hF hp (Nat.le_trans (cutV_length xs lo hi) z) (r.cut lo hi))⟩
  · obtain ⟨a, xs, rfl, fa, ea, z, r⟩ := rt_tup hx
    cases e
    refine sl_tupP pins s σ H _ v vl vu lo hi sl Q I rx hs pl pu ⟨a, xs, rfl, ea.sq, fun hw => q _ _ _ (ResOk.old hF ?_), fun _ p o hp hd => q _ _ _ (ResOk.tup hF hp hd (Nat.le_trans (cutV_length xs lo hi) z) (r.cut lo hi))⟩
    refine .tup fa ea z ?_
    have hc := r.cut lo hi
    have e2 : cutV xs lo hi = xs := by
      unfold cutV
      rw [hw.1, hw.2]
      simp
    rw [e2] at hc
    exact hc
  · cases rt_str hx
    split at e <;> cases e
    rename_i hz
    exact sl_str pins s σ H _ v vl vu lo hi sl Q I rx hs pl pu ⟨_, rfl, hz, q _ _ _ (ResOk.atom hF fun _ _ => .str _)⟩
  · cases e
theorem un_den : UnR X (unaryOp .USub) (rOp1 X.K gNeg) := by
  intro pins s σ H x v Q I rx h
  obtain ⟨F, dx, res, hF, hx, e, q⟩ := h
  unfold gNeg at e
  split at e <;> cases e
  cases rt_int hx
  exact un_neg pins s σ H _ v Q I rx ⟨_, rfl, q _ _ _ (ResOk.atom hF fun _ _ => .int _)⟩
/-! ### isinstance -/
def Ty.name : Ty → String
  | .int => "int" | .bool => "bool" | .str => "str" | .tuple => "tuple" | .list => "list" | .dict => "dict"
theorem isi_ok {K : PySem.W.Frag} {F : Fz} {H : Hp} {x : V} {d : D} (t : Ty) (h : RT K F H x d) : ∃ ty, TyX K H x (.type ty) ∧ PySem.W.kitOne K (.type ty) (.type t.name) = some (isTy t d) := by
  cases d with
  | none => cases rt_none h; exact ⟨_, .base .non, by cases t <;> first | exact kit_ty (r := true) (by decide +kernel) | exact kit_ty (r := false) (by decide +kernel)⟩
  | bool _ => cases rt_bool h; exact ⟨_, .base (.bl _), by cases t <;> first | exact kit_ty (r := true) (by decide +kernel) | exact kit_ty (r := false) (by decide +kernel)⟩
  | int i => cases rt_int h; exact ⟨_, .base (.int _), by cases t <;> first | exact kit_ty (r := true) (by decide +kernel) | exact kit_ty (r := false) (by decide +kernel)⟩
  | str y => cases rt_str h; exact ⟨_, .base (.str _), by cases t <;> first | exact kit_ty (r := true) (by decide +kernel) | exact kit_ty (r := false) (by decide +kernel)⟩
  | list ds =>
    obtain ⟨a, xs, rfl, ea, z, r⟩ := rt_list h
    exact ⟨_, .base (.lst ea), by cases t <;> first | exact kit_ty (r := true) (by decide +kernel) | exact kit_ty (r := false) (by decide +kernel)⟩
  | tuple ds =>
    obtain ⟨a, xs, rfl, fa, ea, z, r⟩ := rt_tup h
    obtain ⟨_, ea, _⟩ := ea
    exact ⟨_, .fTuple ea, by cases t <;> first | exact kit_ty (r := true) (by decide +kernel) | exact kit_ty (r := false) (by decide +kernel)⟩
  | dict es =>
    obtain ⟨a, kvs, rfl, er, rk⟩ := rt_dict h
    rcases er with e | ⟨o, e⟩
    · exact ⟨_, .base (.dK e), by cases t <;> first | exact kit_ty (r := true) (by decide +kernel) | exact kit_ty (r := false) (by decide +kernel)⟩
    · exact ⟨_, .fDict e, by cases t <;> first | exact kit_ty (r := true) (by decide +kernel) | exact kit_ty (r := false) (by decide +kernel)⟩
end
end Ded
end

section
set_option Elab.async false
set_option linter.all false
set_option maxRecDepth 100000
set_option maxHeartbeats 1000000
/-! sorted of rows: tuples that begin with texts of which no two are alike. -/
namespace Ded
open PySem PySem.Spec PyProof.Rows L2
/-- at v lies a tuple whose first item is the text x -/
def RowAt (h : Heap) (v : Value) (x : Str) : Prop := ∃ a o t us n, v = .ref a ∧ h.get? a = some o ∧ o.cls = .type "tuple" ∧ o.data = .seq (Value.str x t :: us).toArray n
theorem RowAt.keep {h h' : Heap} {v : Value} {x : Str} (r : RowAt h v x) (k : ∀ b o, h.get? b = some o → o.cls = .type "tuple" → h'.get? b = some o) : RowAt h' v x := by
  obtain ⟨a, o, t, us, n, e, g, c, d⟩ := r
  exact ⟨a, o, t, us, n, e, k a o g c, c, d⟩
abbrev ltS (x y : Str) : Bool := decide (x.cps.toList < y.cps.toList)
section
variable {prog : Program} {w : World} {A : Around} {s : Shared} {Q : Bool → Shared → Prop}
theorem lex_self {b : Bool} : ∀ (l : List Value) (i : Nat), Q false s → PySem.W.KatLex prog w A b false Q (l.zip l) i s
  | [], i, h => PySem.W.kat_nil h
  | v :: l, i, h => PySem.W.kat_cons (SeqAt.EqAt.same v prog w _ _ (PySem.W.kat_yes (lex_self l (i + 1) h)))
theorem row_cmp {vs : List Value} {k : Value → Str} (hp : ∀ v ∈ vs, RowAt s.heap v (k v)) (inj : ∀ v ∈ vs, ∀ u ∈ vs, k v = k u → v = u) : SrtO.Cmp prog w A s (tuples' true) (fun p => p.1 ∈ vs) (SrtO.lt2 fun v u => ltS (k v) (k u)) := by
  intro p q hm hm'
  show wpAny (model prog w) A (keyLt' (tuples' true) p.1 q.1) (fun r s' => s' = s ∧ r = ltS (k p.1) (k q.1)) (fun _ _ => False) s
  by_cases e : p.1 = q.1
  · rw [← e]
    obtain ⟨a, o, t, us, n, e1, g, c, d⟩ := hp _ hm
    generalize k p.1 = x at d ⊢
    rw [e1]
    refine PySem.W.kat_lt g d g d ?_
    have f0 : decide ((Value.str x t :: us).toArray.size < (Value.str x t :: us).toArray.size) = false := decide_eq_false (Nat.lt_irrefl _)
    rw [f0]
    exact lex_self _ 0 ⟨rfl, (decide_eq_false (List.lt_irrefl _)).symm⟩
  · have ne : k p.1 ≠ k q.1 := fun z => e (inj _ hm _ hm' z)
    obtain ⟨a, o, t, us, n, e1, g, c, d⟩ := hp _ hm
    obtain ⟨a', o', t', us', n', e1', g', c', d'⟩ := hp _ hm'
    generalize k p.1 = x at d ne ⊢
    generalize k q.1 = y at d' ne ⊢
    rw [e1, e1']
    refine PySem.W.kat_lt g d g' d' ?_
    refine PySem.W.kat_cons (wpAny_eqBool_str ?_)
    rw [decide_eq_false ne]
    exact PySem.W.kat_no (oneLt_any_str ⟨rfl, rfl⟩)
theorem row_firsts {h : Heap} {k : Value → Str} : ∀ (vs : List Value), (∀ v ∈ vs, RowAt h v (k v)) → ∃ fs, PySem.W.KatTups h vs fs ∧ fs.length = vs.length ∧ ∀ f ∈ fs, ∃ x t, f = Value.str x t
  | [], _ => ⟨[], .nil, rfl, fun f hf => nomatch hf⟩
  | v :: vs, hp => by
    obtain ⟨fs, z, hl, hi⟩ := row_firsts vs fun u hu => hp u (List.mem_cons_of_mem _ hu)
    obtain ⟨a, o, t, us, n, rfl, g, c, d⟩ := hp v List.mem_cons_self
    refine ⟨.str (k (.ref a)) t :: fs, .cons g c d (by simp) z, by simp [hl], fun f hf => ?_⟩
    rcases List.mem_cons.mp hf with rfl | hf
    · exact ⟨_, _, rfl⟩
    · exact hi f hf
theorem rows_sortable {a : Addr} {vs : List Value} {k : Value → Str} (h0 : 0 < vs.length) (hp : ∀ v ∈ vs, RowAt s.heap v (k v)) (inj : ∀ v ∈ vs, ∀ u ∈ vs, k v = k u → v = u) (ha : ∀ o, s.heap.get? a = some o → o.cls ≠ .type "tuple") : SrtO.SortableO prog w A s a vs fun v u => ltS (k v) (k u) := by
  intro h' keep
  have hp' : ∀ v ∈ vs, RowAt h' v (k v) := fun v hm => (hp v hm).keep fun b o e c => keep b o (fun z => by subst z; exact ha o e c) e
  obtain ⟨fs, z, hl, hi⟩ := row_firsts vs hp'
  refine ⟨tuples' true, fun Q E hq => ?_, row_cmp hp' inj⟩
  refine PySem.W.kat_kind (T := .type "str") z (by omega) (fun f hm => ?_) (by rfl) ?_
  · obtain ⟨x, t, rfl⟩ := hi f hm
    exact PySem.W.Looks.now
  · have ne : (Value.type "str" != Value.type "tuple") = true := by first | decide +kernel | rfl
    rw [ne]
    exact hq
end
theorem ltS_swo {α : Type} (k : α → Str) : SrtO.Swo fun v u => ltS (k v) (k u) := by
  refine ⟨fun x y h => ?_, fun x y z h1 h2 => ?_⟩
  · exact decide_eq_false (List.lt_asymm (of_decide_eq_true h))
  · have h1 := List.not_lt.mp (of_decide_eq_false h1)
    have h2 := List.not_lt.mp (of_decide_eq_false h2)
    exact decide_eq_false (List.not_lt.mpr (List.le_trans h1 h2))
/-- sorted(xs), xs a list of rows, k the text that each begins with -/
def rSortedT (K : PySem.W.Frag) : List V → Hp → VK → Prop := fun vs H Q => ∃ (a : Addr) (xs : List V) (k : V → Str), vs = [V.ref a] ∧ SqL K H a xs ∧ (∀ x ∈ xs, ∃ t ys, x = V.ref t ∧ SqT K H t (.str (k x) :: ys)) ∧ (∀ x ∈ xs, ∀ y ∈ xs, k x = k y → x = y) ∧
  ∀ ys p, SrtO.Srtd (fun x y => ltS (k x) (k y)) ys → ys.Perm xs → H p = none → Q (.ref p) (upd H p (.lst ys))
theorem cr_sortedT {X : Cx} : CallR X (.builtin "sorted") (rSortedT X.K) := by
  intro pins s σ H vs us Q I r h
  obtain ⟨a, xs, k, rfl, hs, hx, inj, q⟩ := h
  obtain ⟨its, rv, hl, hz⟩ := I.list hs
  obtain ⟨u, rfl, ru⟩ := vals1 r
  obtain rfl : u = Value.ref a := ru
  obtain ⟨e1, e2⟩ := refs_back rv fun x m => by
    obtain ⟨t, _, e, _⟩ := hx x m
    exact ⟨t, e⟩
  have mem : ∀ v ∈ its, backV v ∈ xs := fun v hv => by rw [e1]; exact List.mem_map.mpr ⟨v, hv, rfl⟩
  have rows : ∀ v ∈ its, RowAt s.heap v (k (backV v)) := fun v hv => by
    obtain ⟨t, ys, e, ht⟩ := hx _ (mem v hv)
    obtain ⟨b, rfl⟩ := e2 v hv
    cases e
    obtain ⟨its2, r2, ⟨o, ho, hc, n, hd⟩, _⟩ := I.tuple ht
    cases r2 with
    | cons ra rr =>
      obtain ⟨tk, rfl⟩ := ra
      exact ⟨_, o, tk, _, n, rfl, ho, hc, hd⟩
  have one : ∀ v ∈ its, ∀ w ∈ its, k (backV v) = k (backV w) → v = w := fun v hv w hw e => by
    have z := inj _ (mem v hv) _ (mem w hw) e
    obtain ⟨b, rfl⟩ := e2 v hv
    obtain ⟨c, rfl⟩ := e2 w hw
    cases z
    rfl
  refine SrtO.sorted_ord (ltS_swo fun v => k (backV v)) hl.isList (by rw [← rv.length]; exact hz) (fun h2 h₁ a' ha kk => ?_) fun out hs hb => ?_
  · refine rows_sortable (s := { s with heap := h₁ }) (by omega) (fun v hm => (rows v hm).keep fun b o e _ => (kk b o e).2) one fun o e => ?_
    have e' := e.symm.trans ha
    cases e'
    intro c
    exact absurd (Value.type.inj c) (by decide)
  · have h3 : ∀ u ∈ out, ∃ a, u = Value.ref a := fun u hu => e2 u (hb.perm.mem_iff.mp hu)
    obtain ⟨n, hn⟩ := PyProof.Rows.sortedAll_at s.heap its out.toArray
    have pm : (out.map backV).Perm xs := by rw [e1]; exact hb.perm.map _
    refine ⟨.ref (s.heap.objs.size + 1), upd H (s.heap.objs.size + 1) (.lst (out.map backV)), I.laid (t' := s.toks) (fun b o e => PyProof.Rows.sortedAll_old e) (Nat.le_succ _) ⟨?_, out, n, vals_back h3, hn⟩, rfl, q _ _ (SrtO.srtd_map hs) pm (I.hok.fresh (Nat.le_succ _))⟩
    rw [pm.length_eq]
    exact hz
end Ded
end

section
set_option Elab.async false
set_option linter.all false
set_option maxRecDepth 100000
set_option maxHeartbeats 1100000
/-! sorted of a tuple of texts. -/
namespace Ded
open PySem L2
open PySem.Spec PyProof.Rows
/-- what is asked of it, what it gives -/
def rSortedTS (K : PySem.W.Frag) : List V → Hp → VK → Prop := fun args H post =>
  ∃ (a : Addr) (ks : List Str), args = [.ref a] ∧ SqT K H a (ks.map V.str) ∧ ks.length < 64 ∧ ∀ out l, out.Perm ks → sortedS out = true → H l = none → post (.ref l) (upd H l (.lst (out.map V.str)))
theorem call_sortedTS {X : Cx} : CallR X (.builtin "sorted") (rSortedTS X.K) := by
  intro pins s σ H args us post inv rel ⟨a, ks, eq, at_, few, fin⟩
  subst eq
  obtain ⟨u, rfl, ru⟩ := vals1 rel
  cases ru
  obtain ⟨its, rv, ⟨o, got, cls, n, dat⟩, _⟩ := inv.tuple at_
  have texts : StrsAre its ks := rv.strs
  have count : its.length = ks.length := rv.length.symm.trans (List.length_map _)
  have fits : its.length ≤ sizeLine := by rw [count, sizeLine_eq]; omega
  apply Calls.call_function_entry kind_sorted plain_sorted entry_sorted (args_sorted1 _)
  unfold Builtin.«sorted»
  apply wpAny_bind (m := checkCount "sorted" 1 1 _)
  apply wpAny_pure
  apply wpAny_bind
  refine wpAny_collect_seq (A := X.A.in1) a (.inr rfl) got cls dat (fun h' kept => ?_) (by rw [List.size_toArray]; exact fits)
  have inv' : Inv X pins σ H { s with heap := h' } := inv.kept kept (t' := s.toks)
  apply wpAny_bind
  refine wpAny_newList ?_ fits
  have made : (h'.push (seqObj "list" its.toArray 0)).get? h'.objs.size = some (seqObj "list" its.toArray 0) := Heap.get?_push_size _ rfl
  show wpAny _ _ _ _ _ { s with heap := h'.push (seqObj "list" its.toArray 0) }
  apply wpAny_bind
  refine wpAny_holding (wpAny_call_entry slot_list_sort ⟨_, made, rfl⟩ entry_list_sort ?_ (args_list_sort _))
  refine list_sort_treeK strKind_oneLt (s := { s with heap := h'.push (seqObj "list" its.toArray 0) }) made texts.keysOf (fun x y more e => keyKind_strs (e ▸ texts)) (count ▸ few) fun st perm up => ⟨_, rfl, ?_⟩
  obtain ⟨out, z1, z2, z3⟩ := sorted_out_str texts perm up
  obtain ⟨ep, stands⟩ := sortedHeap_at (vs := its) (out := (arrOf st).map (·.2)) made
  have small : (out.map V.str).length ≤ sizeLine := by
    have := z2.length_eq
    rw [List.length_map, sizeLine_eq]
    omega
  refine wpAny_pure ⟨_, rfl, .ref h'.objs.size, upd H h'.objs.size (.lst (out.map V.str)), inv'.laid (t' := s.toks) ?_ (Nat.le_refl _) (id (α := ObjOk X.prog X.w _ _ _ (.lst (out.map V.str))) ⟨small, ((arrOf st).map fun q => q.2).toList, ep, vals_of_strs z1, by rw [Array.toArray_toList]; exact stands⟩), rfl, fin out _ z2 z3 (inv'.hok.fresh (Nat.le_refl _))⟩
  intro b v e
  have under := Heap.lt_size e
  refine (sortedHeap_old (Nat.ne_of_lt under) ?_).trans (Heap.get?_push_of_some _ e)
  show b < (h'.push _).objs.size
  rw [size_push']
  exact Nat.lt_succ_of_lt under
end Ded
end

section
set_option Elab.async false
set_option linter.all false
set_option maxRecDepth 100000
namespace Ded
open PySem L2
variable [TabName]
inductive RTA (K : PySem.W.Frag) (F : Fz) (H : Hp) : List V → List D → Prop
  | nil : RTA K F H [] []
  | cons {x : V} {d : D} {xs : List V} {ds : List D} : RT K F H x d → RTA K F H xs ds → RTA K F H (x :: xs) (d :: ds)
section
variable {K : PySem.W.Frag} {F : Fz} {H : Hp} {x : V}
theorem RTA.one {xs : List V} {d : D} (h : RTA K F H xs [d]) : ∃ x, xs = [x] ∧ RT K F H x d := by
  cases h with
  | cons a b => cases b; exact ⟨_, rfl, a⟩
theorem RTA.two {xs : List V} {d e : D} (h : RTA K F H xs [d, e]) : ∃ x y, xs = [x, y] ∧ RT K F H x d ∧ RT K F H y e := by
  cases h with
  | cons a b =>
    cases b with
    | cons c z => cases z; exact ⟨_, _, rfl, a, c⟩
theorem RfA.of_bools : ∀ {ds : List D} {bs : List Bool} {vs : List V}, boolsOf ds = some bs → RfA K F H vs ds → vs = bs.map V.bl
  | [], bs, _, e, r => by
    cases r
    simp [boolsOf] at e; subst e; rfl
  | .bool x :: ds, bs, _, e, r => by
    cases r with
    | cons a b =>
      cases a
      simp only [boolsOf, Option.map_eq_some_iff] at e
      obtain ⟨s2, e1, rfl⟩ := e
      rw [RfA.of_bools e1 b]; rfl
  | .none :: _, _, _, e, _ => by simp [boolsOf] at e
  | .str _ :: _, _, _, e, _ => by simp [boolsOf] at e
  | .int _ :: _, _, _, e, _ => by simp [boolsOf] at e
  | .list _ :: _, _, _, e, _ => by simp [boolsOf] at e
  | .tuple _ :: _, _, _, e, _ => by simp [boolsOf] at e
  | .dict _ :: _, _, _, e, _ => by simp [boolsOf] at e
theorem RfA.signs : ∀ (cs : List Nat), RfA K F H (cs.map fun c => V.str ⟨#[c]⟩) (cs.map fun c => .str ⟨#[c]⟩)
  | [] => .nil
  | _ :: r => .cons (.str _) (RfA.signs r)
end
def rBlt (K : PySem.W.Frag) (f : Blt) : List V → Hp → VK → Prop := fun xs H Q => ∃ F ds res, (∀ a, F a → ∃ o, H a = some o) ∧ RTA K F H xs ds ∧ bltD f ds = some res ∧ ∀ x' F' H', ResOk K F H res x' F' H' → Q x' H'
/-- as HandS's rule for all calls, from rules for each kind of argument -/
def Blt.val : Blt → Value
  | .len => .builtin "len" | .int => .type "int" | .list => .type "list" | .tuple => .type "tuple" | .repr => .builtin "repr" | .all => .builtin "all" | .any => .builtin "any" | .sorted => .builtin "sorted"
  | .sum => .builtin "sum" | .min => .builtin "min" | .max => .builtin "max" | .dict => .type "dict" | .str => .type "str" | .set => .type "set"
section
variable {X : Cx}
theorem vals_signs {z : Str} : ∀ {l : List Value} {k : Nat}, (∀ j v, l[j]? = some v → SignAt z (k + j) v) → k + l.length ≤ z.cps.size → Vals ((((z.cps.toList).drop k).take l.length).map fun c => V.str ⟨#[c]⟩) l
  | [], k, _, _ => by simp; exact .nil
  | v :: l, k, h, hk => by
    obtain ⟨c, u, e1, rfl⟩ := h 0 v rfl
    have hk' : k < z.cps.toList.length := by rw [Array.length_toList]; simp at hk; omega
    have e2 : z.cps.toList[k] = c := by
      have : z.cps.toList[k]? = some c := by rw [Array.getElem?_toList]; exact e1
      rw [List.getElem?_eq_getElem hk'] at this
      exact Option.some.inj this
    rw [List.drop_eq_getElem_cons hk', List.length_cons, List.take_succ_cons, List.map_cons, e2]
    refine .cons ⟨u, rfl⟩ (vals_signs (k := k + 1) (fun j v e => ?_) (by simp at hk; omega))
    have := h (j + 1) v (by simpa using e)
    rwa [show k + 1 + j = k + (j + 1) by omega]
theorem ltN_irrefl (a : List Nat) : ¬ a < a := List.lt_irrefl a
theorem strLe_iff {a b : Str} : strLe a b = true ↔ a.cps.toList ≤ b.cps.toList := by
  unfold strLe
  rw [Bool.not_eq_true', decide_eq_false_iff_not]
  rfl
theorem str_ext {a b : Str} (h : a.cps.toList = b.cps.toList) : a = b := by
  cases a; cases b
  exact congrArg _ (Array.toList_inj.mp h)
theorem le_t {a b c : Str} (h : strLe a b = true) (k : strLe b c = true) : strLe a c = true := strLe_iff.mpr (List.le_trans (strLe_iff.mp h) (strLe_iff.mp k))
theorem le_a {a b : Str} (h : strLe a b = true) (k : strLe b a = true) : a = b := str_ext (List.le_antisymm (strLe_iff.mp h) (strLe_iff.mp k))
theorem le_tot (a b : Str) : (strLe a b || strLe b a) = true := by
  rw [Bool.or_eq_true]
  rcases List.le_total a.cps.toList b.cps.toList with h | h
  · exact .inl (strLe_iff.mpr h)
  · exact .inr (strLe_iff.mpr h)
theorem rising_pw : ∀ {ys : List Str} {p : Str}, PyProof.Rows.risingS p ys = true → (∀ y ∈ ys, strLe p y = true) ∧ ys.Pairwise fun a b => strLe a b = true
  | [], _, _ => ⟨(fun _ h => nomatch h), .nil⟩
  | x :: r, p, h => by
    have h : (!Spec.ltCps x.cps.toList p.cps.toList && PyProof.Rows.risingS x r) = true := by
      unfold PyProof.Rows.risingS at h
      exact h
    rw [Bool.and_eq_true] at h
    obtain ⟨h1, h2⟩ := h
    have hp : strLe p x = true := by
      unfold strLe
      rw [← PyProof.Rows.ltCps_eq]
      exact h1
    obtain ⟨a, b⟩ := rising_pw h2
    refine ⟨fun y hy => ?_, List.pairwise_cons.mpr ⟨a, b⟩⟩
    rcases List.mem_cons.mp hy with rfl | hy
    · exact hp
    · exact le_t hp (a y hy)
theorem strs_sorted {xs ys : List Str} (p : ys.Perm xs) (h : PyProof.Rows.sortedS ys = true) : ys = isort strLe xs := by
  have pw : ys.Pairwise fun a b => strLe a b = true := by
    cases ys with
    | nil => exact .nil
    | cons y r =>
      obtain ⟨a, b⟩ := rising_pw (p := y) (ys := r) h
      exact List.pairwise_cons.mpr ⟨a, b⟩
  have q : (isort strLe xs).Pairwise fun a b => strLe a b = true := isort_pw (le := strLe) (fun a b c => le_t) le_tot xs
  exact List.Perm.eq_of_pairwise (fun a b _ _ h k => le_a h k) pw q (p.trans (isort_perm xs).symm)
theorem repr_den (hu : X.A.units + 65 < cLine) (hg : X.A.guards = some []) : CallR X (.builtin "repr") (fun xs H Q => ∃ F d, RTA X.K F H xs [d] ∧ canRepr d = true ∧ Q (.str d.shown) H) := by
  intro pins s σ H xs us Q I r h
  obtain ⟨F, d, ra, hc, q⟩ := h
  obtain ⟨x, rfl, hx⟩ := ra.one
  simp only [canRepr, Bool.and_eq_true, decide_eq_true_eq] at hc
  obtain ⟨⟨⟨hl, hs⟩, hz⟩, hd⟩ := hc
  obtain ⟨u, rfl, ru⟩ := vals1 r
  have dp := rt_dp hl hx
  cases d with
  | none =>
    cases rt_none hx
    cases ru
    exact PySem.P.repr_of_none ⟨.str _, H, I.tok _, ⟨_, rfl⟩, q⟩
  | bool b =>
    cases rt_bool hx
    cases ru
    exact PySem.P.repr_of_bool ⟨.str _, H, I.tok _, ⟨_, rfl⟩, by simpa only [PyData.shown] using q⟩
  | int i =>
    cases rt_int hx
    obtain ⟨t, rfl⟩ := ru
    exact PySem.P.repr_of_int (by simpa [PyData.showable] using hs) ⟨.str _, H, I.tok _, ⟨_, rfl⟩, by simpa only [PyData.shown] using q⟩
  | str y =>
    cases rt_str hx
    obtain ⟨t, rfl⟩ := ru
    exact PySem.P.repr_of_str ⟨.str _, H, I.tok _, ⟨_, rfl⟩, by simpa only [PyData.shown] using q⟩ (by simpa only [PyData.shown] using hz)
  | list ds =>
    obtain ⟨a, _, rfl, _⟩ := rt_list hx
    cases ru
    obtain ⟨as, rd⟩ := Dp.reads I _ _ _ dp rfl
    refine repr_of_reads' rd hs (PyData.noDict_hsm (PyData.hasDict_of_canLay _ hl)) hg (by omega) (fun _ _ e => e) (fun h' u tk hk => ⟨.str _, H, I.kept (t' := tk) hk, ⟨_, rfl⟩, q⟩) hz
  | tuple ds =>
    obtain ⟨a, _, rfl, _⟩ := rt_tup hx
    cases ru
    obtain ⟨as, rd⟩ := Dp.reads I _ _ _ dp rfl
    refine repr_of_reads' rd hs (PyData.noDict_hsm (PyData.hasDict_of_canLay _ hl)) hg (by omega) (fun _ _ e => e) (fun h' u tk hk => ⟨.str _, H, I.kept (t' := tk) hk, ⟨_, rfl⟩, q⟩) hz
  | dict _ => simp [PyData.canLay0] at hl
/-- list(text) -/
theorem list_str (hc : X.calm = true) : CallR X (.type "list") (fun xs H Q => ∃ z : Str, xs = [.str z] ∧ z.length ≤ sizeLine ∧ ∀ p, H p = none → Q (.ref p) (upd H p (.lst (z.cps.toList.map fun c => V.str ⟨#[c]⟩)))) := by
  intro pins s σ H xs us Q I r h
  obtain ⟨z, rfl, hz, q⟩ := h
  obtain ⟨u, rfl, ru⟩ := vals1 r
  obtain ⟨t, rfl⟩ := ru
  refine call_list_str (I.ok.hd hc) z t (fun h' tk acc' c' hk hS hi => ?_) hz
  have hv := vals_signs (z := z) (l := acc'.toList) (k := 0) (fun j v e => by rw [Nat.zero_add]; exact hi.2 j v (by rw [← Array.getElem?_toList]; exact e)) (by rw [Array.length_toList, hi.1]; omega)
  rw [Array.length_toList, hi.1, List.drop_zero, List.take_of_length_le (by rw [Array.length_toList]; exact Nat.le_refl _)] at hv
  exact ⟨.ref _, _, I.laid (t' := tk) (o := .lst (z.cps.toList.map fun c => V.str ⟨#[c]⟩)) hk (Nat.le_refl _) ⟨by rw [List.length_map, Array.length_toList]; exact hz, acc'.toList, c', hv, by simpa using hS⟩, rfl, q _ I.fresh⟩
theorem rfa_perm {K : PySem.W.Frag} {F : Fz} {H : Hp} {xs ys : List V} (p : ys.Perm xs) : ∀ {ds : List D}, RfA K F H xs ds → ∃ es, RfA K F H ys es ∧ es.Perm ds := by
  induction p with
  | nil => intro ds h; cases h; exact ⟨[], .nil, .nil⟩
  | cons x _ ih =>
    intro ds h
    cases h with
    | cons a r =>
      obtain ⟨es, h1, h2⟩ := ih r
      exact ⟨_ :: es, .cons a h1, h2.cons _⟩
  | swap x y l =>
    intro ds h
    cases h with
    | cons a r =>
      cases r with
      | cons b r => exact ⟨_ :: _ :: _, .cons b (.cons a r), .swap _ _ _⟩
  | trans _ _ ih1 ih2 =>
    intro ds h
    obtain ⟨es, h1, h2⟩ := ih2 h
    obtain ⟨fs, h3, h4⟩ := ih1 h1
    exact ⟨fs, h3, h4.trans h2⟩
/-- what a row in the heap begins with -/
def keyAt (H : Hp) : V → Str
  | .ref t => match H t with
    | some (.frz _ (.tup (.str x :: _))) => x
    | _ => Str.ofString ""
  | _ => Str.ofString ""
theorem row_rf {K : PySem.W.Frag} {F : Fz} {H : Hp} {v : V} {d : D} (h : Rf K F H v d) (hr : isRow d = true) : ∃ t ys, v = .ref t ∧ Pl H t (.str (keyAt H v) :: ys) ∧ keyAt H v = rowKey d := by
  cases h with
  | tup fa e z ra =>
    cases ra with
    | nil => cases hr
    | @cons v vs d ds a r =>
      cases a with
      | str x =>
        obtain ⟨o, e, dn⟩ := e
        have k : keyAt H (.ref ‹Addr›) = x := by simp only [keyAt, e]
        exact ⟨_, vs, rfl, by rw [k]; exact ⟨o, e, dn⟩, k⟩
      | _ => cases hr
  | _ => cases hr
theorem rows_all {K : PySem.W.Frag} {F : Fz} {H : Hp} : ∀ {xs : List V} {ds : List D}, RfA K F H xs ds → (∀ d ∈ ds, isRow d = true) → (∀ x ∈ xs, ∃ t ys, x = .ref t ∧ Pl H t (.str (keyAt H x) :: ys)) ∧ xs.map (keyAt H) = ds.map rowKey
  | _, _, .nil, _ => ⟨fun x h => (by cases h), rfl⟩
  | _, _, .cons a r, h => by
    obtain ⟨h1, h2⟩ := rows_all r fun d hd => h d (List.mem_cons_of_mem _ hd)
    obtain ⟨t, ys, e1, e2, e3⟩ := row_rf a (h _ List.mem_cons_self)
    refine ⟨fun x hx => ?_, by rw [List.map_cons, List.map_cons, h2, e3]⟩
    rcases List.mem_cons.mp hx with rfl | hx
    · exact ⟨t, ys, e1, e2⟩
    · exact h1 x hx
theorem inj_of_nodup {α β : Type} {f : α → β} : ∀ {l : List α}, (l.map f).Nodup → ∀ x ∈ l, ∀ y ∈ l, f x = f y → x = y
  | [], _, x, hx, _, _, _ => nomatch hx
  | a :: l, h, x, hx, y, hy, e => by
    rw [List.map_cons, List.nodup_cons] at h
    rcases List.mem_cons.mp hx with h1 | h1 <;> rcases List.mem_cons.mp hy with h2 | h2
    · exact h1.trans h2.symm
    · subst h1
      exact absurd (e ▸ List.mem_map_of_mem (f := f) h2) h.1
    · subst h2
      exact absurd (e ▸ List.mem_map_of_mem (f := f) h1) h.1
    · exact inj_of_nodup h.2 x h1 y h2 e
theorem pw_map {α β : Type} {f : α → β} {R : β → β → Prop} {l : List α} : (l.map f).Pairwise R ↔ l.Pairwise fun a b => R (f a) (f b) := List.pairwise_map
theorem rows_sorted {ds es : List D} (hr : (ds.map rowKey).Nodup) (p : es.Perm ds) (s : (es.map rowKey).Pairwise fun a b => strLe a b = true) : es = isort rowLe ds := by
  have q : (isort rowLe ds).Pairwise fun a b => rowLe a b = true := isort_pw (le := rowLe) (fun a b c => le_t) (fun a b => le_tot _ _) ds
  have pm := isort_perm (le := rowLe) ds
  exact List.Perm.eq_of_pairwise (fun a b ha hb h k => inj_of_nodup hr a (p.mem_iff.mp ha) b (pm.mem_iff.mp hb) (le_a h k)) (pw_map.mp s) q (p.trans pm.symm)
theorem keys_strs {K : PySem.W.Frag} {F : Fz} {H : Hp} : ∀ {kvs : List (Key × V)} {es : List (D × D)} {ss : List Str}, RfK K F H kvs es → strsOf (es.map (·.1)) = some ss → kvs.map (·.1) = ss.map Sum.inr ∧ True
  | [], _, ss, .nil, e => by
    cases e
    exact ⟨rfl, trivial⟩
  | (k, v) :: kvs, _, ss, .cons (d := d) (es := es) rv rk, e => by
    cases k with
    | inl i => exact nomatch (show (none : Option (List Str)) = some ss from e)
    | inr x =>
      obtain ⟨ys, e1, rfl⟩ := Option.map_eq_some_iff.mp (show (strsOf (es.map (·.1))).map (x :: ·) = some ss from e)
      obtain ⟨h, _⟩ := keys_strs rk e1
      exact ⟨by rw [List.map_cons, List.map_cons, h], trivial⟩
theorem keys_all {F : Fz} {H : Hp} {K : PySem.W.Frag} : ∀ {kvs : List (Key × V)} {es : List (D × D)}, RfK K F H kvs es → RfA K F H (kvs.map fun q => kV q.1) (es.map (·.1)) ∧ kvs.length = es.length
  | [], _, .nil => ⟨.nil, rfl⟩
  | (k, v) :: kvs, _, .cons a b => by
    obtain ⟨h1, h2⟩ := keys_all b
    exact ⟨.cons (by cases k <;> first | exact .int _ | exact .str _) h1, by rw [List.length_cons, List.length_cons, h2]⟩
theorem RfA.of_ints {F : Fz} {H : Hp} {K : PySem.W.Frag} : ∀ {ds : List D} {ns : List Int} {vs : List V}, intsOf ds = some ns → RfA K F H vs ds → vs = ns.map V.int
  | [], _, _, e, .nil => by cases e; rfl
  | .int i :: ds, ns, _, e, .cons a b => by
    obtain ⟨ms, e1, rfl⟩ := Option.map_eq_some_iff.mp (show (intsOf ds).map (i :: ·) = some ns from e)
    cases a
    rw [RfA.of_ints e1 b]; rfl
theorem least_in {ns : List Int} {m : Int} (h : ns.min? = some m) : m ∈ ns := (List.min?_eq_some_iff.mp h).1
theorem least_le {ns : List Int} {m : Int} (h : ns.min? = some m) : ∀ k ∈ ns, m ≤ k := (List.min?_eq_some_iff.mp h).2
theorem most_in {ns : List Int} {m : Int} (h : ns.max? = some m) : m ∈ ns := (List.max?_eq_some_iff.mp h).1
theorem most_le {ns : List Int} {m : Int} (h : ns.max? = some m) : ∀ k ∈ ns, k ≤ m := (List.max?_eq_some_iff.mp h).2
theorem blt_den (f : Blt) (hcalm : X.calm = true) (hu : X.A.units + 65 < cLine) (hg : X.A.guards = some []) : CallR X f.val (rBlt X.K f) := by
  intro pins s σ H xs us Q I r h
  obtain ⟨F, ds, res, hF, ra, e, q⟩ := h
  unfold bltD at e
  split at e
  · obtain ⟨x, rfl, hx⟩ := ra.one
    obtain ⟨n, e1, rfl⟩ := Option.map_eq_some_iff.mp e
    exact call_len pins s σ H _ us Q I r ⟨x, n, rfl, len_of hx e1, q _ _ _ (ResOk.atom hF fun _ _ => .int _)⟩
  · obtain ⟨x, rfl, hx⟩ := ra.one
    obtain ⟨n, e1, rfl⟩ := Option.map_eq_some_iff.mp e
    exact call_len pins s σ H _ us Q I r ⟨x, n, rfl, len_of hx e1, q _ _ _ (ResOk.atom hF fun _ _ => .int _)⟩
  · obtain ⟨x, rfl, hx⟩ := ra.one
    obtain ⟨n, e1, rfl⟩ := Option.map_eq_some_iff.mp e
    exact call_len pins s σ H _ us Q I r ⟨x, n, rfl, len_of hx e1, q _ _ _ (ResOk.atom hF fun _ _ => .int _)⟩
  · obtain ⟨x, rfl, hx⟩ := ra.one
    cases rt_int hx; cases e
    exact call_int1 pins s σ H _ us Q I r (.inl ⟨_, rfl, q _ _ _ (ResOk.atom hF fun _ _ => .int _)⟩)
  · obtain ⟨x, rfl, hx⟩ := ra.one
    cases rt_bool hx; cases e
    exact call_int1 pins s σ H _ us Q I r (.inr ⟨_, rfl, q _ _ _ (ResOk.atom hF fun _ _ => .int _)⟩)
  · obtain ⟨x, rfl, hx⟩ := ra.one
    obtain ⟨a, xs, rfl, ea, z, rr⟩ := rt_list hx
    cases e
    exact call_list_of pins s σ H _ us Q I r ⟨a, xs, rfl, .inl (SqL.of ea), fun p hp => q _ _ _ (ResOk.lst hF hp z rr)⟩
  · obtain ⟨x, rfl, hx⟩ := ra.one
    obtain ⟨a, xs, rfl, fa, ea, z, rr⟩ := rt_tup hx
    cases e
    exact call_list_of pins s σ H _ us Q I r ⟨a, xs, rfl, .inr ea.sq, fun p hp => q _ _ _ (ResOk.lst hF hp z rr)⟩
  · obtain ⟨x, rfl, hx⟩ := ra.one
    cases rt_str hx
    split at e <;> cases e
    rename_i hz
    exact list_str hcalm pins s σ H _ us Q I r ⟨_, rfl, hz, fun p hp => q _ _ _ (ResOk.lst hF hp (by rw [List.length_map, Array.length_toList]; exact hz) (RfA.signs _))⟩
  · obtain ⟨x, rfl, hx⟩ := ra.one
    obtain ⟨a, xs, rfl, ea, z, rr⟩ := rt_list hx
    cases e
    exact call_tupleP pins s σ H _ us Q I r ⟨a, xs, rfl, .inl ⟨SqL.of ea, fun p o hp hd => q _ _ _ (ResOk.tup hF hp hd z rr)⟩⟩
  · obtain ⟨x, rfl, hx⟩ := ra.one
    obtain ⟨a, xs, rfl, fa, ea, z, rr⟩ := rt_tup hx
    cases e
    exact call_tupleP pins s σ H _ us Q I r ⟨a, xs, rfl, .inr ⟨ea.sq, q _ _ _ (ResOk.old hF (.tup fa ea z rr))⟩⟩
  · split at e <;> cases e
    rename_i hc
    exact repr_den hu hg pins s σ H _ us Q I r ⟨F, _, ra, hc, q _ _ _ (ResOk.atom hF fun _ _ => .str _)⟩
  · obtain ⟨x, rfl, hx⟩ := ra.one
    obtain ⟨a, xs, rfl, ea, z, rr⟩ := rt_list hx
    obtain ⟨bs, e1, rfl⟩ := Option.map_eq_some_iff.mp e
    cases rr.of_bools e1
    exact cr_all hcalm pins s σ H _ us Q I r ⟨a, bs, rfl, SqL.of ea, q _ _ _ (ResOk.atom hF fun _ _ => .bl _)⟩
  · cases e
    obtain ⟨x, y, rfl, hx, hy⟩ := ra.two
    cases rt_int hx; cases rt_int hy
    exact call_min2 hcalm pins s σ H _ us Q I r ⟨_, _, rfl, q _ _ _ (ResOk.atom hF fun _ _ => .int _)⟩
  · cases e
    obtain ⟨x, y, rfl, hx, hy⟩ := ra.two
    cases rt_int hx; cases rt_int hy
    exact call_max2 hcalm pins s σ H _ us Q I r ⟨_, _, rfl, q _ _ _ (ResOk.atom hF fun _ _ => .int _)⟩
  · obtain ⟨x, rfl, hx⟩ := ra.one
    obtain ⟨a, xs, rfl, ea, z, rr⟩ := rt_list hx
    obtain ⟨bs, e1, rfl⟩ := Option.map_eq_some_iff.mp e
    cases rr.of_bools e1
    exact cr_any hcalm pins s σ H _ us Q I r ⟨a, bs, rfl, SqL.of ea, q _ _ _ (ResOk.atom hF fun _ _ => .bl _)⟩
  · obtain ⟨x, rfl, hx⟩ := ra.one
    obtain ⟨a, xs, rfl, ea, z, rr⟩ := rt_list hx
    obtain ⟨es, e1, rfl⟩ := Option.map_eq_some_iff.mp e
    obtain ⟨ts, kvs, rfl, h2, h3⟩ := pairs_den rr e1
    exact call_dictP hcalm pins s σ H _ us Q I r ⟨a, ts, kvs, rfl, SqL.of ea, h2, fun p hp => q _ _ _ (ResOk.dK hF hp (merge_rf h3 .nil))⟩
  · obtain ⟨x, rfl, hx⟩ := ra.one
    obtain ⟨a, xs, rfl, fa, ea, z, rr⟩ := rt_tup hx
    obtain ⟨es, e1, rfl⟩ := Option.map_eq_some_iff.mp e
    obtain ⟨ts, kvs, rfl, h2, h3⟩ := pairs_den rr e1
    exact call_dictT hcalm pins s σ H _ us Q I r ⟨a, ts, kvs, rfl, ea, by simpa using z, h2, fun p hp => q _ _ _ (ResOk.dK hF hp (merge_rf h3 .nil))⟩
  · obtain ⟨x, rfl, hx⟩ := ra.one
    obtain ⟨a, xs, rfl, ea, z, rr⟩ := rt_list hx
    split at e
    · rename_i e0
      cases e
      obtain ⟨ss, e1, e⟩ := Option.bind_eq_some_iff.mp e0
      split at e <;> cases e
      rename_i h64
      obtain ⟨rfl, _⟩ := RfA.of_strs e1 rr
      refine cr_sortedS pins s σ H _ us Q I r ⟨a, ss, rfl, SqL.of ea, h64, fun ys p hp hs hn => ?_⟩
      cases strs_sorted hp hs
      exact q _ _ _ (ResOk.lst hF hn (by rw [List.length_map, hp.length_eq]; exact small64 h64) (RfA.strs _))
    · unfold sortedRow at e
      split at e <;> cases e
      rename_i hrow
      obtain ⟨h1, h2⟩ := hrow
      obtain ⟨r1, r2⟩ := rows_all rr fun d hd => List.all_eq_true.mp h1 d hd
      refine cr_sortedT pins s σ H _ us Q I r ⟨a, xs, keyAt H, rfl, SqL.of ea, fun x hx => (let ⟨t, ys, e1, e2⟩ := r1 x hx; ⟨t, ys, e1, e2.sq⟩), inj_of_nodup (by rw [r2]; exact h2), fun ys p hs pm hn => ?_⟩
      obtain ⟨es, q1, q2⟩ := rfa_perm pm rr
      obtain ⟨_, r4⟩ := rows_all q1 fun d hd => List.all_eq_true.mp h1 d (q2.mem_iff.mp hd)
      have so : (es.map rowKey).Pairwise fun a b => strLe a b = true := by
        rw [← r4, pw_map]
        refine List.Pairwise.imp (fun h => ?_) hs
        have h : ltS (keyAt H _) (keyAt H _) = false := h
        unfold strLe
        rw [show decide _ = false from h]; rfl
      have ee := rows_sorted h2 q2 so
      rw [← ee] at q
      exact q _ _ _ (ResOk.lst hF hn (by rw [pm.length_eq]; exact z) q1)
  · obtain ⟨x, rfl, hx⟩ := ra.one
    obtain ⟨a, kvs, rfl, er, rk⟩ := rt_dict hx
    obtain ⟨ss, e1, e⟩ := Option.bind_eq_some_iff.mp e
    split at e <;> cases e
    rename_i h64
    obtain ⟨hk, hl⟩ := keys_strs rk e1
    refine call_sortedD hcalm pins s σ H _ us Q I r ⟨a, kvs, ss, rfl, er, hk, h64, fun ys p hp hs hn => ?_⟩
    cases strs_sorted hp hs
    exact q _ _ _ (ResOk.lst hF hn (by rw [List.length_map, hp.length_eq]; exact small64 h64) (RfA.strs _))
  · obtain ⟨x, rfl, hx⟩ := ra.one
    obtain ⟨a, xs, rfl, fa, ea, z, rr⟩ := rt_tup hx
    obtain ⟨ss, e1, e⟩ := Option.bind_eq_some_iff.mp e
    split at e <;> cases e
    rename_i h64
    obtain ⟨rfl, _⟩ := RfA.of_strs e1 rr
    refine call_sortedTS pins s σ H _ us Q I r ⟨a, ss, rfl, ea.sq, h64, fun ys p hp hs hn => ?_⟩
    cases strs_sorted hp hs
    exact q _ _ _ (ResOk.lst hF hn (by rw [List.length_map, hp.length_eq]; exact small64 h64) (RfA.strs _))
  · obtain ⟨x, rfl, hx⟩ := ra.one
    obtain ⟨a, kvs, rfl, er, rk⟩ := rt_dict hx
    split at e <;> cases e
    rename_i hz
    obtain ⟨ka, kl⟩ := keys_all rk
    exact call_listD hcalm pins s σ H _ us Q I r ⟨a, kvs, rfl, er, fun p hp => q _ _ _ (ResOk.lst hF hp (by rw [List.length_map, kl]; exact hz) ka)⟩
  · obtain ⟨x, rfl, hx⟩ := ra.one
    obtain ⟨a, kvs, rfl, er, rk⟩ := rt_dict hx
    cases e
    rw [Vals.ref1 r]
    exact d_copyOf I er fun p s' hp I' => ⟨.ref p, _, I', rfl, q _ _ _ (ResOk.dK hF hp rk)⟩
  · obtain ⟨x, rfl, hx⟩ := ra.one
    obtain ⟨a, kvs, rfl, er, rk⟩ := rt_dict hx
    cases e
    obtain ⟨_, kl⟩ := keys_all rk
    rw [Vals.ref1 r]
    refine d_len I er fun t s' I' => ⟨.int _, H, I', ⟨t, rfl⟩, ?_⟩
    rw [kl]
    exact q _ _ _ (ResOk.atom hF fun _ _ => .int _)
  · obtain ⟨x, rfl, hx⟩ := ra.one
    obtain ⟨a, xs, rfl, ea, z, rr⟩ := rt_list hx
    obtain ⟨ns, e1, rfl⟩ := Option.map_eq_some_iff.mp e
    cases rr.of_ints e1
    exact cr_sum hcalm pins s σ H _ us Q I r ⟨a, ns, rfl, SqL.of ea, q _ _ _ (ResOk.atom hF fun _ _ => .int _)⟩
  · obtain ⟨x, rfl, hx⟩ := ra.one
    obtain ⟨a, xs, rfl, ea, z, rr⟩ := rt_list hx
    obtain ⟨ns, e1, e2⟩ := Option.bind_eq_some_iff.mp e
    obtain ⟨m, e3, rfl⟩ := Option.map_eq_some_iff.mp e2
    cases rr.of_ints e1
    refine cr_min hcalm pins s σ H _ us Q I r ⟨a, ns, rfl, SqL.of ea, List.length_pos_of_mem (least_in e3), fun k hk hle => ?_⟩
    rw [show k = m from Int.le_antisymm (hle m (least_in e3)) (least_le e3 k hk)]
    exact q _ _ _ (ResOk.atom hF fun _ _ => .int _)
  · obtain ⟨x, rfl, hx⟩ := ra.one
    obtain ⟨a, xs, rfl, ea, z, rr⟩ := rt_list hx
    obtain ⟨ns, e1, e2⟩ := Option.bind_eq_some_iff.mp e
    obtain ⟨m, e3, rfl⟩ := Option.map_eq_some_iff.mp e2
    cases rr.of_ints e1
    refine cr_max hcalm pins s σ H _ us Q I r ⟨a, ns, rfl, SqL.of ea, List.length_pos_of_mem (most_in e3), fun k hk hle => ?_⟩
    rw [show k = m from Int.le_antisymm (most_le e3 k hk) (hle m (most_in e3))]
    exact q _ _ _ (ResOk.atom hF fun _ _ => .int _)
  · cases e
end
end Ded
end

section
set_option Elab.async false
set_option linter.all false
set_option maxRecDepth 100000
/-! The rules: an expression's reading from its parts' readings. -/
namespace Ded
open PySem L2
variable [TabName]
theorem PE.imp {X : Cx} {e : Expr} {t t' : TE} (h : PE X e t) (q : ∀ σ H Q, t' σ H Q → t σ H Q) : PE X e t' := ⟨fun pins s σ H Q I z => h.run pins s σ H Q I (q σ H Q z)⟩
theorem PT.imp {X : Cx} {e : Expr} {t t' : TT} (h : PT X e t) (q : ∀ σ H Q, t' σ H Q → t σ H Q) : PT X e t' := ⟨fun pins s σ H Q I z => h.run pins s σ H Q I (q σ H Q z)⟩
theorem PW.imp {X : Cx} {e : Expr} {t t' : TT} (h : PW X e t) (q : ∀ σ H Q, t' σ H Q → t σ H Q) : PW X e t' := ⟨fun w pins s σ H Q I z => h.run w pins s σ H Q I (q σ H Q z)⟩
theorem PA.imp {X : Cx} {e : List Expr} {t t' : TA} (h : PA X e t) (q : ∀ σ H Q, t' σ H Q → t σ H Q) : PA X e t' := ⟨fun p pins s σ H Q I z => h.run p pins s σ H Q I (q σ H Q z)⟩
section
variable {K : PySem.W.Frag} {xc : Xc} {en : Entry xc.T} {Wi : XK} {F F1 : Fz} {ex ex1 : List Addr} {s s1 : S} {σ : L2.St} {H H1 H' : Hp}
theorem RV.weak {x : V} {v : Val} (h : RV K F ex s σ H1 H' x v) (q : ∀ a, H1 a = none → H a = none) : RV K F ex s σ H H' x v := by
  cases v with
  | own d => obtain ⟨p, e, c, a, b, c', z⟩ := h; exact ⟨p, e, c, a, b, c', q p z⟩
  | _ => exact h
/-- what follows, seen from where it begins -/
theorem TE'.tail {m : M Val} {Q : VK} (q : Ends_ K xc en Wi (m s1) F ex s σ H fun F' ex' H' s' v => ∀ x, RV K F' ex' s' σ H H' x v → Q x H') (st : Step F ex s σ H F1 ex1 s1 H1) (r1 : Rel K F1 ex1 s1 σ H1) (fr : From en F1 ex1 s1 σ H1) : TE' K xc en Wi m σ H1 Q :=
  ⟨F1, ex1, s1, r1, fr, (q.later st).imp fun F' ex' H' s' v _ _ _ z x rv => z x (rv.weak fun a e => st.grow.none e)⟩
theorem TT'.tail {m : M Bool} {Q : Bool → Hp → Prop} (q : Ends_ K xc en Wi (m s1) F ex s σ H fun F' ex' H' s' b => Q b H') (st : Step F ex s σ H F1 ex1 s1 H1) (r1 : Rel K F1 ex1 s1 σ H1) (fr : From en F1 ex1 s1 σ H1) : TT' K xc en Wi m σ H1 Q :=
  ⟨F1, ex1, s1, r1, fr, q.later st⟩
end
section
variable {X : Cx} {xc : Xc} {en : Entry xc.T} {Wi : XK} {pos : Pos} {a b c : Expr} {m n l : M Val}
abbrev PEd (X : Cx) (xc : Xc) (en : Entry xc.T) (Wi : XK) (e : Expr) (m : M Val) : Prop := PE X e (TE' X.K xc en Wi m)
abbrev PTd (X : Cx) (xc : Xc) (en : Entry xc.T) (Wi : XK) (e : Expr) (m : M Bool) : Prop := PT X e (TT' X.K xc en Wi m)
theorem d_var {i : Nat} {x : Str} (hN : X.N[i]? = some x) (hv : Vis X.env.scope x) (hd : (x == ("__debug__" : Str)) = false) (hcd : (x == ("__classdict__" : Str)) = false) : PEd X xc en Wi (.Name x pos) (mVar i) := by
  refine PE.imp (pe_var hN hv hd hcd) fun σ H Q h => ?_
  obtain ⟨F, ex, s, r, f, h⟩ := h
  unfold mVar at h
  cases e : slot s i with
  | none => rw [e] at h; exact h.elim
  | some v =>
    rw [e] at h
    obtain ⟨x, ex1, so⟩ := r.slot i v (slot_eq.mp e)
    refine ⟨x, ex1, ?_⟩
    cases v with
    | dat d => exact h F ex H r Step.refl x so
    | own d => exact h F ex H r Step.refl x ex1
    | ext k => exact h F ex H r Step.refl x so
    | bor d => exact h F ex H r Step.refl x ex1
    | loc _ => exact h.elim
    | scr _ => exact h.elim
/-- a value that is no object -/
theorem d_atom {e : Expr} {v : V} {d : D} (h : PE X e (tC v)) (hv : ∀ F H, Rf X.K F H v d) : PEd X xc en Wi e (M.ret (.dat d)) := by
  refine PE.imp h fun σ H Q h => ?_
  obtain ⟨F, ex, s, r, f, h⟩ := h
  exact h F ex H r Step.refl v (hv F H)
theorem d_bin {o : Bop} (ha : PEd X xc en Wi a m) (hb : PEd X xc en Wi b n) : PEd X xc en Wi (.BinOp a o.op b pos) (mBin o m n) := PE.imp (pe_op (op_bin o) ha hb) fun _ _ _ h => TE'.two h
theorem d_neg (ha : PEd X xc en Wi a m) : PEd X xc en Wi (.UnaryOp .USub a pos) (mNeg m) := PE.imp (pe_un un_den ha) fun _ _ _ h => TE'.one h
theorem d_cmp {o : Cop} (hu : X.A.units + 65 < cLine) (ha : PEd X xc en Wi a m) (hb : PEd X xc en Wi b n) (hm : behindInMarks o.op b = false) : PEd X xc en Wi (.Compare a [o.op] [b] pos) (mCmp o m n) :=
  PE.imp (pe_cmpR (op_cmpG o hu) ha hb hm) fun _ _ _ h => TE'.two h
theorem d_idx (hu : X.A.units + 1 < cLine) (ha : PEd X xc en Wi a m) (hb : PEd X xc en Wi b n) (hs : PlainIx b) : PEd X xc en Wi (.Subscript a b pos) (mIdx m n) := PE.imp (pe_ix (ix_den hu) ha hb hs) fun _ _ _ h => TE'.two h
theorem d_not (ha : PEd X xc en Wi a m) : PEd X xc en Wi (.UnaryOp .Not a pos) (mNot m) := by
  refine PE.imp (pe_notT ha) fun σ H Q h => ?_
  have h := TE'.one h
  refine (?_ : TE' X.K xc en Wi m σ H fun x H1 => ∃ k, TruV X.K x H1 k ∧ Q (.bl (!k)) H1)
  obtain ⟨F, ex, s, r, f, h⟩ := h
  refine ⟨F, ex, s, r, f, h.imp fun F1 ex1 H1 s1 v _ _ _ q x rv => ?_⟩
  obtain ⟨F2, dx, res, hF, hx, e, q⟩ := q x rv
  obtain ⟨k, e1, rfl⟩ := Option.map_eq_some_iff.mp e
  exact ⟨k, tru_of hx e1, q _ _ _ (ResOk.atom hF fun _ _ => .bl _)⟩
/-- as a test, by its value -/
theorem d_tru (ha : PEd X xc en Wi a m) (he : ∀ whole, isTrue a X.env whole = (do let v ← whole; standAt a.pos; holding [v] (truthy v))) : PTd X xc en Wi a (tTru m) := by
  refine PT.imp (pt_truth ha he) fun σ H Q h => ?_
  obtain ⟨F, ex, s, r, fr, h⟩ := h
  refine TE'.opd ⟨F, ex, s, r, fr, ?_⟩
  refine (Ends_.bind (m := mOpd m) h).imp fun F1 ex1 H1 s1 u e1 r1 st1 q x rv => ?_
  have ov : OV X.K F1 ex1 σ H1 x u := RV.ov e1 rv
  obtain ⟨dx, p1, q2⟩ := q.peek'
  obtain ⟨b, p2, q2⟩ := q2.opt
  exact ⟨b, tru_of (ov.peek r1 p1) p2, q2 F1 ex1 H1 r1 st1⟩
theorem cmp_bool {o : Cop} {s s' : S} {v : Val} (e : mCmp o m n s = .ok v s') : ∃ b, v = .dat (.bool b) := by
  obtain ⟨u, s1, _, e⟩ := bind_ok e
  obtain ⟨w, s2, _, e⟩ := bind_ok e
  obtain ⟨x, s3, _, e⟩ := bind_ok e
  obtain ⟨y, s4, _, e⟩ := bind_ok e
  cases h : gCmp o x y with
  | none => rw [h] at e; cases e
  | some r =>
    rw [h] at e
    obtain ⟨b, _, rfl⟩ := Option.map_eq_some_iff.mp h
    cases e
    exact ⟨b, rfl⟩
/-- a comparison as a test -/
theorem d_tcmp {o : Cop} (hu : X.A.units + 65 < cLine) (ha : PEd X xc en Wi a m) (hb : PEd X xc en Wi b n) (hm : behindInMarks o.op b = false) : PTd X xc en Wi (.Compare a [o.op] [b] pos) (tTru (mCmp o m n)) := by
  refine PT.imp (pt_cmpR (op_cmpG o hu) ha hb hm) fun σ H Q h => ?_
  obtain ⟨F, ex, s, r, fr, h⟩ := h
  have h := Ends_.bind (m := mOpd (mCmp o m n)) h
  refine TE'.two (Q := fun x H' => ∃ k, x = .bl k ∧ Q k H') ⟨F, ex, s, r, fr, ?_⟩
  refine (Ends_.bind (m := mCmp o m n) (f := opd) h).imp fun F1 ex1 H1 s1 v e r1 st q x rv => ?_
  obtain ⟨b, rfl⟩ := cmp_bool e
  cases rv
  exact ⟨b, rfl, q F1 ex1 H1 r1 st F1 ex1 H1 r1 st⟩
theorem d_tand {p : Pos} {rest : List Expr} {s t : M Bool} (ha : PTd X xc en Wi a s) (hb : PW X (.BoolOp .And (b :: rest) p) (TT' X.K xc en Wi t)) : PW X (.BoolOp .And (a :: b :: rest) p) (TT' X.K xc en Wi (tAnd' s t)) := by
  refine PW.imp (pw_and ha hb) fun σ H Q h => ?_
  obtain ⟨F, ex, st, r, fr, h⟩ := h
  refine ⟨F, ex, st, r, fr, (Ends_.bind (m := s) h).imp fun F1 ex1 H1 s1 c e1 r1 st1 q => ?_⟩
  cases c with
  | true => exact ⟨F1, ex1, s1, r1, fr.step st1, q.later st1⟩
  | false => exact q F1 ex1 H1 r1 st1
theorem d_tor {p : Pos} {rest : List Expr} {s t : M Bool} (ha : PTd X xc en Wi a s) (hb : PW X (.BoolOp .Or (b :: rest) p) (TT' X.K xc en Wi t)) : PW X (.BoolOp .Or (a :: b :: rest) p) (TT' X.K xc en Wi (tOr' s t)) := by
  refine PW.imp (pw_or ha hb) fun σ H Q h => ?_
  obtain ⟨F, ex, st, r, fr, h⟩ := h
  refine ⟨F, ex, st, r, fr, (Ends_.bind (m := s) h).imp fun F1 ex1 H1 s1 c e1 r1 st1 q => ?_⟩
  cases c with
  | false => exact ⟨F1, ex1, s1, r1, fr.step st1, q.later st1⟩
  | true => exact q F1 ex1 H1 r1 st1
theorem d_tnot {t : M Bool} (ha : PTd X xc en Wi a t) : PTd X xc en Wi (.UnaryOp .Not a pos) (tNot' t) := by
  refine PT.imp (pt_not ha) fun σ H Q h => ?_
  obtain ⟨F, ex, st, r, fr, h⟩ := h
  exact ⟨F, ex, st, r, fr, (Ends_.bind (m := t) h).imp fun F1 ex1 H1 s1 c e1 r1 st1 q => q F1 ex1 H1 r1 st1⟩
theorem d_ite {t : M Bool} (hc : PTd X xc en Wi c t) (ha : PEd X xc en Wi a m) (hb : PEd X xc en Wi b n) : PEd X xc en Wi (.IfExp c a b pos) (mIte t m n) := by
  refine PE.imp (pe_ifExp hc ha hb) fun σ H Q h => ?_
  obtain ⟨F, ex, st, r, fr, h⟩ := h
  refine ⟨F, ex, st, r, fr, (Ends_.bind (m := t) h).imp fun F1 ex1 H1 s1 c e1 r1 st1 q => ?_⟩
  cases c with
  | true => exact TE'.tail q st1 r1 (fr.step st1)
  | false => exact TE'.tail q st1 r1 (fr.step st1)
theorem d_and {p : Pos} {rest : List Expr} (ha : PEd X xc en Wi a m) (hb : PEd X xc en Wi (.BoolOp .And (b :: rest) p) n) : PEd X xc en Wi (.BoolOp .And (a :: b :: rest) p) (mAnd m n) := by
  refine PE.imp (pe_andT ha hb) fun σ H Q h => ?_
  refine TE'.opd ?_
  obtain ⟨F, ex, s, r, fr, h⟩ := h
  refine ⟨F, ex, s, r, fr, (Ends_.bind (m := mOpd m) h).imp fun F1 ex1 H1 s1 u e1 r1 st1 q x rv => ?_⟩
  have ov : OV X.K F1 ex1 σ H1 x u := RV.ov e1 rv
  obtain ⟨dx, p1, q⟩ := q.peek'
  obtain ⟨k, p2, q⟩ := q.optb
  refine ⟨k, tru_of (ov.peek r1 p1) p2, ?_⟩
  cases k with
  | true => exact TE'.tail q st1 r1 (fr.step st1)
  | false => exact q F1 ex1 H1 r1 st1 x rv
theorem d_or {p : Pos} {rest : List Expr} (ha : PEd X xc en Wi a m) (hb : PEd X xc en Wi (.BoolOp .Or (b :: rest) p) n) : PEd X xc en Wi (.BoolOp .Or (a :: b :: rest) p) (mOr m n) := by
  refine PE.imp (pe_orT ha hb) fun σ H Q h => ?_
  refine TE'.opd ?_
  obtain ⟨F, ex, s, r, fr, h⟩ := h
  refine ⟨F, ex, s, r, fr, (Ends_.bind (m := mOpd m) h).imp fun F1 ex1 H1 s1 u e1 r1 st1 q x rv => ?_⟩
  have ov : OV X.K F1 ex1 σ H1 x u := RV.ov e1 rv
  obtain ⟨dx, p1, q⟩ := q.peek'
  obtain ⟨k, p2, q⟩ := q.optb
  refine ⟨k, tru_of (ov.peek r1 p1) p2, ?_⟩
  cases k with
  | true => exact q F1 ex1 H1 r1 st1 x rv
  | false => exact TE'.tail q st1 r1 (fr.step st1)
/-- a < b <= c -/
theorem chn_core {K : PySem.W.Frag} {o o' : Cop} {σ : L2.St} {H : Hp} {Q : VK} (h : TE' K xc en Wi (mChn o o' m n l) σ H Q) :
    tChain (rOp2 K (gCmp o)) (rOp2 K (gCmp o')) (TE' K xc en Wi m) (TE' K xc en Wi n) (TE' K xc en Wi l) σ H Q := by
  refine TE'.opd ?_
  obtain ⟨F, ex, s, r, fr, h⟩ := h
  refine ⟨F, ex, s, r, fr, (Ends_.bind (m := mOpd m) h).imp fun F1 ex1 H1 s1 u e1 r1 st1 q x rv => ?_⟩
  have ov : OV K F1 ex1 σ H1 x u := RV.ov e1 rv
  refine TE'.opd ⟨F1, ex1, s1, r1, fr.step st1, ?_⟩
  refine ((Ends_.bind (m := mOpd n) q).later st1).imp fun F2 ex2 H2 s2 v e2 r2 st2 q y rv2 => ?_
  have ov2 : OV K F2 ex2 σ H2 y v := RV.ov e2 rv2
  have ov1 := ov.step r1 st2
  obtain ⟨dx, p1, q⟩ := q.peek'
  obtain ⟨dy, p2, q⟩ := q.peek'
  obtain ⟨k, p3, q⟩ := q.optb
  refine ⟨F2, dx, dy, .dat (.bool k), r2.fdom, ov1.peek r2 p1, ov2.peek r2 p2, by unfold gCmp; rw [p3]; rfl, fun x' F' H' ⟨n, rk⟩ => ?_⟩
  cases rk
  refine ⟨k, rfl, ?_⟩
  have r3 := r2.new n
  have st3 : Step F2 ex2 s2 σ H2 F' ex2 s2 H' := ⟨n.grow _, List.prefix_refl _, .refl⟩
  have st := st1.trans (st2.trans st3)
  cases k with
  | false => exact q F' ex2 H' r3 st (.bl false) (.bl false)
  | true =>
    refine TE'.opd ⟨F', ex2, s2, r3, fr.step st, ?_⟩
    refine ((Ends_.bind (m := mOpd l) q).later st).imp fun F4 ex4 H4 s4 w e4 r4 st4 q z rv4 => ?_
    have ov4 : OV K F4 ex4 σ H4 z w := RV.ov e4 rv4
    have ov3 := (ov2.step r2 st3).step r3 st4
    obtain ⟨dy', p4, q⟩ := q.peek'
    obtain ⟨dz, p5, q⟩ := q.peek'
    obtain ⟨k', p6, q⟩ := q.optb
    refine ⟨F4, dy', dz, .dat (.bool k'), r4.fdom, ov3.peek r4 p4, ov4.peek r4 p5, by unfold gCmp; rw [p6]; rfl, fun x5 F5 H5 ⟨n5, rk5⟩ => ?_⟩
    exact q F5 ex4 H5 (r4.new n5) ((st.trans st4).trans ⟨n5.grow _, List.prefix_refl _, .refl⟩) x5 rk5
theorem d_chn {o o' : Cop} (hu : X.A.units + 65 < cLine) (ha : PEd X xc en Wi a m) (hb : PEd X xc en Wi b n) (hc : PEd X xc en Wi c l) (hm : lastMarks [o.op, o'.op] [b, c] = false) :
    PEd X xc en Wi (.Compare a [o.op, o'.op] [b, c] pos) (mChn o o' m n l) := PE.imp (pe_chain (op_cmpG o hu) (op_cmpG o' hu) ha hb hc hm) fun σ H Q h => chn_core h
theorem chn_bool {o o' : Cop} {s s' : S} {v : Val} (e : mChn o o' m n l s = .ok v s') : ∃ b, v = .dat (.bool b) := by
  obtain ⟨u, s1, _, e⟩ := bind_ok e
  obtain ⟨w, s2, _, e⟩ := bind_ok e
  obtain ⟨x, s3, _, e⟩ := bind_ok e
  obtain ⟨y, s4, _, e⟩ := bind_ok e
  obtain ⟨k, s5, _, e⟩ := bind_ok e
  cases k with
  | false => cases e; exact ⟨_, rfl⟩
  | true =>
    obtain ⟨u, s1, _, e⟩ := bind_ok e
    obtain ⟨w, s2, _, e⟩ := bind_ok e
    obtain ⟨x, s3, _, e⟩ := bind_ok e
    obtain ⟨k, s5, _, e⟩ := bind_ok e
    cases e; exact ⟨_, rfl⟩
/-- .. as a test -/
theorem d_tchn {o o' : Cop} (hu : X.A.units + 65 < cLine) (ha : PEd X xc en Wi a m) (hb : PEd X xc en Wi b n) (hc : PEd X xc en Wi c l) (hm : lastMarks [o.op, o'.op] [b, c] = false) :
    PTd X xc en Wi (.Compare a [o.op, o'.op] [b, c] pos) (tTru (mChn o o' m n l)) := by
  refine PT.imp (pt_chain (op_cmpG o hu) (op_cmpG o' hu) ha hb hc hm) fun σ H Q h => ?_
  obtain ⟨F, ex, s, r, fr, h⟩ := h
  have h := Ends_.bind (m := mOpd (mChn o o' m n l)) h
  refine chn_core (Q := fun x H' => ∃ k, x = .bl k ∧ Q k H') ⟨F, ex, s, r, fr, ?_⟩
  refine (Ends_.bind (m := mChn o o' m n l) (f := opd) h).imp fun F1 ex1 H1 s1 v e r1 st q x rv => ?_
  obtain ⟨b, rfl⟩ := chn_bool e
  cases rv
  exact ⟨b, rfl, q F1 ex1 H1 r1 st F1 ex1 H1 r1 st⟩
theorem d_one {op : BoolOp} (h : PEd X xc en Wi a m) : PEd X xc en Wi (.BoolOp op [a] pos) m := pe_one h
theorem d_and1 {t : M Bool} (h : PTd X xc en Wi a t) : PW X (.BoolOp .And [a] pos) (TT' X.K xc en Wi t) := pw_and1 h
theorem d_or1 {t : M Bool} (h : PTd X xc en Wi a t) : PW X (.BoolOp .Or [a] pos) (TT' X.K xc en Wi t) := pw_or1 h
end
end Ded
end

section
set_option Elab.async false
set_option linter.all false
set_option maxRecDepth 100000
/-! Lists of expressions, displays, calls of built-in things. -/
namespace Ded
open PySem L2
variable [TabName]
abbrev RVx (α : Type) := Fz → List Addr → S → L2.St → Hp → V → α → Prop
inductive All2 {α : Type} (R : V → α → Prop) : List V → List α → Prop
  | nil : All2 R [] []
  | cons {x : V} {a : α} {xs : List V} {as : List α} : R x a → All2 R xs as → All2 R (x :: xs) (a :: as)
theorem All2.imp {α : Type} {R R' : V → α → Prop} (h : ∀ x a, R x a → R' x a) : ∀ {xs : List V} {as : List α}, All2 R xs as → All2 R' xs as
  | _, _, .nil => .nil
  | _, _, .cons a r => .cons (h _ _ a) (All2.imp h r)
section
variable (K : PySem.W.Frag) (xc : Xc) (en : Entry xc.T) (Wi : XK) {α : Type} (R : RVx α)
def T1 (m : M α) : TE := fun σ H Q => ∃ F ex s, Rel K F ex s σ H ∧ From en F ex s σ H ∧ Ends_ K xc en Wi (m s) F ex s σ H fun F' ex' H' s' a => ∀ x, R F' ex' s' σ H' x a → Q x H'
def TL (m : M (List α)) : TA := fun σ H Q => ∃ F ex s, Rel K F ex s σ H ∧ From en F ex s σ H ∧ Ends_ K xc en Wi (m s) F ex s σ H fun F' ex' H' s' as => ∀ xs, All2 (R F' ex' s' σ H') xs as → Q xs H'
def Stable : Prop := ∀ {F ex s H F' ex' s' H' σ x a}, Rel K F ex s σ H → Step F ex s σ H F' ex' s' H' → R F ex s σ H x a → R F' ex' s' σ H' x a
end
section
variable {X : Cx} {xc : Xc} {en : Entry xc.T} {Wi : XK} {α : Type} {R : RVx α} {e : Expr} {es : List Expr}
theorem l_nil : PA X [] (TL X.K xc en Wi R lNil) := PA.imp pa_nil fun σ H Q ⟨F, ex, s, r, fr, h⟩ => h F ex H r Step.refl [] .nil
theorem l_cons {m : M α} {l : M (List α)} (hR : Stable X.K R) (ha : PE X e (T1 X.K xc en Wi R m)) (hl : PA X es (TL X.K xc en Wi R l)) (hs : starEach (e :: es) X.env = (false, eval e X.env) :: starEach es X.env) : PA X (e :: es) (TL X.K xc en Wi R (lCons m l)) := by
  refine PA.imp (pa_cons ha hl hs) fun σ H Q ⟨F, ex, s, r, fr, h⟩ => ?_
  refine ⟨F, ex, s, r, fr, (Ends_.bind (m := m) h).imp fun F1 ex1 H1 s1 a e1 r1 st1 q x rx => ?_⟩
  refine ⟨F1, ex1, s1, r1, fr.step st1, ((Ends_.bind (m := l) q).later st1).imp fun F2 ex2 H2 s2 as e2 r2 st2 q xs rs => ?_⟩
  exact q F2 ex2 H2 r2 (st1.trans st2) (x :: xs) (.cons (hR r1 st2 rx) rs)
end
/-- operands -/
abbrev ROp (K : PySem.W.Frag) : RVx Val := fun F ex s σ H x v => OV K F ex σ H x v
/-- frozen things -/
abbrev RFz (K : PySem.W.Frag) : RVx D := fun F ex s σ H x d => Rf K F H x d
/-- what a def is given -/
abbrev RAr (K : PySem.W.Frag) : RVx Val := fun F ex s σ H x v => match v with
  | .dat d => Rf K F H x d
  | .ext k => ∃ a, ex[k]? = some a ∧ x = .ref a
  | .loc i => σ[i]? = some (some x)
  | .scr ns => ∃ a, x = .ref a ∧ Scr K H a ns
  | _ => False
section
variable {K : PySem.W.Frag} {xc : Xc} {en : Entry xc.T} {Wi : XK} {m : M Val} {σ : L2.St} {H : Hp} {Q : VK}
theorem st_op : Stable K (ROp K) := fun r st h => OV.step r st h
theorem st_fz : Stable K (RFz K) := fun r st h => Rf.mono st.grow.fmono (st.grow.kp r.dj) _ h
theorem st_ar : Stable K (RAr K) := fun {F ex s H F' ex' s' H' σ x a} r st h => by
  cases a with
  | dat d => exact Rf.mono st.grow.fmono (st.grow.kp r.dj) _ h
  | ext k => obtain ⟨a, e, rfl⟩ := h; exact ⟨a, pre_get st.pre e, rfl⟩
  | loc i => exact h
  | scr ns =>
    obtain ⟨a, rfl, c⟩ := h
    refine ⟨a, rfl, ?_⟩
    rcases c with ⟨o, e⟩ | c
    · exact .inl ⟨o, (st.grow.keep a _ nt_frz e fun m => r.nfz a _ _ m e).frz⟩
    · exact .inr c
  | own _ => exact h.elim
  | bor _ => exact h.elim
theorem T1.op (h : T1 K xc en Wi (ROp K) (mOpd m) σ H Q) : TE' K xc en Wi m σ H Q := by
  obtain ⟨F, ex, s, r, f, h⟩ := h
  refine ⟨F, ex, s, r, f, (Ends_.bind (m := m) (f := opd) h).imp fun F1 ex1 H1 s1 v _ r1 st q x rv => ?_⟩
  cases v with
  | dat d => exact q F1 ex1 H1 r1 st x rv
  | own d =>
    obtain ⟨F2, r2, rf, st2, _⟩ := RV.freezes r1 rv st
    exact q F2 ex1 H1 r2 st2 x rf
  | ext k => exact q F1 ex1 H1 r1 st x rv
  | bor d => exact q.elim
  | loc i => exact q F1 ex1 H1 r1 st x rv
  | scr ns => exact q.elim
theorem T1.fz (h : T1 K xc en Wi (RFz K) (mFrz m) σ H Q) : TE' K xc en Wi m σ H Q := by
  obtain ⟨F, ex, s, r, f, h⟩ := h
  refine ⟨F, ex, s, r, f, (Ends_.bind (m := m) (f := freeze) h).imp fun F1 ex1 H1 s1 v _ r1 st q x rv => ?_⟩
  cases v with
  | dat d => exact q F1 ex1 H1 r1 st x rv
  | own d =>
    obtain ⟨F2, r2, rf, st2, _⟩ := RV.freezes r1 rv st
    exact q F2 ex1 H1 r2 st2 x rf
  | ext k => exact q.elim
  | bor d => exact q.elim
  | loc i =>
    have q : Ends_ K xc en Wi (match Ded.slot s1 i with | some (.own d) => R.ok d (setSlot s1 i (.dat d)) | _ => .bad) F ex s σ H _ := q
    cases e : Ded.slot s1 i with
    | none => rw [e] at q; exact q.elim
    | some w =>
      rw [e] at q
      cases w <;> first | exact q.elim | skip
      rename_i d
      obtain ⟨F2, r2, rf, st2⟩ := frz_slot r1 e rv
      exact q F2 ex1 H1 r2 (st.trans st2) x rf
  | scr ns => exact q.elim
theorem T1.ar (h : T1 K xc en Wi (RAr K) (M.bind m argV) σ H Q) : TE' K xc en Wi m σ H Q := by
  obtain ⟨F, ex, s, r, f, h⟩ := h
  refine ⟨F, ex, s, r, f, (Ends_.bind (m := m) (f := argV) h).imp fun F1 ex1 H1 s1 v _ r1 st q x rv => ?_⟩
  cases v with
  | dat d => exact q F1 ex1 H1 r1 st x rv
  | own d =>
    obtain ⟨F2, r2, rf, st2, _⟩ := RV.freezes r1 rv st
    exact q F2 ex1 H1 r2 st2 x rf
  | ext k => exact q F1 ex1 H1 r1 st x rv
  | bor d => exact q.elim
  | loc i =>
    have q : Ends_ K xc en Wi (match Ded.slot s1 i with | some (.own d) => R.ok (Val.dat d) (setSlot s1 i (Val.dat d)) | _ => .bad) F ex s σ H _ := q
    cases e : Ded.slot s1 i with
    | none => rw [e] at q; exact q.elim
    | some w =>
      rw [e] at q
      cases w <;> first | exact q.elim | skip
      rename_i d
      obtain ⟨F2, r2, rf, st2⟩ := frz_slot r1 e rv
      exact q F2 ex1 H1 r2 (st.trans st2) x rf
  | scr ns => exact q F1 ex1 H1 r1 st x rv
end
section
variable {X : Cx} {xc : Xc} {en : Entry xc.T} {Wi : XK} {e : Expr} {es : List Expr} {pos : Pos} {m : M Val}
theorem d_opd (h : PEd X xc en Wi e m) : PE X e (T1 X.K xc en Wi (ROp X.K) (mOpd m)) := PE.imp h fun _ _ _ h => T1.op h
theorem d_frz (h : PEd X xc en Wi e m) : PE X e (T1 X.K xc en Wi (RFz X.K) (mFrz m)) := PE.imp h fun _ _ _ h => T1.fz h
theorem d_arg (h : PEd X xc en Wi e m) : PE X e (T1 X.K xc en Wi (RAr X.K) (M.bind m argV)) := PE.imp h fun _ _ _ h => T1.ar h
theorem rfa_of {K : PySem.W.Frag} {F : Fz} {H : Hp} : ∀ {xs : List V} {ds : List D}, All2 (fun x d => Rf K F H x d) xs ds → RfA K F H xs ds
  | _, _, .nil => .nil
  | _, _, .cons a r => .cons a (rfa_of r)
theorem d_tup {l : M (List D)} {k : Nat} (h : PA X es (TL X.K xc en Wi (RFz X.K) l)) : PEd X xc en Wi (.Tuple es k pos) (mTup l) := by
  refine PE.imp (pe_tupP h) fun σ H Q ⟨F, ex, s, r, fr, h⟩ => ?_
  refine ⟨F, ex, s, r, fr, (Ends_.bind (m := l) h).imp fun F1 ex1 H1 s1 ds e1 r1 st1 q xs rs => ?_⟩
  have rf := rfa_of rs
  split at q
  · rename_i hz
    have hz' : xs.length ≤ sizeLine := by rw [rf.length]; exact hz
    exact ⟨hz', fun p o hp hd => Ends_.res q r1 st1 (fun a z => z) _ _ _ (ResOk.tup r1.fdom hp hd hz' rf)⟩
  · exact q.elim
theorem d_lst {l : M (List D)} (h : PA X es (TL X.K xc en Wi (RFz X.K) l)) : PEd X xc en Wi (.List es pos) (mLst l) := by
  refine PE.imp (pe_lst h) fun σ H Q ⟨F, ex, s, r, fr, h⟩ => ?_
  refine ⟨F, ex, s, r, fr, (Ends_.bind (m := l) h).imp fun F1 ex1 H1 s1 ds e1 r1 st1 q xs rs => ?_⟩
  have rf := rfa_of rs
  split at q
  · rename_i hz
    have hz' : xs.length ≤ sizeLine := by rw [rf.length]; exact hz
    exact ⟨hz', fun p hp => Ends_.res q r1 st1 (fun a z => z) _ _ _ (ResOk.lst r1.fdom hp hz' rf)⟩
  · exact q.elim
end
end Ded
end

section
set_option Elab.async false
set_option linter.all false
set_option maxRecDepth 100000
/-! Calls of built-in things; methods; slices. -/
namespace Ded
open PySem L2
variable [TabName]
def Blt.name : Blt → Str
  | .len => "len" | .int => "int" | .list => "list" | .tuple => "tuple" | .repr => "repr" | .all => "all" | .any => "any" | .sorted => "sorted"
  | .sum => "sum" | .min => "min" | .max => "max" | .dict => "dict" | .str => "str" | .set => "set"
theorem blt_boot (f : Blt) : bootBuiltins f.name = some f.val := by cases f <;> decide +kernel
theorem blt_nn (f : Blt) : f.name ≠ "__name__" := by cases f <;> decide +kernel
theorem blt_nd (f : Blt) : (f.name == ("__debug__" : Str)) = false := by cases f <;> decide +kernel
def Ty.nm : Ty → Str
  | .int => "int" | .bool => "bool" | .str => "str" | .tuple => "tuple" | .list => "list" | .dict => "dict"
theorem ty_boot (t : Ty) : bootBuiltins t.nm = some (.type t.name) := by cases t <;> decide +kernel
theorem ty_nn (f : Ty) : f.nm ≠ "__name__" := by cases f <;> decide +kernel
theorem ty_nd (f : Ty) : (f.nm == ("__debug__" : Str)) = false := by cases f <;> decide +kernel
section
variable {K : PySem.W.Frag} {xc : Xc} {en : Entry xc.T} {Wi : XK} {m : M Val} {σ : L2.St} {F : Fz} {ex : List Addr} {s : S} {H : Hp} {Q : VK}
theorem bind_bind {α β γ : Type} (m : M α) (f : α → M β) (g : β → M γ) : M.bind (M.bind m f) g = M.bind m fun x => M.bind (f x) g := by
  funext s
  unfold M.bind
  cases m s <;> rfl
theorem peeks_all {β : Type} {F0 : Fz} {ex0 : List Addr} {s0 : S} {H0 : Hp} {P : Fz → List Addr → Hp → S → β → Prop} (r : Rel K F ex s σ H) : ∀ {vs : List Val} {xs : List V} {f : List D → M β}, All2 (fun x v => OV K F ex σ H x v) xs vs →
    Ends_ K xc en Wi (M.bind (peeks vs) f s) F0 ex0 s0 σ H0 P → ∃ ds, RTA K F H xs ds ∧ Ends_ K xc en Wi (f ds s) F0 ex0 s0 σ H0 P
  | [], _, f, .nil, h => ⟨[], .nil, h⟩
  | v :: vs, _, f, .cons a as, h => by
    have h' : Ends_ K xc en Wi (M.bind (peekM v) (fun x => M.bind (peeks vs) fun xs => f (x :: xs)) s) F0 ex0 s0 σ H0 P := by
      have e : M.bind (peeks (v :: vs)) f = M.bind (peekM v) (fun x => M.bind (peeks vs) fun xs => f (x :: xs)) := by
        show M.bind (M.bind (peekM v) fun x => M.bind (peeks vs) fun xs => M.ret (x :: xs)) f = _
        rw [bind_bind]
        congr 1
        funext x
        rw [bind_bind]
        rfl
      rw [← e]; exact h
    obtain ⟨d, p, h'⟩ := h'.peek'
    obtain ⟨ds, ra, h'⟩ := peeks_all r as h'
    exact ⟨d :: ds, .cons (a.peek r p) ra, h'⟩
end
section
variable {X : Cx} {xc : Xc} {en : Entry xc.T} {Wi : XK} {e e2 e3 : Expr} {es : List Expr} {pos p apos : Pos} {m n : M Val}
theorem blt_core {f : Blt} {l : M (List Val)} {σ : L2.St} {H : Hp} {Q : VK} (h : TE' X.K xc en Wi (mBlt f l) σ H Q) : TL X.K xc en Wi (ROp X.K) l σ H fun xs H1 => rBlt X.K f xs H1 Q := by
  obtain ⟨F, ex, s, r, fr, h⟩ := h
  refine ⟨F, ex, s, r, fr, (Ends_.bind (m := l) h).imp fun F1 ex1 H1 s1 vs e1 r1 st1 q xs rs => ?_⟩
  obtain ⟨ds, ra, q⟩ := peeks_all r1 rs q
  obtain ⟨res, p, q⟩ := q.opt
  exact ⟨F1, ds, res, r1.fdom, ra, p, q.res r1 st1 fun a z => z⟩
theorem d_blt (f : Blt) {l : M (List Val)} (hcalm : X.calm = true) (hu : X.A.units + 65 < cLine) (hgd : X.A.guards = some []) (hg : Gl X f.name) (hm : X.mg f.name = none) (h : PA X (e :: es) (TL X.K xc en Wi (ROp X.K) l))
    (he : starEach (e :: es) X.env = (false, eval e X.env) :: starEach es X.env) (hpl : (backTo pos (starEach es X.env)).any (·.1) = false) : PEd X xc en Wi (.Call (.Name f.name p) (e :: es) [] pos) (mBlt f l) := by
  have bd := blt_den (X := X) f hcalm hu hgd
  have bb := blt_boot f
  have nn := blt_nn f
  have nd := blt_nd f
  generalize f.val = v at bd bb
  have hv : (∃ i, v = .builtin i) ∨ ∃ t, v = .type t := by
    have := blt_boot f
    rw [bb] at this
    have e : v = f.val := Option.some.inj this
    subst e
    cases f <;> first | exact .inl ⟨_, rfl⟩ | exact .inr ⟨_, rfl⟩
  rcases hv with ⟨i, rfl⟩ | ⟨t, rfl⟩
  · exact PE.imp (pe_callB bd hg hm bb h nn nd he hpl) fun _ _ _ h => blt_core h
  · exact PE.imp (pe_callTy bd hg hm bb h nn nd he hpl) fun _ _ _ h => blt_core h
theorem d_isi {t : Ty} (ha : PEd X xc en Wi e m) (hg : Gl X "isinstance") (hm : X.mg "isinstance" = none) (hgT : Gl X t.nm) (hmT : X.mg t.nm = none)
    (hs : starEach [e, .Name t.nm p] X.env = (false, eval e X.env) :: starEach [.Name t.nm p] X.env) {p2 : Pos} : PEd X xc en Wi (.Call (.Name "isinstance" p2) [e, .Name t.nm p] [] pos) (mIsi m [t]) := by
  have hT : PE X (.Name t.nm p) (tC (.ty t.name)) := pe_bltn hgT hmT (ty_boot t) rfl (ty_nn t) (ty_nd t)
  refine PE.imp (pe_callB call_isi hg hm (by decide +kernel) (pa_cons ha (pa_cons hT pa_nil rfl) hs) (by decide +kernel) (by decide +kernel) hs rfl) fun σ H Q h => ?_
  have h := TE'.one h
  obtain ⟨F, ex, s, r, f, h⟩ := h
  refine ⟨F, ex, s, r, f, h.imp fun F1 ex1 H1 s1 v _ _ _ q x rv => ?_⟩
  obtain ⟨F2, dx, res, hF, hx, e, q⟩ := q x rv
  cases e
  obtain ⟨ty, h1, h2⟩ := isi_ok t hx
  refine ⟨x, .ty t.name, _, _, _, rfl, .ty _, h1, h2, q _ _ _ (ResOk.atom hF fun _ _ => ?_)⟩
  have : ([t].any fun t => isTy t dx) = isTy t dx := by simp
  rw [this]
  exact .bl _
/-! ### slices -/
theorem d_onone {σ : L2.St} : PO X none fun σ H Q => ∃ F ex s, Rel X.K F ex s σ H ∧ From en F ex s σ H ∧ Ends_ X.K xc en Wi ((M.ret none : M (Option Int)) s) F ex s σ H fun F' ex' H' s' o => Q o H' := by
  refine ⟨fun pins s σ H Q I h => ?_⟩
  obtain ⟨F, ex, st, r, fr, h⟩ := h
  exact po_none.run pins s σ H Q I (h F ex H r Step.refl)
abbrev TO' (X : Cx) (xc : Xc) (en : Entry xc.T) (Wi : XK) (o : M (Option Int)) : TO := fun σ H Q => ∃ F ex s, Rel X.K F ex s σ H ∧ From en F ex s σ H ∧ Ends_ X.K xc en Wi (o s) F ex s σ H fun F' ex' H' s' o => Q o H'
theorem d_oint (ha : PEd X xc en Wi e m) : PO X (some e) (TO' X xc en Wi (mOInt m)) := by
  refine ⟨fun pins s σ H Q I h => ?_⟩
  refine (po_some ha).run pins s σ H Q I ?_
  obtain ⟨F, ex, st, r, fr, h⟩ := h
  refine TE'.opd ⟨F, ex, st, r, fr, (Ends_.bind (m := mOpd m) h).imp fun F1 ex1 H1 s1 u e1 r1 st1 q x rv => ?_⟩
  have ov : OV X.K F1 ex1 σ H1 x u := RV.ov e1 rv
  obtain ⟨dx, p1, q⟩ := q.peek'
  split at q
  · have e := rt_int (ov.peek r1 p1)
    exact ⟨_, e, q F1 ex1 H1 r1 st1⟩
  · exact q.elim
theorem d_sli {lo hi : Option Expr} {ml mh : M (Option Int)} {p2 : Pos} (ha : PEd X xc en Wi e m) (hl : PO X lo (TO' X xc en Wi ml)) (hh : PO X hi (TO' X xc en Wi mh)) : PEd X xc en Wi (.Subscript e (.Slice lo hi none p2) pos) (mSli m ml mh) := by
  refine PE.imp (pe_slice sl_den ha hl hh) fun σ H Q h => ?_
  refine TE'.opd ?_
  obtain ⟨F, ex, s, r, fr, h⟩ := h
  refine ⟨F, ex, s, r, fr, (Ends_.bind (m := mOpd m) h).imp fun F1 ex1 H1 s1 u e1 r1 st1 q x rv => ?_⟩
  have ov : OV X.K F1 ex1 σ H1 x u := RV.ov e1 rv
  refine ⟨F1, ex1, s1, r1, fr.step st1, ((Ends_.bind (m := ml) q).later st1).imp fun F2 ex2 H2 s2 i e2 r2 st2 q => ?_⟩
  refine ⟨F2, ex2, s2, r2, (fr.step st1).step st2, ((Ends_.bind (m := mh) q).later (st1.trans st2)).imp fun F3 ex3 H3 s3 j e3 r3 st3 q => ?_⟩
  have ov3 := (ov.step r1 st2).step r2 st3
  obtain ⟨dx, p1, q⟩ := q.peek'
  obtain ⟨res, p2, q⟩ := q.opt
  exact ⟨F3, dx, res, r3.fdom, ov3.peek r3 p1, p2, q.res r3 ((st1.trans st2).trans st3) fun a z => z⟩
end
end Ded
end

section
set_option Elab.async false
set_option linter.all false
set_option maxRecDepth 100000
/-! What is seen of the text alone. -/
namespace Ded
open PySem L2
def isStar : Expr → Bool
  | .Starred .. => true
  | _ => false
def isSet : Expr → Bool
  | .Set .. => true
  | _ => false
def isSlice : Expr → Bool
  | .Slice .. => true
  | _ => false
/-- not a call of a name without arguments -/
def isBare : Expr → Bool
  | .Call (.Name ..) [] [] _ => true
  | _ => false
theorem star_cons {e : Expr} {es : List Expr} {env : Env} (h : isStar e = false) : starEach (e :: es) env = (false, eval e env) :: starEach es env := by
  cases e <;> first | rfl | cases h
theorem star_any {pos : Pos} {env : Env} : ∀ {es : List Expr}, es.all (fun e => !isStar e) = true → (backTo pos (starEach es env)).any (·.1) = false
  | [], _ => rfl
  | e :: es, h => by
    simp only [List.all_cons, Bool.and_eq_true, Bool.not_eq_true'] at h
    rw [star_cons h.1]
    exact star_any (es := es) h.2
theorem marks_not {o : Cop} {e : Expr} (h : isSet e = false) : behindInMarks o.op e = false := by
  cases e <;> first | rfl | cases h
theorem last_not {o o' : Cop} {b e : Expr} (h : isSet e = false) : lastMarks [o.op, o'.op] [b, e] = false := by
  show behindInMarks o'.op e = false
  exact marks_not h
theorem plain_ix {b : Expr} (h : isSlice b = false) : PlainIx b := by
  intro o i
  cases b <;> first | rfl | cases h
theorem attr_base {o : Expr} {m : Str} {env : Env} (h : isBare o = false) : attributeBase o m env (eval o env) = eval o env := by
  cases o with
  | Call f as ks pos =>
    cases f with
    | Name id p =>
      cases as with
      | nil =>
        cases ks with
        | nil => cases h
        | cons _ _ => rfl
      | cons _ _ => rfl
    | _ => rfl
  | _ => rfl
theorem few_one {cpos : Pos} {e : Expr} {env : Env} (h : isStar e = false) : ((backTo cpos (starEach (e :: []) env)).all (fun x => !x.1) && (backToKw cpos (keywordEach [] env)).all (fun x => x.1.isSome)
      && decide ((e :: []).length + ([] : List Keyword).length + (if ([] : List Keyword).isEmpty then 0 else 1) < 30)) = true := by
  rw [star_cons h]
  rfl
theorem m1_of {X : Cx} {o : Expr} {m : Str} {apos cpos : Pos} {e : Expr} (hb : isBare o = false) (he : isStar e = false) (hl : (apos.endLine == cpos.line) = true) : M1 X o m apos e cpos := by
  refine ⟨attr_base hb, few_one he, hl, ?_⟩
  rw [star_cons he]
  rfl
theorem m2_of {X : Cx} {o : Expr} {m : Str} {apos cpos : Pos} {e f : Expr} (hb : isBare o = false) (he : isStar e = false) (hf : isStar f = false) (hl : (apos.endLine == cpos.line) = true) : M2 X o m apos e f cpos := by
  refine ⟨attr_base hb, ?_, hl, ?_⟩
  · rw [star_cons he, star_cons hf]
    rfl
  · rw [star_cons he, star_cons hf]
    rfl
end Ded
end

section
set_option Elab.async false
set_option linter.all false
set_option maxRecDepth 100000
/-! The script's slice, join, get, lists changed in place, what is lent or given over. -/
namespace Ded
open PySem L2
variable [TabName]
section
variable {X : Cx} {xc : Xc} {en : Entry xc.T} {Wi : XK} {e e2 e3 : Expr} {es : List Expr} {pos p apos : Pos} {m n l : M Val}
theorem d_sls {i : Nat} {x : Str} {lo hi : Option Int} {plo phi : Option Expr} {p2 : Pos} (hN : X.N[i]? = some x) (hv : Vis X.env.scope x) (hd : (x == ("__debug__" : Str)) = false) (hcd : (x == ("__classdict__" : Str)) = false)
    (hl : PO X plo fun σ H Q => Q lo H) (hh : PO X phi fun σ H Q => Q hi H) : PEd X xc en Wi (.Subscript (.Name x p) (.Slice plo phi none p2) pos) (mSls i lo hi) := by
  refine PE.imp (pe_slice sl_list (pe_var hN hv hd hcd) hl hh) fun σ H Q h => ?_
  obtain ⟨F, ex, s, r, fr, h⟩ := h
  unfold mSls at h
  cases e : slot s i with
  | none => rw [e] at h; exact h.elim
  | some v =>
    rw [e] at h
    cases v with
    | scr ns =>
      obtain ⟨x, e1, a, rfl, c⟩ := r.slot i _ (slot_eq.mp e)
      have h : Ends_ X.K xc en Wi (if ns.length ≤ sizeLine then R.ok (Val.own (.list ((cutL ns lo hi).map .int))) s else .bad) F ex s σ H _ := h
      split at h
      rotate_left
      · exact h.elim
      rename_i hz'
      have hz : (ns.map V.int).length ≤ sizeLine := by rw [List.length_map]; exact hz'
      refine ⟨_, e1, a, ns.map V.int, rfl, c.seq, fun p hp => Ends_.res h r Step.refl (fun a z => z) _ F _ ?_⟩
      have hc : cutV (ns.map V.int) lo hi = (cutL ns lo hi).map V.int := by
        unfold cutV cutL
        rw [List.length_map, List.map_take, List.map_drop]
      exact ResOk.lst r.fdom hp (Nat.le_trans (cutV_length _ _ _) hz) (by rw [hc]; exact RfA.ints _)
    | dat _ => exact h.elim
    | own _ => exact h.elim
    | ext _ => exact h.elim
    | bor _ => exact h.elim
    | loc _ => exact h.elim
/-- ahead of a method's dot -/
theorem dot_core {k : D → Bool} {β : Type} {f : Val → M Val} {σ : L2.St} {H : Hp} {Q : VK} (h : TE' X.K xc en Wi (M.bind (mDot k m) f) σ H Q) : TE' X.K xc en Wi m σ H fun x H1 =>
    ∃ F ex s F1 ex1 s1 u d H0, Rel X.K F1 ex1 s1 σ H1 ∧ From en F1 ex1 s1 σ H1 ∧ Step F ex s σ H0 F1 ex1 s1 H1 ∧ OV X.K F1 ex1 σ H1 x u ∧ RT X.K F1 H1 x d ∧ k d = true ∧ H0 = H ∧ Ends_ X.K xc en Wi (f u s1) F ex s σ H0 fun F' ex' H' s' v => ∀ x, RV X.K F' ex' s' σ H H' x v → Q x H' := by
  refine TE'.opd ?_
  obtain ⟨F, ex, s, r, fr, h⟩ := h
  have h := Ends_.bind (m := mDot k m) h
  refine ⟨F, ex, s, r, fr, (Ends_.bind (m := mOpd m) h).imp fun F1 ex1 H1 s1 u e1 r1 st1 q x rv => ?_⟩
  have ov : OV X.K F1 ex1 σ H1 x u := RV.ov e1 rv
  obtain ⟨d, p1, q⟩ := q.peek'
  by_cases hk : k d = true
  · rw [if_pos hk] at q
    exact ⟨F, ex, s, F1, ex1, s1, u, d, H, r1, fr.step st1, st1, ov, ov.peek r1 p1, hk, rfl, q F1 ex1 H1 r1 st1⟩
  · rw [if_neg hk] at q
    exact q.elim
theorem d_join (ho : PEd X xc en Wi e m) (ha : PEd X xc en Wi e2 n) (hb : isBare e = false) (hs : isStar e2 = false) (hl : (apos.endLine == pos.line) = true) : PEd X xc en Wi (.Call (.Attribute e "join" apos) [e2] [] pos) (mJoin m n) := by
  refine PE.imp (pe_join ho ha (star_cons hs) (attr_base hb) hl) fun σ H Q h => ?_
  have h := dot_core (β := Unit) h
  obtain ⟨F, ex, s, r, fr, h⟩ := h
  refine ⟨F, ex, s, r, fr, h.imp fun F' ex' H' s' v _ _ _ q x rv => ?_⟩
  obtain ⟨F0, ex0, s0, F1, ex1, s1, u, d, H0, r1, fr1, st1, ov, rt, hk, rfl, q⟩ := q x rv
  cases d <;> first | cases hk | skip
  rename_i a
  cases rt_str rt
  refine ⟨⟨a, rfl⟩, TE'.opd ⟨F1, ex1, s1, r1, fr1, ((Ends_.bind (m := mOpd n) q).later st1).imp fun F2 ex2 H2 s2 v e2 r2 st2 q y rv2 => ?_⟩⟩
  have ov2 : OV X.K F2 ex2 σ H2 y v := RV.ov e2 rv2
  have ov1 := ov.step r1 st2
  obtain ⟨dx, p1, q⟩ := q.peek'
  obtain ⟨dy, p2, q⟩ := q.peek'
  obtain ⟨res, p3, q⟩ := q.opt
  have rx := ov1.peek r2 p1
  have ry := ov2.peek r2 p2
  unfold gJoin at p3
  split at p3
  · obtain ⟨ss, p4, p3⟩ := Option.bind_eq_some_iff.mp p3
    split at p3 <;> cases p3
    rename_i hz
    obtain ⟨b, xs, rfl, eb, z, rr⟩ := rt_list ry
    obtain ⟨rfl, _⟩ := RfA.of_strs p4 rr
    have ea := rt_str rx
    cases ea
    exact ⟨_, b, ss, rfl, rfl, .inl (SqL.of eb), hz, q.res r2 (st1.trans st2) (fun a z => z) _ _ _ (ResOk.atom r2.fdom fun _ _ => .str _)⟩
  · cases p3
theorem d_get1 (hu : X.A.units + 1 < cLine) (ho : PEd X xc en Wi e m) (ha : PEd X xc en Wi e2 n) (hb : isBare e = false) (hs : isStar e2 = false) (hl : (apos.endLine == pos.line) = true) : PEd X xc en Wi (.Call (.Attribute e "get" apos) [e2] [] pos) (mGet1 m n) := by
  refine PE.imp (pe_dget1 hu ho ha (m1_of hb hs hl)) fun σ H Q h => ?_
  have h := dot_core (β := Unit) h
  obtain ⟨F, ex, s, r, fr, h⟩ := h
  refine ⟨F, ex, s, r, fr, h.imp fun F' ex' H' s' v _ _ _ q x rv => ?_⟩
  obtain ⟨F0, ex0, s0, F1, ex1, s1, u, d, H0, r1, fr1, st1, ov, rt, hk, rfl, q⟩ := q x rv
  cases d <;> first | cases hk | skip
  obtain ⟨a, kvs, rfl, er, rk⟩ := rt_dict rt
  refine ⟨a, rfl, .inl ⟨kvs, er⟩, TE'.opd ⟨F1, ex1, s1, r1, fr1, ((Ends_.bind (m := mOpd n) q).later st1).imp fun F2 ex2 H2 s2 v e2 r2 st2 q y rv2 => ?_⟩⟩
  have ov2 : OV X.K F2 ex2 σ H2 y v := RV.ov e2 rv2
  have ov1 := ov.step r1 st2
  obtain ⟨dx, p1, q⟩ := q.peek'
  obtain ⟨dy, p2, q⟩ := q.peek'
  obtain ⟨res, p3, q⟩ := q.opt
  have rx := ov1.peek r2 p1
  have ry := ov2.peek r2 p2
  unfold gGet at p3
  split at p3
  · split at p3 <;> cases p3
    rename_i hk
    obtain ⟨b, kvs2, eb, er2, rk2⟩ := rt_dict rx
    cases eb
    obtain ⟨k, rfl, rfl⟩ := key_of hk ry
    refine ⟨valV kvs2 k, .inl ⟨kvs2, k, er2, rfl, rfl⟩, q.res r2 (st1.trans st2) (fun a z => z) _ F2 _ ?_⟩
    rcases rk2.look k with ⟨e1, e2⟩ | ⟨w, d', e1, e2, rw'⟩
    · rw [e1, e2]; exact ResOk.atom r2.fdom fun _ _ => .non
    · rw [e1, e2]; exact ResOk.old r2.fdom rw'
  · cases p3
theorem d_get2 (hu : X.A.units + 1 < cLine) (ho : PEd X xc en Wi e m) (ha : PEd X xc en Wi e2 n) (hf : PEd X xc en Wi e3 l) (hb : isBare e = false) (hs : isStar e2 = false) (hs3 : isStar e3 = false) (hl : (apos.endLine == pos.line) = true) :
    PEd X xc en Wi (.Call (.Attribute e "get" apos) [e2, e3] [] pos) (mGet2 m n l) := by
  refine PE.imp (pe_dget2 hu ho ha hf (m2_of hb hs hs3 hl)) fun σ H Q h => ?_
  have h := dot_core (β := Unit) h
  obtain ⟨F, ex, s, r, fr, h⟩ := h
  refine ⟨F, ex, s, r, fr, h.imp fun F' ex' H' s' v _ _ _ q x rv => ?_⟩
  obtain ⟨F0, ex0, s0, F1, ex1, s1, u, d, H0, r1, fr1, st1, ov, rt, hk, rfl, q⟩ := q x rv
  cases d <;> first | cases hk | skip
  obtain ⟨a, kvs, rfl, er, rk⟩ := rt_dict rt
  refine ⟨a, rfl, .inl ⟨kvs, er⟩, TE'.opd ⟨F1, ex1, s1, r1, fr1, ((Ends_.bind (m := mOpd n) q).later st1).imp fun F2 ex2 H2 s2 v e2 r2 st2 q y rv2 => ?_⟩⟩
  have ov2 : OV X.K F2 ex2 σ H2 y v := RV.ov e2 rv2
  have ov1 := ov.step r1 st2
  have st12 := st1.trans st2
  refine T1.fz ⟨F2, ex2, s2, r2, fr1.step st2, ((Ends_.bind (m := mFrz l) q).later st12).imp fun F3 ex3 H3 s3 z e3 r3 st3 q w rw' => ?_⟩
  have rw' : Rf X.K F3 H3 w z := rw'
  have ov1 := ov1.step r2 st3
  have ov2 := ov2.step r2 st3
  obtain ⟨dx, p1, q⟩ := q.peek'
  obtain ⟨dy, p2, q⟩ := q.peek'
  obtain ⟨res, p3, q⟩ := q.opt
  have rx := ov1.peek r3 p1
  have ry := ov2.peek r3 p2
  unfold gGet at p3
  split at p3
  · split at p3 <;> cases p3
    rename_i hk
    obtain ⟨b, kvs2, eb, er2, rk2⟩ := rt_dict rx
    cases eb
    obtain ⟨k, rfl, rfl⟩ := key_of hk ry
    refine ⟨valV kvs2 k, .inl ⟨kvs2, k, er2, rfl, rfl⟩, q.res r3 (st12.trans st3) (fun a z => z) _ F3 _ ?_⟩
    rcases rk2.look k with ⟨e1, e2⟩ | ⟨w2, d', e1, e2, rw2⟩
    · rw [e1, e2]; exact ResOk.old r3.fdom rw'
    · rw [e1, e2]; exact ResOk.old r3.fdom rw2
  · cases p3
end
end Ded
end

section
set_option Elab.async false
set_option linter.all false
set_option maxRecDepth 100000
/-! Lists changed in place, what is lent or given over, displays of dicts. -/
namespace Ded
open PySem L2
variable [TabName]
section
variable {K : PySem.W.Frag} {xc : Xc} {en : Entry xc.T} {Wi : XK} {σ : L2.St} {F F0 : Fz} {ex ex0 : List Addr} {s s0 : S} {H H0 H00 : Hp} {Q : VK} {i : Nat}
theorem chk_ok {β : Type} {f : Unit → M β} {P : Fz → List Addr → Hp → S → β → Prop} (r : Rel K F ex s σ H) (h : Ends_ K xc en Wi (M.bind (chkL i) f s) F0 ex0 s0 σ H0 P) :
    ∃ a xs, σ[i]? = some (some (.ref a)) ∧ H a = some (.lst xs) ∧ Ends_ K xc en Wi (f () s) F0 ex0 s0 σ H0 P := by
  unfold M.bind chkL at h
  cases e : slot s i with
  | none => rw [e] at h; exact h.elim
  | some v =>
    rw [e] at h
    obtain ⟨x, e1, so⟩ := r.slot i v (slot_eq.mp e)
    cases v with
    | own d =>
      cases d with
      | list ds =>
        obtain ⟨a, rfl, ⟨xs, ea, _⟩, _⟩ := so
        exact ⟨a, xs, e1, ea, h⟩
      | _ => exact h.elim
    | ext k =>
      obtain ⟨a, ek, rfl⟩ := so
      cases e2 : s.μ[k]? with
      | none => simp only [e2] at h; exact h.elim
      | some d =>
        simp only [e2] at h
        cases d with
        | list ds =>
          obtain ⟨b, eb, _, xs, ea, _⟩ := r.cel k _ e2
          rw [ek] at eb; cases eb
          exact ⟨a, xs, e1, ea, h⟩
        | _ => exact h.elim
    | dat _ => exact h.elim
    | bor _ => exact h.elim
    | loc _ => exact h.elim
    | scr _ => exact h.elim
theorem put_ok {f : List D → Option (List D × D)} {a : Addr} (r : Rel K F ex s σ H) (st : Step F0 ex0 s0 σ H0 F ex s H) (hx : σ[i]? = some (some (.ref a)))
    (h : Ends_ K xc en Wi (putL i f s) F0 ex0 s0 σ H0 fun F' ex' H' s' v => ∀ x, RV K F' ex' s' σ H00 H' x v → Q x H') :
    ∃ xs ds ys d, H a = some (.lst xs) ∧ xs.length ≤ sizeLine ∧ RfA K F H xs ds ∧ f ds = some (ys, d) ∧ ∀ xs' x, xs'.length ≤ sizeLine → RfA K F H xs' ys → Rf K F H x d → Q x (upd H a (.lst xs')) := by
  unfold putL at h
  cases e : slot s i with
  | none => rw [e] at h; exact h.elim
  | some v =>
    rw [e] at h
    have e' := slot_eq.mp e
    obtain ⟨x, e1, so⟩ := r.slot i v e'
    rw [hx] at e1; cases e1
    cases v with
    | own d =>
      cases d with
      | list ds =>
        obtain ⟨b, eb, ⟨xs, ea, z, ra⟩, nf, nx⟩ := so
        cases eb
        cases e3 : f ds with
        | none => simp only [e3] at h; exact h.elim
        | some yd =>
          obtain ⟨ys, d⟩ := yd
          simp only [e3] at h
          refine ⟨xs, ds, ys, d, ea, z, ra, e3, fun xs' x hz ra' rx => ?_⟩
          have kp : Kp F H (upd H a (.lst xs')) := fun b u f _ z => by
            rw [upd_ne (fun q => nf (by rw [← q]; exact f))]; exact .inl z
          obtain ⟨r', g'⟩ := r.setOwn (o := .lst xs') (d' := .list ys) e' hx ⟨xs', upd_same, hz, RfA.mono (fun _ f => f) kp ys ra'⟩
          exact h F ex _ r' (st.trans ⟨g', List.prefix_refl _, .set fun _ => by simp⟩) x (Rf.mono (fun _ f => f) kp d rx)
      | _ => exact h.elim
    | ext k =>
      obtain ⟨b, ek, eb⟩ := so
      cases eb
      cases e2 : s.μ[k]? with
      | none => simp only [e2] at h; exact h.elim
      | some d =>
        simp only [e2] at h
        cases d with
        | list ds =>
          obtain ⟨b, eb, nf, xs, ea, z, ra⟩ := r.cel k _ e2
          rw [ek] at eb; cases eb
          cases e3 : f ds with
          | none => simp only [e3] at h; exact h.elim
          | some yd =>
            obtain ⟨ys, d⟩ := yd
            simp only [e3] at h
            refine ⟨xs, ds, ys, d, ea, z, ra, e3, fun xs' x hz ra' rx => ?_⟩
            have kp : Kp F H (upd H a (.lst xs')) := fun b u f _ z => by
              rw [upd_ne (fun q => nf (by rw [← q]; exact f))]; exact .inl z
            obtain ⟨r', g'⟩ := r.setExt (o := .lst xs') (d' := .list ys) e2 ek ⟨xs', upd_same, hz, RfA.mono (fun _ f => f) kp ys ra'⟩
            exact h F ex _ r' (st.trans ⟨g', List.prefix_refl _, .refl⟩) x (Rf.mono (fun _ f => f) kp d rx)
        | _ => exact h.elim
    | dat _ => exact h.elim
    | bor _ => exact h.elim
    | loc _ => exact h.elim
    | scr _ => exact h.elim
theorem chk_of_put {f : List D → Option (List D × D)} {P : Fz → List Addr → Hp → S → Val → Prop} (r : Rel K F ex s σ H) (h : Ends_ K xc en Wi (putL i f s) F0 ex0 s0 σ H0 P) : ∃ a, σ[i]? = some (some (.ref a)) := by
  unfold putL at h
  cases e : slot s i with
  | none => rw [e] at h; exact h.elim
  | some v =>
    rw [e] at h
    obtain ⟨x, e1, so⟩ := r.slot i v (slot_eq.mp e)
    cases v with
    | own d => obtain ⟨a, rfl, _⟩ := so; exact ⟨a, e1⟩
    | ext k => obtain ⟨a, ek, rfl⟩ := so; exact ⟨a, e1⟩
    | dat _ => exact h.elim
    | bor _ => exact h.elim
    | loc _ => exact h.elim
    | scr _ => exact h.elim
end
section
variable {X : Cx} {xc : Xc} {en : Entry xc.T} {Wi : XK} {e e2 e3 : Expr} {es : List Expr} {pos p apos : Pos} {m n l : M Val} {i : Nat} {x : Str}
theorem d_app (hN : X.N[i]? = some x) (hv : Vis X.env.scope x) (hd : (x == ("__debug__" : Str)) = false) (hcd : (x == ("__classdict__" : Str)) = false) (ha : PEd X xc en Wi e m) (hs : isStar e = false) (hl : (apos.endLine == pos.line) = true) :
    PEd X xc en Wi (.Call (.Attribute (.Name x p) "append" apos) [e] [] pos) (mApp i m) := by
  refine PE.imp (pe_bm PySem.F.plainAttrs_list PySem.F.slot_list_append PySem.F.type_list_append mt_append (pe_var hN hv hd hcd) (pa_cons ha pa_nil (star_cons hs)) rfl (few_one hs) hl (star_cons hs) rfl) fun σ H Q h => ?_
  obtain ⟨F, ex, s, r, fr, h⟩ := h
  obtain ⟨a, xs, e1, ea, h⟩ := chk_ok r h
  refine ⟨_, e1, .inl ⟨rfl, xs, SqL.of ea⟩, ?_⟩
  refine T1.fz ⟨F, ex, s, r, fr, (Ends_.bind (m := mFrz m) h).imp fun F1 ex1 H1 s1 d e2 r1 st1 q y ry => ?_⟩
  obtain ⟨xs, ds, ys, d2, ea, z, ra, ef, q⟩ := put_ok r1 st1 e1 q
  unfold appF at ef
  split at ef <;> cases ef
  rename_i hz
  have hz' : xs.length < sizeLine := by rw [ra.length]; exact hz
  exact ⟨a, xs, y, rfl, rfl, ea, hz', q (xs ++ [y]) .non (by rw [List.length_append]; exact hz') (ra.append (.cons ry .nil)) .non⟩
theorem eraseIdx_len {α : Type} (xs : List α) (k : Nat) : (xs.eraseIdx k).length ≤ xs.length := by
  rw [List.length_eraseIdx]; split <;> omega
theorem d_pop1 (hN : X.N[i]? = some x) (hv : Vis X.env.scope x) (hd : (x == ("__debug__" : Str)) = false) (hcd : (x == ("__classdict__" : Str)) = false) (ha : PEd X xc en Wi e m) (hs : isStar e = false) (hl : (apos.endLine == pos.line) = true) :
    PEd X xc en Wi (.Call (.Attribute (.Name x p) "pop" apos) [e] [] pos) (mPop1 i m) := by
  refine PE.imp (pe_bm PySem.F.plainAttrs_list PySem.F.slot_list_pop PySem.F.type_list_pop mt_popAt (pe_var hN hv hd hcd) (pa_cons ha pa_nil (star_cons hs)) rfl (few_one hs) hl (star_cons hs) rfl) fun σ H Q h => ?_
  obtain ⟨F, ex, s, r, fr, h⟩ := h
  obtain ⟨a, xs, e1, ea, h⟩ := chk_ok r h
  refine ⟨_, e1, .inl ⟨rfl, xs, SqL.of ea⟩, ?_⟩
  refine TE'.opd ⟨F, ex, s, r, fr, (Ends_.bind (m := mOpd m) h).imp fun F1 ex1 H1 s1 v e2 r1 st1 q y rv => ?_⟩
  have ov : OV X.K F1 ex1 σ H1 y v := RV.ov e2 rv
  obtain ⟨dx, p1, q⟩ := q.peek'
  split at q
  · rename_i j
    cases rt_int (ov.peek r1 p1)
    obtain ⟨xs, ds, ys, d2, ea, z, ra, ef, q⟩ := put_ok r1 st1 e1 q
    unfold popF at ef
    split at ef
    · rename_i k hk
      split at ef <;> cases ef
      rename_i hd
      obtain ⟨w, hw, rw'⟩ := ra.get hd
      obtain ⟨h1, h2, h3, h4⟩ := ixN_seq hk
      have hl := line63
      rw [← ra.length] at h1 h3 h4
      exact ⟨a, xs, j, k, w, rfl, rfl, ea, by omega, by omega, h1, hw, q (xs.eraseIdx k) w (Nat.le_trans (eraseIdx_len xs k) z) (ra.eraseIdx k) rw'⟩
    · cases ef
  · exact q.elim
theorem ixN_last {n : Nat} {k : Nat} (h : ixN n (-1) = some k) : k = n - 1 ∧ 0 < n := by
  unfold ixN at h
  split at h
  · omega
  · split at h <;> cases h
    omega
theorem d_pop0 (hN : X.N[i]? = some x) (hv : Vis X.env.scope x) (hd : (x == ("__debug__" : Str)) = false) (hcd : (x == ("__classdict__" : Str)) = false) (hl : (apos.endLine == pos.line) = true) :
    PEd X xc en Wi (.Call (.Attribute (.Name x p) "pop" apos) [] [] pos) (mPop0 i) := by
  refine PE.imp (pe_bm0 PySem.F.plainAttrs_list PySem.F.slot_list_pop PySem.F.type_list_pop mt_pop (pe_var hN hv hd hcd) rfl hl) fun σ H Q h => ?_
  obtain ⟨F, ex, s, r, fr, h⟩ := h
  have h' := chk_of_put r h
  obtain ⟨a, e1⟩ := h'
  obtain ⟨xs, ds, ys, d2, ea, z, ra, ef, q⟩ := put_ok r Step.refl e1 h
  unfold popF at ef
  split at ef
  · rename_i k hk
    split at ef <;> cases ef
    rename_i hd
    obtain ⟨w, hw, rw'⟩ := ra.get hd
    obtain ⟨e2, h0⟩ := ixN_last hk
    have e3 : xs.eraseIdx k = xs.dropLast := by
      rw [e2, ← ra.length]
      exact List.eraseIdx_length_sub_one
    rw [e2, ← ra.length] at hw
    exact ⟨_, e1, .inl ⟨rfl, xs, SqL.of ea⟩, a, xs, w, rfl, rfl, ea, hw, by rw [← e3]; exact q (xs.eraseIdx k) w (Nat.le_trans (eraseIdx_len xs k) z) (ra.eraseIdx k) rw'⟩
  · cases ef
end
end Ded
end

section
set_option Elab.async false
set_option linter.all false
set_option maxRecDepth 100000
/-! Defs whose stack bears no guard, their calls, their bodies. -/
namespace Ded
open PySem L2
variable [TabName]
theorem no_exc {P : Program} {w : World} {outer : List Env} {H : Hp} {s s' : Shared} {e : Value} (h : L2N.CX P w outer H s (fun _ _ _ => False) e s') : False := by
  obtain ⟨_, _, _, _, _, _, _, _, _, _, _, _, z⟩ := h
  exact z
theorem pass_no {X : Cx} : Passes (L2N.CX X.prog X.w) X (fun _ _ _ => False) := fun _ _ _ _ _ _ _ h => (no_exc h).elim
structure FnG (P : Program) (w : World) (K : PySem.W.Frag) (mg : Str → Option Value) (base : Heap) (k : Nat) (f : Addr) (fd : FuncData) (ps : List Str) (sp : Sp) : Prop where
  len : ∀ vs H Q E, sp vs H Q E → vs.length = ps.length
  go : ∀ (A : Around) (outer : List Env) (s : Shared) (H : Hp) (args : Args) (us : List Value) (vs : List V) (Q : VK) (E : XK), Room k A → A.guards = some [] → Env0 P w K mg base A outer s H →
    BindsTo s fd args (ps.zip us) → Vals vs us → sp vs H Q E → codeAny (model P w) A (.call (.ref f) args) (CR (L2N.CX P w) outer P w H s Q E) s
section
variable {X : Cx} {k : Nat} {f : Addr} {fd : FuncData} {ps ks : List Str} {sp : Sp} {E : XK} {x : Str} {p pos : Pos} {e : Expr} {es : List Expr} {kws : List Keyword} {t tk : TA}
/-- what a call is to end in -/
def Back (Q : Value → Shared → Prop) (E : Value → Shared → Prop) : Result → Shared → Prop
  | .ok (.ret u), s' => Q u s'
  | .error e, s' => E e s'
  | _, _ => False
theorem callee_run {pins : List (Addr × Obj)} {σ : L2.St} {H : Hp} {s : Shared} {Q : VK} {us : List Value} {vs : List V} {args : Args} (F : FnG X.prog X.w X.K X.mg X.base k f fd ps sp) (hr : Room k X.A) (hg : X.A.guards = some [])
    (hx : Passes (L2N.CX X.prog X.w) X E) (I : L2.Inv X pins σ H s) (hb : BindsTo s fd args (ps.zip us)) (r : Vals vs us) (h : sp vs H Q E) :
    codeAny (model X.prog X.w) X.A (.call (.ref f) args) (Back (EP X pins σ Q) X.xe) s := by
  refine codeAny_mono (F.go X.A X.stack s H args us vs Q E hr hg I.env0 hb r h) fun r s' q => ?_
  rcases r with e | fl
  · exact hx pins σ H s e s' I q
  · cases fl <;> first | exact I.after q | exact q
theorem call_back {M : Model} {A : Around} {f : Value} {us : List Value} {kw : List (Str × Value)} {Q : Value → Shared → Prop} {E : Value → Shared → Prop} {s : Shared}
    (h : codeAny M A (.call f ⟨us, kw⟩) (Back Q E) s) : wpAny M A (call f us kw) Q E s := by
  refine wpAny_call (codeAny_mono h fun r s' q => ?_)
  rcases r with e | fl
  · exact q
  · cases fl <;> first | exact q | exact False.elim q
theorem g_call (F : FnG X.prog X.w X.K X.mg X.base k f fd ps sp) (hr : Room k X.A) (hgd : X.A.guards = some []) (hg : Gl X x) (hm : X.mg x = some (.ref f)) (hk : PySem.W.keepIn X.K (.ref f) = true) (hb : Binds X.K fd ps [])
    (hx : Passes (L2N.CX X.prog X.w) X E) (ha : PA X (e :: es) t) (hdb : (x == ("__debug__" : Str)) = false) (he : starEach (e :: es) X.env = (false, eval e X.env) :: starEach es X.env) (hpl : (backTo pos (starEach es X.env)).any (·.1) = false) :
    PE X (.Call (.Name x p) (e :: es) [] pos) (fun σ H Q => t σ H fun vs H1 => sp vs H1 Q E) := by
  constructor
  intro pins s σ H Q I h
  apply wpAny_Call_Name_kw
  apply ld_glob I hg hm _ hdb
  apply PySem.W.callWith_K (h₀ := X.base) I.ok.mod.kin hk _ he hpl
  refine thn (ha.run pos pins s σ H _ I h) ?_
  rintro us s1 ⟨vs, H1, I1, r, q⟩
  refine ⟨I1.kIn, call_back ?_⟩
  have hl : us.length = ps.length := by rw [← r.length]; exact F.len _ _ _ _ q
  have hbb := hb s1 us I1.kIn (by rw [List.append_nil]; exact hl)
  rw [List.append_nil] at hbb
  exact callee_run F hr hgd hx I1 hbb r q
theorem g_call0 (F : FnG X.prog X.w X.K X.mg X.base k f fd ps sp) (hr : Room k X.A) (hgd : X.A.guards = some []) (hg : Gl X x) (hm : X.mg x = some (.ref f)) (hk : PySem.W.keepIn X.K (.ref f) = true) (hb : Binds X.K fd ps [])
    (hx : Passes (L2N.CX X.prog X.w) X E) (hdb : (x == ("__debug__" : Str)) = false) : PE X (.Call (.Name x p) [] [] pos) (fun σ H Q => sp [] H Q E) := by
  constructor
  intro pins s σ H Q I q
  apply wpAny_Call_Name_kw
  apply ld_glob I hg hm _ hdb
  apply PySem.W.callWith_K0 I.kIn hk
  refine call_back ?_
  have hl : ([] : List Value).length = ps.length := F.len _ _ _ _ q
  have hbb := hb s [] I.kIn hl
  exact callee_run (us := []) F hr hgd hx I hbb .nil q
/-- all arguments by keywords, in the parameters' order -/
theorem g_callk (F : FnG X.prog X.w X.K X.mg X.base k f fd ps sp) (hr : Room k X.A) (hgd : X.A.guards = some []) (hg : Gl X x) (hm : X.mg x = some (.ref f)) (hk : PySem.W.keepIn X.K (.ref f) = true)
    (hb : ∀ (s : Shared) (us : List Value), X.K.In s.heap → us.length = ps.length → BindsTo s fd ⟨[], ps.zip us⟩ (ps.zip us))
    (hx : Passes (L2N.CX X.prog X.w) X E) (ha : PK X kws t) (hdb : (x == ("__debug__" : Str)) = false)
    (hall : (backToKw pos (keywordEach kws X.env)).all (·.1.isSome) = true) (hks : (backToKw pos (keywordEach kws X.env)).filterMap (·.1) = ps) (hn : (backToKw pos (keywordEach kws X.env)).any (·.1.isNone) = false) :
    PE X (.Call (.Name x p) [] kws pos) (fun σ H Q => t σ H fun vs H1 => sp vs H1 Q E) := by
  constructor
  intro pins s σ H Q I h
  apply wpAny_Call_Name_kw
  apply ld_glob I hg hm _ hdb
  refine PySem.W.callWith_KW0 (h₀ := X.base) I.ok.mod.kin hk hall ?_ hn
  refine thn (ha.run pos pins s σ H _ I h) ?_
  rintro us s1 ⟨vs, H1, I1, r, q⟩
  refine ⟨I1.kIn, ?_⟩
  rw [hks]
  refine call_back ?_
  have hl : us.length = ps.length := by rw [← r.length]; exact F.len _ _ _ _ q
  exact callee_run F hr hgd hx I1 (hb s1 us I1.kIn hl) r q
theorem vals_get : ∀ {vs : List V} {us : List Value} (i : Nat), Vals vs us → (∃ v u, vs[i]? = some v ∧ us[i]? = some u ∧ RelV v u) ∨ (vs[i]? = none ∧ us[i]? = none)
  | _, _, _, .nil => .inr ⟨by simp, by simp⟩
  | _, _, 0, .cons a _ => .inl ⟨_, _, rfl, rfl, a⟩
  | _, _, i + 1, .cons _ r => by
    rcases vals_get i r with ⟨v, u, h1, h2, h3⟩ | ⟨h1, h2⟩
    · exact .inl ⟨v, u, by simpa using h1, by simpa using h2, h3⟩
    · exact .inr ⟨by simpa using h1, by simpa using h2⟩
theorem vals_rearr {vs : List V} {us : List Value} (r : Vals vs us) : ∀ ix : List Nat, Vals (rearr ix vs) (rearr ix us)
  | [] => .nil
  | i :: ix => by
    have ih := vals_rearr r ix
    unfold rearr at ih ⊢
    rw [List.filterMap_cons, List.filterMap_cons]
    rcases vals_get i r with ⟨v, u, h1, h2, h3⟩ | ⟨h1, h2⟩
    · rw [h1, h2]; exact .cons h3 ih
    · rw [h1, h2]; exact ih
/-- all arguments by keywords, in any order -/
theorem g_callp {ix : List Nat} {n : Nat} (F : FnG X.prog X.w X.K X.mg X.base k f fd ps sp) (hr : Room k X.A) (hgd : X.A.guards = some []) (hg : Gl X x) (hm : X.mg x = some (.ref f)) (hk : PySem.W.keepIn X.K (.ref f) = true)
    (hb : ∀ (s : Shared) (us : List Value), X.K.In s.heap → us.length = n → BindsTo s fd ⟨[], ks.zip us⟩ (ps.zip (rearr ix us)))
    (hx : Passes (L2N.CX X.prog X.w) X E) (ha : PK X kws t) (hdb : (x == ("__debug__" : Str)) = false)
    (hall : (backToKw pos (keywordEach kws X.env)).all (·.1.isSome) = true) (hks : (backToKw pos (keywordEach kws X.env)).filterMap (·.1) = ks) (hn : (backToKw pos (keywordEach kws X.env)).any (·.1.isNone) = false) :
    PE X (.Call (.Name x p) [] kws pos) (fun σ H Q => t σ H fun vs H1 => vs.length = n ∧ sp (rearr ix vs) H1 Q E) := by
  constructor
  intro pins s σ H Q I h
  apply wpAny_Call_Name_kw
  apply ld_glob I hg hm _ hdb
  refine PySem.W.callWith_KW0 (h₀ := X.base) I.ok.mod.kin hk hall ?_ hn
  refine thn (ha.run pos pins s σ H _ I h) ?_
  rintro us s1 ⟨vs, H1, I1, r, hl, q⟩
  refine ⟨I1.kIn, ?_⟩
  rw [hks]
  refine call_back ?_
  exact callee_run F hr hgd hx I1 (hb s1 us I1.kIn (by rw [← r.length]; exact hl)) (vals_rearr r ix) q
end
section
variable {P : Program} {w : World} {K : PySem.W.Frag} {mg : Str → Option Value} {base : Heap}
/-- a def of the text, by its body -/
theorem FnG.of {k : Nat} {x qual : Str} {st : Stmt} {f : Addr} {fd : FuncData} {N ps : List Str} {sp : Sp} (Fu : Fun K x qual st f fd) (S : FnScope N ps (defScope st)) (len : ∀ vs H Q E, sp vs H Q E → vs.length = ps.length)
    (hbody : ∀ (cdv : Value) (A : Around) (outer : List Env) (s : Shared) (H : Hp) (vs : List V) (Q : VK) (E : XK), fd.code = cdv → Room k (A.deeper (PyProof.Rows.envOfC qual (defScope st) s.heap.objs.size f cdv)) → A.guards = some [] → sp vs H Q E →
      ∃ t, PSs (cxOf (L2N.CX P w) P w K mg base N qual (defScope st) f cdv A outer s H E) (defBody st) t ∧ t { nx := fun _ H' => Q .non H', rt := Q } (start N vs) H) : FnG P w K mg base (k + 1) f fd ps sp := by
  obtain ⟨oc, od, kV, doc, pm, an, cdv, ct, osl, rfl, lk, hcd⟩ := Fu.ex
  constructor
  · exact len
  intro A outer s H args us vs Q E room grd e0 bnd rv hsp
  have lenv := len vs H Q E hsp
  have inK : K.In s.heap := e0.mod.kin.keeps fun b o z => (e0.bs b o z).1
  have nolim : s.heap.NoLimit := e0.mod.nolimit.keeps fun b o z => (e0.bs b o z).1
  apply codeAny_call_function room.depth (inK _ _ lk) rfl S.co S.gen rfl (PySem.W.codeRec_of inK hcd)
  apply bnd
  have kinds : ∀ y ∈ ps.zip us, (defScope st).names.lookup y.1 = some .local ∨ ((defScope st).names.lookup y.1 = some .cell ∧ ((cellsFrom (s.heap.objs.size + 1) (defScope st).names []).lookup y.1).isSome = true) := by
    rintro ⟨n, v⟩ hy
    exact (S.par n (List.of_mem_zip hy).1).elim .inl fun q => .inr ⟨q, PySem.W.cellsFrom_some _ _ _ (.inl q)⟩
  refine wpAny_newFunctionEnv_cells S.kind kinds fun env he s1 x => ?_
  cases he
  refine ⟨nolim.keeps x.toInCall.keep, codeAny_func ?_⟩
  obtain ⟨t, ht, hq⟩ := hbody cdv A outer s H vs Q E rfl (room.deeper _) grd hsp
  have start_ok := inv_start (CX := L2N.CX P w) (E := E) S room.hd e0 lenv rv x
  refine wpAny_mono (ht.run [] s1 (start N vs) H _ start_ok hq) ?_ fun e s' z => z
  intro fl s' hs
  have done : ∀ {σ' : L2.St} {H' : Hp} {v : V} {u : Value}, L2.Inv (cxOf (L2N.CX P w) P w K mg base N qual (defScope st) f cdv A outer s H E) [] σ' H' s' → RelV v u → Q v H' → CE outer P w H s Q u s' := by
    intro σ' H' v u J rv q
    exact ⟨v, H', J.os, J.bare, J.base, J.hok, rv, q⟩
  cases fl with
  | ret u => exact let ⟨v, σ', H', J, rv, q⟩ := hs; done J rv q
  | next => exact let ⟨σ', H', J, q⟩ := hs; done (v := V.non) (u := Value.none) J rfl q
  | brk => exact let ⟨_, _, _, q⟩ := hs; q.elim
  | cont => exact let ⟨_, _, _, q⟩ := hs; q.elim
end
end Ded
end

section
set_option Elab.async false
set_option linter.all false
set_option maxRecDepth 100000
/-! What a def promises: what the evaluator says of it. -/
namespace Ded
open PySem L2
variable [TabName]
def ArgOk (K : PySem.W.Frag) (F : Fz) (ex : List Addr) (H : Hp) (x : V) : Val → Prop
  | .dat d => Rf K F H x d
  | .ext k => ∃ a, ex[k]? = some a ∧ x = .ref a
  | .bor d => ∃ a, x = .ref a ∧ Cell K F H a d ∧ ¬ F a ∧ a ∉ ex
  | .scr ns => ∃ a, x = .ref a ∧ Scr K H a ns
  | _ => False
structure Handed (K : PySem.W.Frag) (F : Fz) (ex : List Addr) (μ : List D) (H : Hp) (xs : List V) (us : List Val) : Prop where
  all : All2 (ArgOk K F ex H) xs us
  exl : μ.length = ex.length
  exd : ex.Nodup
  cel : ∀ (k : Nat) (d : D), μ[k]? = some d → ∃ a, ex[k]? = some a ∧ ¬ F a ∧ Cell K F H a d
  fdom : ∀ a, F a → ∃ o, H a = some o
def entryOf (T : List (Addr × Str)) (F : Fz) (ex : List Addr) (H : Hp) : Entry T := ⟨F, H, ex, fun a => a ∈ ex⟩
def RetV (K : PySem.W.Frag) (F : Fz) (ex : List Addr) (H0 H : Hp) (x : V) : Val → Prop
  | .dat d => Rf K F H x d
  | .own d => ∃ a, x = .ref a ∧ Cell K F H a d ∧ ¬ F a ∧ a ∉ ex ∧ H0 a = none
  | .ext k => ∃ a, ex[k]? = some a ∧ x = .ref a
  | _ => False
def spD (K : PySem.W.Frag) (xc : Xc) (cd : List Val → List D → R Val) (n : Nat) : Sp := fun vs H Q E => vs.length = n ∧ ∃ F ex us μ, Handed K F ex μ H vs us ∧ LamX.Tabs xc.T H ∧ match cd us μ with
  | .ok v t => ∀ x F' ex' H', XRel K (entryOf xc.T F ex H) F' ex' t.μ H' → RetV K F' ex' H H' x v → Q x H'
  | .exc c fs t => ∀ F' ex' H' cls od, XRel K (entryOf xc.T F ex H) F' ex' t.μ H' → xc.x c fs F' ex' t.μ H' cls od → E cls od H'
  | .bad => False
section
variable {K : PySem.W.Frag} {xc : Xc} {en : Entry xc.T} {Wi : XK} {σ : L2.St} {F F' : Fz} {ex ex' : List Addr} {s : S} {μ : List D} {H H' : Hp}
theorem Grow.widen {F M N F1 M1 : Fz} {H H1 : Hp} (g : Grow F M H F1 M1 H1) (h : ∀ a, M a → N a) : Grow F N H F1 M1 H1 :=
  ⟨fun a o n e nm => g.keep a o n e fun m => nm (h a m), g.dom, g.fmono, fun a f => (g.fnew a f).imp_right fun z => z.imp_left (h a), fun a m => (g.mnew a m).imp_left (h a), g.tab⟩
theorem All2.length {α : Type} {R : V → α → Prop} : ∀ {xs : List V} {as : List α}, All2 R xs as → xs.length = as.length
  | _, _, .nil => rfl
  | _, _, .cons _ r => by simp [All2.length r]
/-- the arguments, as they stand at the call -/
theorem handed (r : Rel K F ex s σ H) : ∀ {vs : List Val} {xs : List V} {us : List Val}, All2 (fun x v => RAr K F ex s σ H x v) xs vs → solveAll s vs = some us → All2 (ArgOk K F ex H) xs us
  | [], _, us, .nil, e => by cases e; exact .nil
  | v :: vs, _, us, .cons a as, e => by
    simp only [solveAll] at e
    split at e <;> cases e
    rename_i u us e1 e2
    refine .cons ?_ (handed r as e2)
    cases v with
    | dat d => cases e1; exact a
    | ext k => cases e1; exact a
    | scr ns => cases e1; exact a
    | loc i =>
      simp only [solve] at e1
      split at e1 <;> cases e1
      · rename_i d hs
        obtain ⟨x, ex1, b, rfl, c, nf, nx⟩ := r.slot i _ (slot_eq.mp hs)
        rw [a] at ex1; cases ex1
        exact ⟨b, rfl, c, nf, nx⟩
      · rename_i d hs
        obtain ⟨x, ex1, b, rfl, c, nf, nx⟩ := r.slot i _ (slot_eq.mp hs)
        rw [a] at ex1; cases ex1
        exact ⟨b, rfl, c, nf, nx⟩
    | own _ => cases e1
    | bor _ => cases e1
/-- behind a call -/
theorem after_call (r : Rel K F ex s σ H) (x : XRel K (entryOf xc.T F ex H) F' ex' μ H') : Rel K F' ex' { s with μ := μ } σ H' ∧ Step F ex s σ H F' ex' { s with μ := μ } H' := by
  obtain ⟨M, g⟩ := x.grow
  have hx : ∀ a, a ∈ ex' → a ∈ ex ∨ H a = none := x.new
  have owk : ∀ a, Ow s.ρ σ a → a ∉ ex ∧ ∃ o, H a = some o := fun a o => (r.ow o).2
  refine ⟨⟨r.len, fun i v e => ?_, r.sep, r.lent, x.exl, x.exd, x.cel, x.fdom⟩, ⟨⟨fun a o n e nm => g.keep a o n e fun m => nm (.inl m), g.dom, g.fmono, fun a f => (g.fnew a f).imp_right fun z => z.imp_left .inl, fun a m => ?_, g.tab⟩, x.pre, .refl⟩⟩
  · obtain ⟨y, e1, h⟩ := r.slot i v e
    refine ⟨y, e1, h.grow g (fun a f m => (r.exm m).1 f) (fun a o u m e => r.nfz a o u (.inl m) e) (fun k a e => pre_get x.pre e) (fun a m => (hx a m).imp_right .inr) fun a d ea hv m => ?_⟩
    rcases hv with rfl | rfl
    · obtain ⟨b, eb, _, _, nx⟩ := h
      rw [ea] at eb; cases eb
      exact nx m
    · obtain ⟨b, eb, _, _, nx⟩ := h
      rw [ea] at eb; cases eb
      exact nx m
  · rcases m with m | m
    · exact (hx a m).imp_left .inl
    · exact .inl (.inr m)
end
section
variable {X : Cx} {xc : Xc} {en : Entry xc.T} {Wi : XK} {σ : L2.St} {H : Hp} {Q : VK}
theorem call_core {cd : Nat → List Val → List D → R Val} {g n : Nat} {l : M (List Val)} (hn : ∀ us μ, us.length ≠ n → cd g us μ = .bad) (h : TE' X.K xc en Wi (mCall cd g l) σ H Q) :
    TL X.K xc en Wi (RAr X.K) l σ H fun vs H1 => spD X.K xc (cd g) n vs H1 Q Wi := by
  obtain ⟨F, ex, s, r, fr, h⟩ := h
  refine ⟨F, ex, s, r, fr, (Ends_.bind (m := l) h).imp fun F1 ex1 H1 s1 vals e1 r1 st1 q xs rs => ?_⟩
  cases e2 : solveAll s1 vals with
  | none => simp only [e2] at q; exact q.elim
  | some us =>
    simp only [e2] at q
    have ha := handed r1 rs e2
    have hl : xs.length = us.length := ha.length
    have hlen : us.length = n := by
      by_cases h : us.length = n
      · exact h
      · rw [hn us s1.μ h] at q; exact q.elim
    refine ⟨hl.trans hlen, F1, ex1, us, s1.μ, ⟨ha, r1.exl, r1.exd, r1.cel, r1.fdom⟩, (fr.step st1).tb, ?_⟩
    cases e3 : cd g us s1.μ with
    | ok v t =>
      simp only [e3] at q ⊢
      intro x F' ex' H' xr rv
      obtain ⟨r2, st2⟩ := after_call r1 xr
      refine q F' ex' H' r2 (st1.trans st2) x ?_
      cases v with
      | dat d => exact rv
      | own d =>
        obtain ⟨a, rfl, c, nf, nx, n0⟩ := rv
        refine ⟨a, rfl, c, nf, fun m => ?_, fun b => ?_, st1.grow.none n0⟩
        · rcases m with m | m
          · exact nx m
          · obtain ⟨o, eo⟩ := r1.mdom (.inr m)
            rw [n0] at eo; cases eo
        · obtain ⟨o, eo⟩ := r1.bo b
          rw [n0] at eo; cases eo
      | ext k => exact rv
      | bor _ => exact rv.elim
      | loc _ => exact rv.elim
      | scr _ => exact rv.elim
    | exc c fs t =>
      simp only [e3] at q ⊢
      intro F' ex' H' cls od xr hc
      refine q F' ex' H' cls od ?_ hc
      obtain ⟨M, g⟩ := xr.grow
      have fr1 := fr.step st1
      exact ⟨⟨M, fr1.grow.trans (g.widen fun a m => .inl m)⟩, fr1.pre.trans xr.pre, xr.exl, xr.exd, xr.cel, xr.fdom, fun a m => by
        rcases xr.new a m with m | z
        · rcases fr1.grow.mnew a (.inl m) with m | z
          · exact .inl m
          · exact .inr z
        · exact .inr (fr1.grow.none z)⟩
    | bad => simp only [e3] at q; exact q.elim
end
end Ded
end

section
set_option Elab.async false
set_option linter.all false
set_option maxRecDepth 100000
/-! Statements. -/
namespace Ded
open PySem L2
variable [TabName]
/-- since a moment: what was frozen then -/
structure Bs where
  F : Fz
  H : Hp
structure FromL {T : List (Addr × Str)} (en : Entry T) (B : Bs) (F : Fz) (ex : List Addr) (s : S) (σ : L2.St) (H : Hp) : Prop where
  fr : From en F ex s σ H
  lm : ∀ a, B.F a → F a
  lk : Kp B.F B.H H
theorem FromL.with {T : List (Addr × Str)} {en : Entry T} {B : Bs} {F : Fz} {ex ex' : List Addr} {s s' : S} {σ σ' : L2.St} {H : Hp} (f : FromL en B F ex s σ H) (g : From en F ex' s' σ' H) : FromL en B F ex' s' σ' H := ⟨g, f.lm, f.lk⟩
theorem FromL.step {K : PySem.W.Frag} {T : List (Addr × Str)} {en : Entry T} {B : Bs} {F F1 : Fz} {ex ex1 : List Addr} {s s1 : S} {σ : L2.St} {H H1 : Hp} (f : FromL en B F ex s σ H) (r : Rel K F ex s σ H) (b : Step F ex s σ H F1 ex1 s1 H1) : FromL en B F1 ex1 s1 σ H1 :=
  ⟨f.fr.step b, fun a z => b.grow.fmono a (f.lm a z), f.lk.then f.lm (b.grow.kp r.dj)⟩
section
variable (K : PySem.W.Frag) (xc : Xc) (en : Entry xc.T) (Wi : XK) (B : Bs)
/-- a flow's end -/
def FEnds (r : R Flow) (D : Ends) : Prop :=
  match r with
  | .ok .nx s' => ∀ σ' F' ex' H', Rel K F' ex' s' σ' H' → FromL en B F' ex' s' σ' H' → D.nx σ' H'
  | .ok .bk s' => ∀ σ' F' ex' H', Rel K F' ex' s' σ' H' → FromL en B F' ex' s' σ' H' → D.bk σ' H'
  | .ok .ct s' => ∀ σ' F' ex' H', Rel K F' ex' s' σ' H' → FromL en B F' ex' s' σ' H' → D.ct σ' H'
  | .ok (.rt v) s' => ∀ F' ex' H' x, XRel K en F' ex' s'.μ H' → RetV K F' ex' en.H H' x v → D.rt x H'
  | .exc c fs s' => ∀ F' ex' H' cls od, XRel K en F' ex' s'.μ H' → xc.x c fs F' ex' s'.μ H' cls od → Wi cls od H'
  | .bad => False
def TS' (m : M Flow) : TS := fun D σ H => ∃ F ex s B, Rel K F ex s σ H ∧ FromL en B F ex s σ H ∧ FEnds K xc en Wi B (m s) D
end
section
variable {K : PySem.W.Frag} {xc : Xc} {en : Entry xc.T} {Wi : XK} {B : Bs} {σ : L2.St} {F F' : Fz} {ex ex' : List Addr} {s s' : S} {H H' : Hp}
theorem xrel_of (r : Rel K F ex s σ H) (f : From en F ex s σ H) : XRel K en F ex s.μ H :=
  ⟨⟨_, f.grow⟩, f.pre, r.exl, r.exd, r.cel, r.fdom, fun a m => f.grow.mnew a (.inl m)⟩
/-- from an expression's end to a statement's -/
theorem Ends_.flow {α : Type} {m : M α} {f : α → M Flow} {D : Ends} (r : Rel K F ex s σ H) (fr : FromL en B F ex s σ H) (h : FEnds K xc en Wi B (M.bind m f s) D) :
    Ends_ K xc en Wi (m s) F ex s σ H fun F1 ex1 H1 s1 a => FromL en B F1 ex1 s1 σ H1 ∧ FEnds K xc en Wi B (f a s1) D := by
  unfold M.bind at h
  cases e : m s with
  | ok a t =>
    rw [e] at h
    exact fun F' ex' H' r2 st => ⟨fr.step r st, h⟩
  | exc c fs t => rw [e] at h; exact h
  | bad => rw [e] at h; exact h
/-- an exception passes the statement by; a flow is taken further -/
theorem FEnds.bindf {m : M Flow} {f : Flow → M Flow} {B' : Bs} {D D' : Ends} (h : FEnds K xc en Wi B (M.bind m f s) D)
    (hn : ∀ t, FEnds K xc en Wi B (f .nx t) D → ∀ σ' F' ex' H', Rel K F' ex' t σ' H' → FromL en B' F' ex' t σ' H' → D'.nx σ' H')
    (hb : ∀ t, FEnds K xc en Wi B (f .bk t) D → ∀ σ' F' ex' H', Rel K F' ex' t σ' H' → FromL en B' F' ex' t σ' H' → D'.bk σ' H')
    (hc : ∀ t, FEnds K xc en Wi B (f .ct t) D → ∀ σ' F' ex' H', Rel K F' ex' t σ' H' → FromL en B' F' ex' t σ' H' → D'.ct σ' H')
    (hr : ∀ v t, FEnds K xc en Wi B (f (.rt v) t) D → ∀ F' ex' H' x, XRel K en F' ex' t.μ H' → RetV K F' ex' en.H H' x v → D'.rt x H') : FEnds K xc en Wi B' (m s) D' := by
  unfold M.bind at h
  cases e : m s with
  | ok a t =>
    rw [e] at h
    cases a with
    | nx => exact hn t h
    | bk => exact hb t h
    | ct => exact hc t h
    | rt v => exact hr v t h
  | exc c fs t => rw [e] at h; exact h
  | bad => rw [e] at h; exact h
/-- a slot is given a value -/
theorem Rel.assign {i : Nat} {x : V} {v : Val} {H0 : Hp} (r : Rel K F ex s σ H) (f : From en F ex s σ H) (h : RV K F ex s σ H0 H x v) (hv : (∃ d, v = .dat d) ∨ (∃ d, v = .own d) ∨ ∃ k, v = .ext k) (h0 : ∀ a, H0 a = none → en.H a = none) (hi : i < s.ρ.length) :
    Rel K F ex (setSlot s i v) (σ.set i (some x)) H ∧ From en F ex (setSlot s i v) (σ.set i (some x)) H := by
  have hσ : i < σ.length := by rw [← r.len]; exact hi
  have gs : ∀ {j : Nat} {w : Val}, (s.ρ.set i (some v))[j]? = some (some w) → (i = j ∧ w = v) ∨ (i ≠ j ∧ s.ρ[j]? = some (some w)) := fun {j w} z => by
    by_cases h : i = j
    · subst h; rw [List.getElem?_set_self hi] at z; cases z; exact .inl ⟨rfl, rfl⟩
    · rw [List.getElem?_set_ne h] at z; exact .inr ⟨h, z⟩
  have gσ : ∀ {j : Nat}, i ≠ j → (σ.set i (some x))[j]? = σ[j]? := fun h => List.getElem?_set_ne h
  have gi : (σ.set i (some x))[i]? = some (some x) := List.getElem?_set_self hσ
  have so : SlotOk K F ex H x v := by
    rcases hv with ⟨d, rfl⟩ | ⟨d, rfl⟩ | ⟨k, rfl⟩
    · exact h
    · obtain ⟨a, rfl, c, nf, nm, _, _⟩ := h
      exact ⟨a, rfl, c, nf, fun m => nm (.inl m)⟩
    · exact h
  have ow : ∀ b, Ow (setSlot s i v).ρ (σ.set i (some x)) b → Ow s.ρ σ b ∨ (x = .ref b ∧ ∃ d, v = .own d) := fun b ⟨j, d1, e3, e4⟩ => by
    rcases gs e3 with ⟨rfl, z⟩ | ⟨n, z⟩
    · rw [gi] at e4; cases e4; exact .inr ⟨rfl, d1, z.symm⟩
    · rw [gσ n] at e4; exact .inl ⟨j, d1, z, e4⟩
  have fresh : ∀ b, (x = .ref b ∧ ∃ d, v = .own d) → ¬ Mu s.ρ σ ex b ∧ ¬ Bo s.ρ σ b ∧ en.H b = none := fun b ⟨e, d, e2⟩ => by
    subst e2
    obtain ⟨a, ea, _, _, nm, nb, n0⟩ := h
    rw [e] at ea; cases ea
    exact ⟨nm, nb, h0 b n0⟩
  refine ⟨⟨by simp [setSlot, r.len], fun j w e3 => ?_, fun j k d1 d2 b e3 e4 h1 h2 => ?_, fun j d1 b e3 e4 o => ?_, r.exl, r.exd, r.cel, r.fdom⟩, ⟨⟨f.grow.keep, f.grow.dom, f.grow.fmono, f.grow.fnew, fun b m => ?_, f.grow.tab⟩, f.pre, f.tb⟩⟩
  · rcases gs e3 with ⟨rfl, rfl⟩ | ⟨n, z⟩
    · exact ⟨x, gi, so⟩
    · rw [gσ n]; exact r.slot j w z
  · rcases gs e3 with ⟨rfl, q1⟩ | ⟨n1, z1⟩
    · rcases gs e4 with ⟨rfl, q2⟩ | ⟨n2, z2⟩
      · rfl
      · rw [gi] at h1; rw [gσ n2] at h2
        cases h1
        exact absurd (.inr ⟨k, d2, z2, h2⟩) (fresh b ⟨rfl, d1, q1.symm⟩).1
    · rcases gs e4 with ⟨rfl, q2⟩ | ⟨n2, z2⟩
      · rw [gi] at h2; rw [gσ n1] at h1
        cases h2
        exact absurd (.inr ⟨j, d1, z1, h1⟩) (fresh b ⟨rfl, d2, q2.symm⟩).1
      · rw [gσ n1] at h1; rw [gσ n2] at h2
        exact r.sep j k d1 d2 b z1 z2 h1 h2
  · rcases gs e3 with ⟨rfl, z⟩ | ⟨n, z⟩
    · rcases hv with ⟨d, rfl⟩ | ⟨d, rfl⟩ | ⟨k, rfl⟩ <;> cases z
    · rw [gσ n] at e4
      rcases ow b o with o | o
      · exact r.lent j d1 b z e4 o
      · exact (fresh b o).2.1 ⟨j, d1, z, e4⟩
  · rcases m with m | m
    · exact f.grow.mnew b (.inl m)
    · rcases ow b m with o | o
      · exact f.grow.mnew b (.inr o)
      · exact .inr (fresh b o).2.2
end
section
variable {X : Cx} {xc : Xc} {en : Entry xc.T} {Wi : XK} {e : Expr} {es : List Expr} {pos p p' : Pos} {m n : M Val} {st : Stmt} {rest : List Stmt} {i : Nat} {x : Str}
theorem PS.imp {st : Stmt} {t t' : TS} (h : PS X st t) (q : ∀ D σ H, t' D σ H → t D σ H) : PS X st t' := ⟨fun pins s σ H D I z => h.run pins s σ H D I (q D σ H z)⟩
theorem PSs.imp {st : List Stmt} {t t' : TS} (h : PSs X st t) (q : ∀ D σ H, t' D σ H → t D σ H) : PSs X st t' := ⟨fun pins s σ H D I z => h.run pins s σ H D I (q D σ H z)⟩
theorem k_nop : PSs X [] (TS' X.K xc en Wi (M.ret .nx)) := PSs.imp pss_nil fun D σ H ⟨F, ex, s, B, r, f, h⟩ => h σ F ex H r f
theorem k_then {a k : M Flow} (ha : PS X st (TS' X.K xc en Wi a)) (hk : PSs X rest (TS' X.K xc en Wi k)) : PSs X (st :: rest) (TS' X.K xc en Wi (thenK a k)) := by
  refine PSs.imp (pss_cons ha hk) fun D σ H ⟨F, ex, s, B, r, f, h⟩ => ⟨F, ex, s, B, r, f, ?_⟩
  refine FEnds.bindf h (fun t q σ' F' ex' H' r f => ⟨F', ex', t, B, r, f, q⟩) (fun t q => q) (fun t q => q) fun v t q => q
theorem k_exp (he : PEd X xc en Wi e m) (hs : swapsWith e none pos.line X.env = pure false) : PS X (.Expr e pos) (TS' X.K xc en Wi (kExp m)) := by
  refine PS.imp (ps_expr he hs) fun D σ H ⟨F, ex, s, B, r, f, h⟩ => ?_
  exact ⟨F, ex, s, r, f.fr, (Ends_.flow r f h).imp fun F1 ex1 H1 s1 v e1 r1 st1 ⟨f1, q⟩ x rv => q σ F1 ex1 H1 r1 f1⟩
theorem put_core {σ : L2.St} {F : Fz} {ex : List Addr} {s : S} {H H0 : Hp} {D : Ends} {x : V} {v : Val} {B : Bs} (f : FromL en B F ex s σ H) (r : Rel X.K F ex s σ H) (rv : RV X.K F ex s σ H0 H x v) (hv : (∃ d, v = .dat d) ∨ (∃ d, v = .own d) ∨ ∃ k, v = .ext k) (h0 : ∀ a, H0 a = none → en.H a = none)
    {k : Unit → M Flow} (q : FEnds X.K xc en Wi B (M.bind (putSlot i v) k s) D) :
    Rel X.K F ex (setSlot s i v) (σ.set i (some x)) H ∧ FromL en B F ex (setSlot s i v) (σ.set i (some x)) H ∧ FEnds X.K xc en Wi B (k () (setSlot s i v)) D := by
  unfold M.bind putSlot at q
  by_cases hi : i < s.ρ.length
  · rw [if_pos hi] at q
    obtain ⟨r2, f2⟩ := r.assign (i := i) f.fr rv hv h0 hi
    exact ⟨r2, f.with f2, q⟩
  · rw [if_neg hi] at q
    exact q.elim
theorem set_core {σ : L2.St} {H : Hp} {D : Ends} (h : TS' X.K xc en Wi (kSet i m) D σ H) : TE' X.K xc en Wi m σ H fun x H1 => D.nx (σ.set i (some x)) H1 := by
  obtain ⟨F, ex, s, B, r, f, h⟩ := h
  refine ⟨F, ex, s, r, f.fr, (Ends_.flow r f h).imp fun F1 ex1 H1 s1 v e1 r1 st1 ⟨f1, q⟩ x rv => ?_⟩
  have h0 : ∀ a, H a = none → en.H a = none := fun a z => f.fr.grow.none z
  cases v with
  | dat d =>
    obtain ⟨r2, f2, q⟩ := put_core (i := i) f1 r1 rv (.inl ⟨d, rfl⟩) h0 q
    exact q _ F1 ex1 H1 r2 f2
  | own d =>
    obtain ⟨r2, f2, q⟩ := put_core (i := i) f1 r1 rv (.inr (.inl ⟨d, rfl⟩)) h0 q
    exact q _ F1 ex1 H1 r2 f2
  | ext k =>
    obtain ⟨r2, f2, q⟩ := put_core (i := i) f1 r1 rv (.inr (.inr ⟨k, rfl⟩)) h0 q
    exact q _ F1 ex1 H1 r2 f2
  | bor _ => exact q.elim
  | scr _ => exact q.elim
  | loc j =>
    have q : FEnds X.K xc en Wi B (M.bind (M.bind (freeze (.loc j)) fun d => putSlot i (.dat d)) (fun _ => M.ret Flow.nx) s1) D := q
    rw [bind_bind] at q
    unfold M.bind freeze at q
    cases e : Ded.slot s1 j with
    | none => simp only [e] at q; exact q.elim
    | some w =>
      simp only [e] at q
      cases w <;> first | exact q.elim | skip
      rename_i d
      obtain ⟨F2, r2, rf, st2⟩ := frz_slot r1 e rv
      obtain ⟨r3, f3, q⟩ := put_core (i := i) (v := .dat d) (H0 := H) (f1.step r1 st2) r2 rf (.inl ⟨d, rfl⟩) h0 q
      exact q _ F2 ex1 H1 r3 f3
end
end Ded
end

section
set_option Elab.async false
set_option linter.all false
set_option maxRecDepth 100000
/-! Returns, branches, targets, stores into dicts, loops. -/
namespace Ded
open PySem L2
variable [TabName]
section
variable (K : PySem.W.Frag) {T : List (Addr × Str)} (en : Entry T)
/-- only these slots are given something -/
structure Tgt (ts : List Nat) (s s' : S) (σ σ' : L2.St) : Prop where
  len : σ'.length = σ.length
  off : ∀ j, j ∉ ts → σ'[j]? = σ[j]?
  bo : NB s s'
  ow : ∀ a, Ow s'.ρ σ' a → Ow s.ρ σ a
theorem Tgt.trans {ts us : List Nat} {s s1 s2 : S} {σ σ1 σ2 : L2.St} (a : Tgt ts s s1 σ σ1) (b : Tgt us s1 s2 σ1 σ2) : Tgt (ts ++ us) s s2 σ σ2 :=
  ⟨b.len.trans a.len, fun j h => (b.off j fun m => h (List.mem_append_right _ m)).trans (a.off j fun m => h (List.mem_append_left _ m)), a.bo.trans b.bo, fun x m => a.ow x (b.ow x m)⟩
def GEnds (ts : List Nat) (r : R Unit) (F : Fz) (ex : List Addr) (s : S) (σ : L2.St) (H : Hp) (Q : L2.St → Hp → Prop) : Prop :=
  match r with
  | .ok _ s' => ∀ σ', Tgt ts s s' σ σ' → Rel K F ex s' σ' H → From en F ex s' σ' H → Q σ' H
  | _ => False
def TG' (ts : List Nat) (g : D → M Unit) : TG := fun v σ H Q => ∃ F ex s d, Rel K F ex s σ H ∧ From en F ex s σ H ∧ Rf K F H v d ∧ GEnds K en ts (g d s) F ex s σ H Q
def TGs' (ts : List Nat) (g : List D → M Unit) : TGs := fun vs σ H Q => ∃ F ex s ds, Rel K F ex s σ H ∧ From en F ex s σ H ∧ RfA K F H vs ds ∧ GEnds K en ts (g ds s) F ex s σ H Q
end
section
variable {X : Cx} {xc : Xc} {en : Entry xc.T} {Wi : XK} {e : Expr} {es : List Expr} {pos p p' : Pos} {m n : M Val} {st : Stmt} {rest : List Stmt} {i j : Nat} {x y : Str} {g : D → M Unit} {gs : List D → M Unit}
structure PGd (X : Cx) {T : List (Addr × Str)} (en : Entry T) (e : Expr) (ts : List Nat) (g : D → M Unit) : Prop where
  run : PG X e (TG' X.K en ts g)
  nox : ∀ d s c fs s', g d s ≠ .exc c fs s'
  st : isStar e = false
structure PGsd (X : Cx) {T : List (Addr × Str)} (en : Entry T) (es : List Expr) (ts : List Nat) (gs : List D → M Unit) : Prop where
  run : PGs X es (TGs' X.K en ts gs)
  nox : ∀ d s c fs s', gs d s ≠ .exc c fs s'
  len : ∀ ds s u s', gs ds s = .ok u s' → ds.length = es.length
  al : (assignEach es X.env).length = es.length
  an : (assignEach es X.env).findIdx? (·.1) = none
theorem PG.imp {t t' : TG} (h : PG X e t) (q : ∀ v σ H Q, t' v σ H Q → t v σ H Q) : PG X e t' := ⟨fun pins s σ H v u Q I r z => h.run pins s σ H v u Q I r (q v σ H Q z)⟩
theorem PGs.imp {t t' : TGs} (h : PGs X es t) (q : ∀ v σ H Q, t' v σ H Q → t v σ H Q) : PGs X es t' := ⟨fun pins s σ H v u Q I r z => h.run pins s σ H v u Q I r (q v σ H Q z)⟩
theorem g_name (hN : X.N.Nodup) (hi : X.N[i]? = some x) (hx : Loc X.env.scope x) (hf : X.fn x = true ∨ X.env.scope.names.lookup x = some .local) : PGd X en (.Name x pos) [i] (gVar i) := by
  refine ⟨PG.imp (pg_name hN hi hx hf) fun v σ H Q ⟨F, ex, s, d, r, f, rf, h⟩ => ?_, fun d s c fs s' e => ?_, rfl⟩
  · unfold gVar putSlot at h
    by_cases hl : i < s.ρ.length
    · rw [if_pos hl] at h
      obtain ⟨r2, f2⟩ := r.assign (i := i) (v := .dat d) (H0 := H) f rf (.inl ⟨d, rfl⟩) (fun a z => f.grow.none z) hl
      refine h _ ⟨List.length_set, fun j hj => List.getElem?_set_ne (fun q => hj (by rw [q]; exact List.mem_singleton.mpr rfl)), .set fun _ => by simp, fun a ⟨j, d1, e1, e2⟩ => ?_⟩ r2 f2
      rcases get_set e1 with ⟨_, z⟩ | ⟨n, z⟩
      · cases z
      · rw [List.getElem?_set_ne n] at e2; exact ⟨j, d1, z, e2⟩
    · rw [if_neg hl] at h; exact h.elim
  · unfold gVar putSlot at e
    split at e <;> cases e
theorem gs_nil : PGsd X en [] [] gNil' := by
  refine ⟨PGs.imp pgs_nil fun v σ H Q ⟨F, ex, s, ds, r, f, rf, h⟩ => ?_, fun d s c fs s' e => ?_, fun ds s u s' e => ?_, rfl, rfl⟩
  · cases rf with
    | nil => exact ⟨rfl, h σ ⟨rfl, fun _ _ => rfl, .refl, fun _ m => m⟩ r f⟩
    | cons a b => exact h.elim
  · cases d <;> cases e
  · cases ds <;> first | rfl | cases e
theorem as_cons (h : isStar e = false) : assignEach (e :: es) X.env = (false, assign e X.env) :: assignEach es X.env := by
  cases e <;> first | rfl | cases h
theorem gs_cons {ts us : List Nat} (h1 : PGd X en e ts g) (h2 : PGsd X en es us gs) : PGsd X en (e :: es) (ts ++ us) (gCons' g gs) := by
  refine ⟨PGs.imp (pgs_cons h1.run h2.run (by rw [as_cons h1.st]; rfl)) fun v σ H Q ⟨F, ex, s, ds, r, f, rf, h⟩ => ?_, fun d s c fs s' e => ?_, fun ds s u s' e => ?_, by rw [as_cons h1.st, List.length_cons, List.length_cons, h2.al], by
    rw [as_cons h1.st, List.findIdx?_cons, h2.an]; rfl⟩
  · cases rf with
    | nil => exact h.elim
    | @cons v vs d ds a b =>
      refine ⟨v, vs, rfl, F, ex, s, d, r, f, a, ?_⟩
      have h : GEnds X.K en (ts ++ us) (M.bind (g d) (fun _ => gs ds) s) F ex s σ H Q := h
      unfold M.bind at h
      cases e1 : g d s with
      | ok u t =>
        rw [e1] at h
        have h : GEnds X.K en (ts ++ us) (gs ds t) F ex s σ H Q := h
        intro σ' tg r' f'
        refine ⟨F, ex, t, ds, r', f', b, ?_⟩
        cases e2 : gs ds t with
        | ok u2 t2 =>
          rw [e2] at h
          exact fun σ2 tg2 r2 f2 => h σ2 (tg.trans tg2) r2 f2
        | exc c fs t => rw [e2] at h; exact h
        | bad => rw [e2] at h; exact h
      | exc c fs t => exact h1.nox _ _ _ _ _ e1
      | bad => rw [e1] at h; exact h
  · cases d with
    | nil => cases e
    | cons d ds =>
      have e : M.bind (g d) (fun _ => gs ds) s = .exc c fs s' := e
      unfold M.bind at e
      cases e1 : g d s with
      | ok u t => rw [e1] at e; exact h2.nox _ _ _ _ _ e
      | exc c fs t => exact h1.nox _ _ _ _ _ e1
      | bad => rw [e1] at e; cases e
  · cases ds with
    | nil => cases e
    | cons d ds =>
      obtain ⟨a, t, e1, e2⟩ := bind_ok (m := g d) (f := fun _ => gs ds) e
      rw [List.length_cons, List.length_cons, h2.len _ _ _ _ e2]
theorem pg_or {t1 t2 : TG} (a : PG X e t1) (b : PG X e t2) : PG X e (fun v σ H Q => t1 v σ H Q ∨ t2 v σ H Q) :=
  ⟨fun pins s σ H v u Q I r h => h.elim (a.run pins s σ H v u Q I r) (b.run pins s σ H v u Q I r)⟩
theorem g_tup {k : Nat} {ts : List Nat} (hc : X.calm = true) (h : PGsd X en es ts gs) : PGd X en (.Tuple es k pos) ts (gTup' gs) := by
  refine ⟨PG.imp (pg_or (pg_tup hc h.run h.al h.an) (pg_unl hc h.run h.al h.an)) fun v σ H Q ⟨F, ex, s, d, r, f, rf, q⟩ => ?_, fun d s c fs s' e => ?_, rfl⟩
  · have len : ∀ {xs : List V} {ds : List D}, RfA X.K F H xs ds → GEnds X.K en ts (gs ds s) F ex s σ H Q → xs.length = es.length := fun {xs ds} ra q => by
      cases e1 : gs ds s with
      | ok u t => rw [ra.length]; exact h.len _ _ _ _ e1
      | exc c fs t => rw [e1] at q; exact q.elim
      | bad => rw [e1] at q; exact q.elim
    cases d <;> first | exact q.elim | skip
    · rename_i ds
      cases rf with
      | @lst a xs _ ef eh z ra =>
        have q : GEnds X.K en ts (gs ds s) F ex s σ H Q := q
        exact .inr ⟨a, xs, rfl, SqL.of eh, len ra q, F, ex, s, ds, r, f, ra, q⟩
    · rename_i ds
      cases rf with
      | @tup a xs _ ef eh z ra =>
        have q : GEnds X.K en ts (gs ds s) F ex s σ H Q := q
        exact .inl ⟨a, xs, rfl, eh.sq, len ra q, F, ex, s, ds, r, f, ra, q⟩
  · cases d <;> first | cases e | skip
    · exact h.nox _ _ _ _ _ e
    · exact h.nox _ _ _ _ _ e
theorem k_set (hN : X.N.Nodup) (hi : X.N[i]? = some x) (hx : Loc X.env.scope x) (hf : X.fn x = true ∨ X.env.scope.names.lookup x = some .local) (he : PEd X xc en Wi e m) (hs : swapsWith e (some (.Name x p)) pos.line X.env = pure false) :
    PS X (.Assign [.Name x p] e pos) (TS' X.K xc en Wi (kSet i m)) := PS.imp (ps_set hN hi hx he hs hf) fun D σ H h => set_core h
theorem k_ret (hM : ∀ a, en.M a → a ∈ en.ex) (he : PEd X xc en Wi e m) : PS X (.Return (some e) pos) (TS' X.K xc en Wi (kRet m)) := by
  refine PS.imp (ps_ret he) fun D σ H ⟨F, ex, s, B, r, f, h⟩ => ?_
  refine ⟨F, ex, s, r, f.fr, (Ends_.flow r f h).imp fun F1 ex1 H1 s1 v e1 r1 st1 ⟨f1, q⟩ x rv => ?_⟩
  have fin : ∀ w, RetV X.K F1 ex1 en.H H1 x w → FEnds X.K xc en Wi B (.ok (.rt w) s1) D → D.rt x H1 := fun w rw q => q F1 ex1 H1 x (xrel_of r1 f1.fr) rw
  cases v with
  | dat d => exact fin (.dat d) rv q
  | own d =>
    obtain ⟨a, rfl, c, nf, nm, nb, n0⟩ := rv
    exact fin (.own d) ⟨a, rfl, c, nf, fun m => nm (.inl m), f.fr.grow.none n0⟩ q
  | ext k => exact fin (.ext k) rv q
  | bor _ => exact q.elim
  | scr _ => exact q.elim
  | loc i =>
    have q : FEnds X.K xc en Wi B (M.bind (fun s => match slot s i with | some (.own d) => R.ok (Val.own d) s | _ => .bad) (fun v => M.ret (Flow.rt v)) s1) D := q
    unfold M.bind at q
    cases e : Ded.slot s1 i with
    | none => simp only [e] at q; exact q.elim
    | some w =>
      simp only [e] at q
      cases w <;> first | exact q.elim | skip
      rename_i d
      have e' := slot_eq.mp e
      obtain ⟨y, e2, a, rfl, c, nf, nx⟩ := r1.slot i _ e'
      have rv : σ[i]? = some (some x) := rv
      rw [rv] at e2; cases e2
      refine fin (.own d) ⟨a, rfl, c, nf, nx, ?_⟩ q
      rcases f1.fr.grow.mnew a (.inr ⟨i, d, e', rv⟩) with z | z
      · exact absurd (f1.fr.pre.subset (hM a z)) nx
      · exact z
theorem k_ite {c : Expr} {a b : List Stmt} {t : M Bool} {u v : M Flow} (hc : PTd X xc en Wi c t) (ha : PSs X a (TS' X.K xc en Wi u)) (hb : PSs X b (TS' X.K xc en Wi v)) : PS X (.If c a b pos) (TS' X.K xc en Wi (kIte t u v)) := by
  refine PS.imp (ps_if hc ha hb) fun D σ H ⟨F, ex, s, B, r, f, h⟩ => ⟨F, ex, s, r, f.fr, (Ends_.flow r f h).imp fun F1 ex1 H1 s1 b e1 r1 st1 ⟨f1, q⟩ => ?_⟩
  cases b with
  | true => rw [if_pos rfl]; exact ⟨F1, ex1, s1, B, r1, f1, q⟩
  | false => rw [if_neg Bool.false_ne_true]; exact ⟨F1, ex1, s1, B, r1, f1, q⟩
/-- a target's store, then the rest -/
theorem store_then {ts : List Nat} {σ : L2.St} {F : Fz} {ex : List Addr} {s : S} {H : Hp} {En : Ends} {B : Bs} {d : D} {k : Unit → M Flow} {Q : L2.St → Hp → Prop} (hg : ∀ d s c fs s', g d s ≠ .exc c fs s') (f : FromL en B F ex s σ H) (h : FEnds X.K xc en Wi B (M.bind (g d) k s) En)
    (hQ : ∀ t σ', Rel X.K F ex t σ' H → FromL en B F ex t σ' H → FEnds X.K xc en Wi B (k () t) En → Q σ' H) : GEnds X.K en ts (g d s) F ex s σ H Q := by
  unfold M.bind at h
  cases e : g d s with
  | ok u t => rw [e] at h; exact fun σ' _ r f' => hQ t σ' r (f.with f') h
  | exc c fs t => exact absurd e (hg _ _ _ _ _)
  | bad => rw [e] at h; exact h.elim
theorem k_asg {tg : Expr} {ts : List Nat} (he : PEd X xc en Wi e m) (hg : PGd X en tg ts g) (hs : swapsWithSole [tg] e pos.line X.env = pure false) (hw : swappedStores [tg] e X.env = pure none) : PS X (.Assign [tg] e pos) (TS' X.K xc en Wi (kAsg g m)) := by
  refine PS.imp (ps_asg he hg.run hs hw (by rw [as_cons hg.st]; rfl)) fun D σ H ⟨F, ex, s, B, r, f, h⟩ => T1.fz ⟨F, ex, s, r, f.fr, (Ends_.flow (m := mFrz m) r f h).imp fun F1 ex1 H1 s1 d e1 r1 st1 ⟨f1, q⟩ x rx => ?_⟩
  exact ⟨F1, ex1, s1, d, r1, f1.fr, rx, store_then hg.nox f1 q fun t σ' r f q => q σ' F1 ex1 H1 r f⟩
theorem keep_te {σ : L2.St} {H : Hp} {Q : VK} (h : TE' X.K xc en Wi (mKeep m) σ H Q) : TE' X.K xc en Wi m σ H Q := by
  obtain ⟨F, ex, s, r, f, h⟩ := h
  refine ⟨F, ex, s, r, f, (Ends_.bind (m := m) (f := keepV) h).imp fun F1 ex1 H1 s1 v _ r1 st1 q x rv => ?_⟩
  cases v with
  | dat d => exact q F1 ex1 H1 r1 st1 x rv
  | own d => exact q F1 ex1 H1 r1 st1 x rv
  | _ => exact q.elim
theorem keep_is {s s1 : S} {u : Val} (e : mKeep m s = .ok u s1) : (∃ d, u = .dat d) ∨ ∃ d, u = .own d := by
  obtain ⟨v, s2, e1, e2⟩ := bind_ok (m := m) e
  cases v with
  | dat d => cases e2; exact .inl ⟨d, rfl⟩
  | own d => cases e2; exact .inr ⟨d, rfl⟩
  | _ => cases e2
theorem rv_step {σ : L2.St} {H H1 H2 : Hp} {F1 F2 : Fz} {ex1 ex2 : List Addr} {s1 s2 : S} {x : V} {u : Val} (hu : (∃ d, u = .dat d) ∨ ∃ d, u = .own d) (r1 : Rel X.K F1 ex1 s1 σ H1) (st : Step F1 ex1 s1 σ H1 F2 ex2 s2 H2) (h : RV X.K F1 ex1 s1 σ H H1 x u) : RV X.K F2 ex2 s2 σ H H2 x u := by
  rcases hu with ⟨d, rfl⟩ | ⟨d, rfl⟩
  · exact Rf.mono st.grow.fmono (st.grow.kp r1.dj) _ h
  · obtain ⟨a, rfl, c, nf, nm, nb, n0⟩ := h
    obtain ⟨o, eo⟩ := c.there
    have nf2 : ¬ F2 a := fun z => by
      rcases st.grow.fnew _ z with z | z | z
      · exact nf z
      · exact nm z
      · rw [eo] at z; cases z
    refine ⟨a, rfl, c.mono st.grow.fmono (st.grow.kp r1.dj) (fun o n e => (st.grow.keep a o n e nm).off nf2), nf2, fun z => ?_, fun z => nb (let ⟨i, d, e1, e2⟩ := z; let ⟨d', e'⟩ := st.bo i d e1; ⟨i, d', e', e2⟩), n0⟩
    · rcases st.grow.mnew _ z with z | z
      · exact nm z
      · rw [eo] at z; cases z
theorem rv_put {σ : L2.St} {H1 H2 : Hp} {F : Fz} {ex : List Addr} {s : S} {i : Nat} {x y : V} {u v : Val} (hv : (∃ d, v = .dat d) ∨ ∃ d, v = .own d) (hx : ∀ d, u = .own d → ∃ a o, x = .ref a ∧ H1 a = some o) (hl : s.ρ.length = σ.length) (ub : ∀ d, u ≠ .bor d) (h : RV X.K F ex s σ H1 H2 y v) : RV X.K F ex (setSlot s i u) (σ.set i (some x)) H1 H2 y v := by
  rcases hv with ⟨d, rfl⟩ | ⟨d, rfl⟩
  · exact h
  · obtain ⟨b, rfl, c, nf, nm, nb, n0⟩ := h
    refine ⟨b, rfl, c, nf, fun z => ?_, fun z => ?_, n0⟩
    · rcases z with z | ⟨k, d', e1, e2⟩
      · exact nm (.inl z)
      · have e1 : (s.ρ.set i (some u))[k]? = some (some (.own d')) := e1
        by_cases hk : i = k
        · subst hk
          have lt : i < s.ρ.length := by
            have := (List.getElem?_eq_some_iff.mp e1).1
            simpa using this
          rw [List.getElem?_set_self lt] at e1
          rw [List.getElem?_set_self (by rw [← hl]; exact lt)] at e2
          obtain ⟨a, o, ea, eo⟩ := hx d' (by simpa using e1)
          subst ea
          have : a = b := by simpa using e2
          rw [this, n0] at eo; cases eo
        · rw [List.getElem?_set_ne hk] at e1 e2
          exact nm (.inr ⟨k, d', e1, e2⟩)
    · obtain ⟨k, d', e1, e2⟩ := z
      have e1 : (s.ρ.set i (some u))[k]? = some (some (.bor d')) := e1
      by_cases hk : i = k
      · subst hk
        have lt : i < s.ρ.length := by
          have := (List.getElem?_eq_some_iff.mp e1).1
          simpa using this
        rw [List.getElem?_set_self lt] at e1
        exact ub d' (by simpa using e1)
      · rw [List.getElem?_set_ne hk] at e1 e2
        exact nb ⟨k, d', e1, e2⟩
theorem k_par {a b : Expr} {px py pt : Pos} {kt k2 pt2} (hc : X.calm = true) (hN : X.N.Nodup) (hi : X.N[i]? = some x) (hj : X.N[j]? = some y) (hij : i ≠ j) (hx : X.env.scope.names.lookup x = some .local) (hy : X.env.scope.names.lookup y = some .local)
    (ha : PEd X xc en Wi a m) (hb : PEd X xc en Wi b n) (ca : isStar a = false) (cb : isStar b = false) (hw : swappedStores [.Tuple [.Name x px, .Name y py] kt pt] (.Tuple [a, b] k2 pt2) X.env = pure (some [x, y])) :
    PS X (.Assign [.Tuple [.Name x px, .Name y py] kt pt] (.Tuple [a, b] k2 pt2) pos) (TS' X.K xc en Wi (kPar i j m n)) := by
  have l := pa_cons (PE.imp ha fun _ _ _ h => keep_te h) (pa_cons (PE.imp hb fun _ _ _ h => keep_te h) pa_nil (star_cons cb)) (star_cons ca)
  refine PS.imp (ps_par hc hN hi hj hij hx hy l hw) fun D σ H ⟨F, ex, s, B, r, f, h⟩ => ⟨F, ex, s, r, f.fr, (Ends_.flow (m := mKeep m) r f h).imp fun F1 ex1 H1 s1 u e1 r1 st1 ⟨f1, q⟩ v rv => ?_⟩
  refine ⟨F1, ex1, s1, r1, f1.fr, (Ends_.flow (m := mKeep n) r1 f1 q).imp fun F2 ex2 H2 s2 u2 e2 r2 st2 ⟨f2, q⟩ w rw_ => ⟨v, w, rfl, ?_⟩⟩
  have k1 := keep_is e1
  have k2 := keep_is e2
  have rv2 := rv_step k1 r1 st2 rv
  have h0 : ∀ a, H a = none → en.H a = none := fun a z => f.fr.grow.none z
  have h1 : ∀ a, H1 a = none → en.H a = none := fun a z => f1.fr.grow.none z
  have hv1 : (∃ d, u = .dat d) ∨ (∃ d, u = .own d) ∨ ∃ k, u = .ext k := k1.imp_right .inl
  have hv2 : (∃ d, u2 = .dat d) ∨ (∃ d, u2 = .own d) ∨ ∃ k, u2 = .ext k := k2.imp_right .inl
  have rw2 : RV X.K F2 ex2 (setSlot s2 i u) (σ.set i (some v)) H1 H2 w u2 := rv_put k2 (fun d e => by
    subst e
    obtain ⟨a, rfl, c, _⟩ := rv
    obtain ⟨o, eo⟩ := c.there
    exact ⟨a, o, rfl, eo⟩) r2.len (fun d e => by rcases k1 with ⟨_, z⟩ | ⟨_, z⟩ <;> (rw [z] at e; cases e)) rw_
  obtain ⟨r3, f3, q⟩ := put_core (i := i) (H0 := H) f2 r2 rv2 hv1 h0 q
  obtain ⟨r4, f4, q⟩ := put_core (i := j) (H0 := H1) f3 r3 rw2 hv2 h1 q
  exact q _ F2 ex2 H2 r4 f4
theorem rv_at {F : Fz} {ex : List Addr} {s : S} {σ : L2.St} {H H0 : Hp} {x : V} {u : Val} (rv : RV X.K F ex s σ H0 H x u) : ∀ d, u = .own d → ∃ a o, x = .ref a ∧ H a = some o := fun d e => by
  subst e
  obtain ⟨a, rfl, c, _⟩ := rv
  obtain ⟨o, eo⟩ := c.there
  exact ⟨a, o, rfl, eo⟩
theorem no_bor {u : Val} (k : (∃ d, u = .dat d) ∨ ∃ d, u = .own d) : ∀ d, u ≠ .bor d := fun d e => by
  rcases k with ⟨_, z⟩ | ⟨_, z⟩ <;> (rw [z] at e; cases e)
theorem k_par3 {l : Nat} {z : Str} {o : M Val} {a b c : Expr} {px py pz pt : Pos} {kt k2 pt2} (hc : X.calm = true) (hN : X.N.Nodup) (hi : X.N[i]? = some x) (hj : X.N[j]? = some y) (hl : X.N[l]? = some z) (hij : i ≠ j) (hil : i ≠ l) (hjl : j ≠ l)
    (hx : X.env.scope.names.lookup x = some .local) (hy : X.env.scope.names.lookup y = some .local) (hz : X.env.scope.names.lookup z = some .local)
    (ha : PEd X xc en Wi a m) (hb : PEd X xc en Wi b n) (hd : PEd X xc en Wi c o) (ca : isStar a = false) (cb : isStar b = false) (cc : isStar c = false)
    (hw : swappedStores [.Tuple [.Name x px, .Name y py, .Name z pz] kt pt] (.Tuple [a, b, c] k2 pt2) X.env = pure (some [x, y, z])) :
    PS X (.Assign [.Tuple [.Name x px, .Name y py, .Name z pz] kt pt] (.Tuple [a, b, c] k2 pt2) pos) (TS' X.K xc en Wi (kPar3 i j l m n o)) := by
  have ls := pa_cons (PE.imp ha fun _ _ _ h => keep_te h) (pa_cons (PE.imp hb fun _ _ _ h => keep_te h) (pa_cons (PE.imp hd fun _ _ _ h => keep_te h) pa_nil (star_cons cc)) (star_cons cb)) (star_cons ca)
  refine PS.imp (ps_par3 hc hN hi hj hl hij hil hjl hx hy hz ls hw) fun D σ H ⟨F, ex, s, B, r, f, h⟩ => ⟨F, ex, s, r, f.fr, (Ends_.flow (m := mKeep m) r f h).imp fun F1 ex1 H1 s1 u e1 r1 st1 ⟨f1, q⟩ v rv => ?_⟩
  refine ⟨F1, ex1, s1, r1, f1.fr, (Ends_.flow (m := mKeep n) r1 f1 q).imp fun F2 ex2 H2 s2 u2 e2 r2 st2 ⟨f2, q⟩ v2 rv2 => ?_⟩
  refine ⟨F2, ex2, s2, r2, f2.fr, (Ends_.flow (m := mKeep o) r2 f2 q).imp fun F3 ex3 H3 s3 u3 e3 r3 st3 ⟨f3, q⟩ v3 rv3 => ⟨v, v2, v3, rfl, ?_⟩⟩
  have k1 := keep_is e1
  have k2 := keep_is e2
  have k3 := keep_is e3
  have up : ∀ {w : Val}, ((∃ d, w = .dat d) ∨ ∃ d, w = .own d) → (∃ d, w = .dat d) ∨ (∃ d, w = .own d) ∨ ∃ k, w = .ext k := fun k => k.imp_right .inl
  have n0 : ∀ a, H a = none → en.H a = none := fun a z => f.fr.grow.none z
  have n1 : ∀ a, H1 a = none → en.H a = none := fun a z => f1.fr.grow.none z
  have n2 : ∀ a, H2 a = none → en.H a = none := fun a z => f2.fr.grow.none z
  have first := rv_step k1 r2 st3 (rv_step k1 r1 st2 rv)
  have second := rv_put (i := i) k2 (rv_at rv) r3.len (no_bor k1) (rv_step k2 r2 st3 rv2)
  obtain ⟨r4, f4, q⟩ := put_core (i := i) (H0 := H) f3 r3 first (up k1) n0 q
  obtain ⟨r5, f5, q⟩ := put_core (i := j) (H0 := H1) f4 r4 second (up k2) n1 q
  have here : ∀ d, u = .own d → ∃ a o, v = .ref a ∧ H2 a = some o := fun d e => by
    obtain ⟨a, o, e4, e5⟩ := rv_at rv d e
    obtain ⟨o', e6⟩ := st2.grow.dom a o e5
    exact ⟨a, o', e4, e6⟩
  have third := rv_put (i := j) k3 (rv_at rv2) r4.len (no_bor k2) (rv_put (i := i) k3 here r3.len (no_bor k1) rv3)
  obtain ⟨r6, f6, q⟩ := put_core (i := l) (H0 := H2) f5 r5 third (up k3) n2 q
  exact q _ F3 ex3 H3 r6 f6
/-- while: as many turns as the evaluator lets -/
theorem k_whl {c : Expr} {body : List Stmt} {t : M Bool} {b : M Flow} {L : Nat} (hp : PassesOwn (model X.prog X.w) X.A X.env X.xe) (hc : PTd X xc en Wi c t) (hb : PSs X body (TS' X.K xc en Wi b)) : PS X (.While c body [] pos) (TS' X.K xc en Wi (kWhl L t b)) := by
  refine PS.imp (ps_while hp hc hb) fun D σ H ⟨F, ex, s, B, r, f, h⟩ => ?_
  refine ⟨fun n σ H => ∃ F ex s, Rel X.K F ex s σ H ∧ FromL en B F ex s σ H ∧ FEnds X.K xc en Wi B (whileLoop t b n s) D, ⟨L, F, ex, s, r, f, h⟩, ?_⟩
  rintro n σ H ⟨F, ex, s, r, f, h⟩
  cases n with
  | zero => exact h.elim
  | succ n =>
    refine ⟨F, ex, s, r, f.fr, (Ends_.flow (m := t) r f h).imp fun F1 ex1 H1 s1 z e1 r1 st1 ⟨f1, q⟩ => ?_⟩
    cases z with
    | false => rw [if_neg Bool.false_ne_true]; exact q σ F1 ex1 H1 r1 f1
    | true =>
      rw [if_pos rfl]
      refine ⟨fun σ H => ∃ F ex s, Rel X.K F ex s σ H ∧ FromL en B F ex s σ H ∧ FEnds X.K xc en Wi B (whileLoop t b n s) D, fun σ' H' w => ⟨n, Nat.lt_succ_self n, w⟩, F1, ex1, s1, B, r1, f1, ?_⟩
      exact FEnds.bindf q (fun t q σ' F' ex' H' r f => ⟨F', ex', t, r, f, q⟩) (fun t q => q) (fun t q σ' F' ex' H' r f => ⟨F', ex', t, r, f, q⟩) fun v t q => q
end
/-- an iterator yields these, one after another -/
structure ItemsOk (K : PySem.W.Frag) (F : Fz) (H : Hp) (J : It) (ds : List D) : Prop where
  stop : ∀ H2 i, Kp F H H2 → ds.length ≤ i → J.stop i H2
  go : ∀ H2 i, Kp F H H2 → i < ds.length → J.go i H2
  yld : ∀ H2 F2 i x H3, Kp F H H2 → (∀ a, F a → F2 a) → (∀ a, F2 a → ∃ o, H2 a = some o) → J.yld i H2 x H3 → ∀ d, ds[i]? = some d → ∃ F3, New F2 H2 F3 H3 ∧ Rf K F3 H3 x d
def TI' (K : PySem.W.Frag) (xc : Xc) (en : Entry xc.T) (Wi : XK) (w : M (List D)) : TI := fun σ H R => ∃ F ex s, Rel K F ex s σ H ∧ From en F ex s σ H ∧ Ends_ K xc en Wi (w s) F ex s σ H fun F' ex' H' s' ds => ∀ J, ItemsOk K F' H' J ds → R J H'
section
variable {X : Cx} {xc : Xc} {en : Entry xc.T} {Wi : XK} {e : Expr} {es : List Expr} {pos : Pos} {g : D → M Unit}
theorem k_for {tg iter : Expr} {body : List Stmt} {w : M (List D)} {b : M Flow} (hp : PassesOwn (model X.prog X.w) X.A X.env X.xe) (hc : X.calm = true) {ts : List Nat} (hi : PI X tg iter (TI' X.K xc en Wi w)) (hg : PGd X en tg ts g) (hb : PSs X body (TS' X.K xc en Wi b))
    (hs : ∀ x, foldedSetIterable iter X.env x = pure x) : PS X (.For tg iter body [] pos) (TS' X.K xc en Wi (kFor g w b)) := by
  refine PS.imp (ps_for hp hc hi hg.run hb hs) fun D σ H ⟨F, ex, s, B, r, f, h⟩ => ⟨F, ex, s, r, f.fr, (Ends_.flow (m := w) r f h).imp fun F1 ex1 H1 s1 ds e1 r1 st1 ⟨f1, q⟩ J hJ => ?_⟩
  have wide : ∀ {F' : Fz} {ex' : List Addr} {s' : S} {σ' : L2.St} {H' : Hp}, FromL en ⟨F1, H1⟩ F' ex' s' σ' H' → FromL en B F' ex' s' σ' H' := fun g =>
    ⟨g.fr, fun a z => g.lm a (f1.lm a z), f1.lk.then f1.lm g.lk⟩
  refine ⟨fun i n σ H => n = ds.length - i ∧ ∃ F ex s, Rel X.K F ex s σ H ∧ FromL en ⟨F1, H1⟩ F ex s σ H ∧ FEnds X.K xc en Wi B (forLoop (fun d => M.bind (g d) fun _ => b) (ds.drop i) s) D,
    ⟨ds.length - 0, rfl, F1, ex1, s1, r1, ⟨f1.fr, fun a z => z, .of fun _ _ _ _ z => z⟩, q⟩, ?_⟩
  rintro i n σ H ⟨rfl, F, ex, s, r, f, h⟩
  by_cases hlt : i < ds.length
  · refine .inr ⟨hJ.go H i f.lk hlt, fun σ H => ∃ F ex s, Rel X.K F ex s σ H ∧ FromL en ⟨F1, H1⟩ F ex s σ H ∧ FEnds X.K xc en Wi B (forLoop (fun d => M.bind (g d) fun _ => b) (ds.drop (i + 1)) s) D, fun σ' H' w => ⟨ds.length - (i + 1), by omega, rfl, w⟩, fun x H3 y => ?_⟩
    obtain ⟨F3, nw, rf⟩ := hJ.yld H F i x H3 f.lk f.lm r.fdom y ds[i] (List.getElem?_eq_getElem hlt)
    have r3 := r.new nw
    have f3 := f.step r ⟨nw.grow _, List.prefix_refl _, .refl⟩
    have e2 : ds.drop i = ds[i] :: ds.drop (i + 1) := List.drop_eq_getElem_cons hlt
    rw [e2] at h
    have h : FEnds X.K xc en Wi B (M.bind (M.bind (g ds[i]) fun _ => b) _ s) D := h
    rw [bind_bind] at h
    refine ⟨F3, ex, s, ds[i], r3, f3.fr, rf, store_then (B := B) hg.nox (wide f3) h fun t σ' r4 f4 q => ⟨F3, ex, t, ⟨F1, H1⟩, r4, f3.with f4.fr, ?_⟩⟩
    exact FEnds.bindf (m := b) (B' := ⟨F1, H1⟩) q (fun t q σ' F' ex' H' r f => ⟨F', ex', t, r, f, q⟩) (fun t q σ' F' ex' H' r f => q σ' F' ex' H' r (wide f)) (fun t q σ' F' ex' H' r f => ⟨F', ex', t, r, f, q⟩) fun v t q => q
  · have e2 : ds.drop i = [] := List.drop_eq_nil_of_le (by omega)
    rw [e2] at h
    exact .inl ⟨hJ.stop H i f.lk (by omega), h σ F ex H r (wide f)⟩
end
end Ded
end

section
set_option Elab.async false
set_option linter.all false
set_option maxRecDepth 100000
/-! enumerate of a tuple. -/
namespace Ded
open PySem PySem.Spec PyProof.Rows L2
open AutoSeq1 (wpAny_loadPart')
set_option maxHeartbeats 1000000 in
/-- enumerate(v) of what begins an iterator -/
theorem en1_meets {v : Value} {ob : Obj} {Z : Heap → Prop} (B : Begins v ob Z) :
    Meets (Builtin.«enumerate.__new__» ⟨[.type "enumerate", v], []⟩) (fun _ R s => Z s.heap ∧
      R (.ok (.ret (.ref (s.heap.push ob).objs.size))) { s with heap := (s.heap.push ob).push { cls := .type "enumerate", data := .fields #[.none, .bool false, .ref s.heap.objs.size, rawInt 0, .none, .none] } }) :=
  .of_wp fun prog w A R s z => by
    obtain ⟨hh, gg, dd, tt, oo⟩ := s
    obtain ⟨z1, z⟩ := z
    have sub := sub_enumerate
    have step : ∀ {A' : Around} {E : Value → Shared → Prop} {Q : Value → Shared → Prop}, Q (.ref hh.objs.size) ⟨hh.push ob, gg, dd, tt, oo⟩ → wpAny (model prog w) A' (pyIter v) Q E ⟨hh, gg, dd, tt, oo⟩ :=
      fun q => B.iter prog w _ _ ⟨hh, gg, dd, tt, oo⟩ _ z1 q
    wp_walk using step
    refine wpAny_stack_any fun st => wpAny_pure ?_
    split
    · rename_i c _ _ _ _ _
      cases (c == Value.type "enumerate")
      all_goals
        wp_walk using step
        exact ⟨_, rfl, z⟩
    · wp_walk using step
      exact ⟨_, rfl, z⟩
section
variable {prog : Program} {w : World} {A : Around} {E : Value → Shared → Prop} {s : Shared}
theorem en1_call {v : Value} {ob : Obj} {Z : Heap → Prop} {Q : Value → Shared → Prop} (B : Begins v ob Z) (z1 : Z s.heap)
    (h : ∀ h', IsEnum h' (s.heap.objs.size + 1) s.heap.objs.size 0 .none → h'.get? s.heap.objs.size = some ob → h'.objs.size = s.heap.objs.size + 2 → (∀ b o, s.heap.get? b = some o → h'.get? b = some o) → Q (.ref (s.heap.objs.size + 1)) { s with heap := h' }) :
    wpAny (model prog w) A (call (.type "enumerate") [v]) Q E s := by
  refine callType_new F.called_enumerate (by decide) (F.typeCall_enumerate_1 _) (F.newCall_enumerate_1 _) (fun obj => F.args_object_init_2 obj _) F.entry_enumerate_new (en1_meets B) ⟨z1, ?_⟩
  have n1 : (s.heap.push ob).objs.size = s.heap.objs.size + 1 := Heap.size_push ..
  show _ ∧ _
  rw [n1]
  have en : IsEnum ((s.heap.push ob).push { cls := .type "enumerate", data := .fields #[.none, .bool false, .ref s.heap.objs.size, rawInt 0, .none, .none] }) (s.heap.objs.size + 1) s.heap.objs.size 0 .none := by
    have q := Heap.get?_push_size (s.heap.push ob) (o := { cls := .type "enumerate", data := .fields #[.none, .bool false, .ref s.heap.objs.size, rawInt 0, .none, .none] }) rfl
    rwa [n1] at q
  exact ⟨⟨_, en, rfl⟩, h _ en (Heap.get?_push_of_some _ (Heap.get?_push_size _ B.free)) (by rw [Heap.size_push, n1]) fun b o e => Heap.get?_push_of_some _ (Heap.get?_push_of_some _ e)⟩
end
/-- a list (true) or a tuple at a -/
def SqB (K : PySem.W.Frag) (k : Bool) (H : Hp) (a : Addr) (xs : List V) : Prop := if k = true then SqL K H a xs else SqT K H a xs
def IsB (k : Bool) (h : Heap) (a : Addr) (xs : Array Value) : Prop := if k = true then h.IsList a xs else h.IsTuple a xs
def ItB (k : Bool) (h : Heap) (it a : Addr) (i : Nat) : Prop := if k = true then h.IsListIter it a i else h.IsTupleIter it a i
def tyB (k : Bool) : String := if k = true then "list_iterator" else "tuple_iterator"
theorem begB (k : Bool) (a : Addr) (xs : Array Value) : Begins (.ref a) { cls := .type (tyB k), data := .fields #[.ref a, .int 0 0] } fun h => IsB k h a xs := by
  cases k
  · exact begins_tuple a xs
  · exact begins_list a xs
theorem itB0 (k : Bool) {h : Heap} {it a : Addr} (e : h.get? it = some { cls := .type (tyB k), data := .fields #[.ref a, .int 0 0] }) : ItB k h it a 0 := by
  cases k
  · exact ⟨_, e, rfl, rfl⟩
  · exact ⟨_, e, rfl, rfl⟩
section
variable {h h' : Heap} {k : Bool} {it a : Addr} {i : Nat} {xs : Array Value}
theorem ItB.obj (x : ItB k h it a i) : ∃ o, h.get? it = some o ∧ ∀ v, o.data ≠ .cell v := by
  cases k
  · obtain ⟨o, e, _, d⟩ := x
    exact ⟨o, e, fun v q => by rw [d] at q; cases q⟩
  · obtain ⟨o, e, _, d⟩ := x
    exact ⟨o, e, fun v q => by rw [d] at q; cases q⟩
theorem ItB.keep (x : ItB k h it a i) (e : ∀ o, h.get? it = some o → h'.get? it = some o) : ItB k h' it a i := by
  cases k
  · exact Heap.IsTupleIter.at x e
  · exact Heap.IsListIter.at x e
theorem IsB.lt (x : IsB k h a xs) : a < h.objs.size := by
  cases k
  · obtain ⟨_, e, _⟩ := x; exact Heap.lt_size e
  · obtain ⟨_, e, _⟩ := x; exact Heap.lt_size e
theorem IsB.keep (x : IsB k h a xs) (e : ∀ b o, h.get? b = some o → h'.get? b = some o) : IsB k h' a xs := by
  cases k
  · exact Heap.IsTuple.at x fun o q => e a o q
  · exact Heap.IsList.at x fun o q => e a o q
end
/-- what the iterator draws at i, or that it has ended -/
theorem drawB {prog : Program} {w : World} {A : Around} (hh : A.in1.handled = none) {k : Bool} {it a : Addr} (hne : a ≠ it) {i : Nat} {h : Heap} {xs : Array Value} (x : ItB k h it a i) (y : IsB k h a xs) :
    ∃ n St, Draws prog w A.in1 it [it, a] n (fun i v => xs[i]? = some v) St ∧ St i h ∧ i ≤ n ∧ (xs.size ≤ i → i = n) ∧ (i < xs.size → i < n) ∧ ∀ j h, St j h → ItB k h it a j := by
  by_cases hl : i < xs.size
  · cases k
    · exact ⟨_, _, Draws.tuple hh it a hne xs, ⟨x, y⟩, Nat.le_of_lt hl, fun z => by omega, fun _ => hl, fun j h z => z.1⟩
    · exact ⟨_, _, Draws.list hh it a hne xs, ⟨x, y⟩, Nat.le_of_lt hl, fun z => by omega, fun _ => hl, fun j h z => z.1⟩
  · refine ⟨i, fun j h => j = i ∧ ItB k h it a j ∧ IsB k h a xs, ?_, ⟨rfl, x, y⟩, Nat.le_refl _, fun _ => rfl, fun z => absurd z hl, fun j h z => z.2.1⟩
    constructor
    · rintro j h ⟨_, z, _⟩
      obtain ⟨o, e, _⟩ := z.obj
      exact ⟨o, e⟩
    · rintro j h h' ⟨rfl, z, z2⟩ hk
      refine ⟨rfl, z.keep fun o e => hk it (by simp) o e, ?_⟩
      cases k
      · exact Heap.IsTuple.at z2 fun o e => hk a (by simp) o e
      · exact Heap.IsList.at z2 fun o e => hk a (by simp) o e
    · rintro j s Q E hj ⟨rfl, _⟩
      exact absurd hj (Nat.lt_irrefl _)
    · rintro s Q E ⟨_, z, z2⟩ hE
      have hx : xs[i]? = none := by simp; omega
      cases k
      · exact wpAny_nextOf_tuple_end hh z z2 hx hE
      · exact wpAny_nextOf_list_end hh z z2 hx hE
theorem seqB {X : Cx} {pins : List (Addr × Obj)} {σ : L2.St} {H : Hp} {s : Shared} (I : Inv X pins σ H s) {k : Bool} {a : Addr} {xs : List V} (h : SqB X.K k H a xs) : ∃ its, Vals xs its ∧ IsB k s.heap a its.toArray := by
  cases k
  · obtain ⟨its, rv, tu, _⟩ := I.tuple h
    exact ⟨its, rv, tu⟩
  · obtain ⟨its, rv, li, _⟩ := I.list h
    exact ⟨its, rv, li.isList⟩
theorem injB {X : Cx} {pins : List (Addr × Obj)} {σ : L2.St} {H : Hp} {s : Shared} (I : Inv X pins σ H s) {k : Bool} {a : Addr} {xs ys : List V} (h : SqB X.K k H a xs) (h' : SqB X.K k H a ys) : xs = ys := by
  cases k
  · exact I.tuple_inj h h'
  · exact I.list_inj h h'
/-- what lies at a as it stands at each turn, each item in a new pair with its place -/
def IteB (K : PySem.W.Frag) (k : Bool) (a : Addr) : It :=
  ⟨fun i H => ∃ (xs : List V) (x : V), SqB K k H a xs ∧ xs[i]? = some x, fun i H v H' => ∃ T o x, v = .ref T ∧ H T = none ∧ o.dict = none ∧ H' = upd H T (.frz o (.tup [.int (i : Nat), x])) ∧ ∀ ys, SqB K k H a ys → ys[i]? = some x, fun i H => ∃ xs : List V, SqB K k H a xs ∧ xs.length ≤ i⟩
theorem turn_enB {P : Program} {w : World} {K : PySem.W.Frag} {elts : List Expr} {kk : Nat} {tpos : Pos} (k : Bool) (a e it : Addr) :
    Turn P w K (.Tuple elts kk tpos) (IteB K k a) [e, it] e (fun i h => (∃ old, IsEnum h e it ((i : Nat) : Int) old) ∧ ItB k h it a i ∧ (e ≠ it ∧ a ≠ it ∧ a ≠ e)) where
  mem := by simp
  obj := fun i h st b hb => by
    obtain ⟨⟨old, en⟩, ti, _⟩ := st
    rcases (by simpa using hb : b = e ∨ b = it) with rfl | rfl
    · exact ⟨_, en, fun v q => nomatch q⟩
    · exact ti.obj
  keep := fun i h h' st k => ⟨⟨st.1.choose, k e (by simp) _ st.1.choose_spec⟩, st.2.1.keep fun o q => k it (by simp) o q, st.2.2⟩
  item := by
    intro X hP hw hK hc i pins s σ H E I hf st hg
    subst hP hw hK
    obtain ⟨⟨old, en⟩, ti, n1, n2, n3⟩ := st
    obtain ⟨xs, x, sq, gx⟩ := hg
    obtain ⟨its, rv, tu⟩ := seqB I sq
    obtain ⟨u, gu, ru⟩ := rv.get gx
    have el : e < s.heap.objs.size := Heap.lt_size en
    have il : it < s.heap.objs.size := by obtain ⟨_, q, _⟩ := ti.obj; exact Heap.lt_size q
    have iu : i < its.toArray.size := by
      have := (List.getElem?_eq_some_iff.mp gu).1
      simpa using this
    obtain ⟨m1, S1, D1, q1, _, _, l1, o1⟩ := drawB (prog := X.prog) (w := X.w) (show X.A.in1.handled = none from I.ok.hd hc) n2 ti tu
    refine wpAny_pyNext_enum_itemD D1 en q1 (l1 iu) n1 (by simp; exact ⟨n1, Ne.symm n3⟩) fun y h' tk hy eo st' hT _ hk => ?_
    have ey : y = u := by
      have hy : its.toArray[i]? = some y := hy
      rw [List.getElem?_toArray, gu] at hy
      exact (Option.some.inj hy).symm
    subst ey
    refine ⟨_, rfl, wpAny_letOwnedTupleGo_enum (s := { s with heap := h', toks := tk + 1 }) eo fun h2 en2 sb => ?_⟩
    have T2 := (sb.2 _ (Nat.ne_of_gt el)).trans hT
    have new : ObjOk X.prog X.w (upd H s.heap.objs.size (.frz { cls := .type "tuple", data := .seq #[Value.int (i : Nat) tk, y] } (.tup [.int (i : Nat), x]))) h2 s.heap.objs.size (.frz { cls := .type "tuple", data := .seq #[Value.int (i : Nat) tk, y] } (.tup [.int (i : Nat), x])) := ⟨T2, by show 2 ≤ sizeLine; decide, [.int i tk, y], .cons ⟨_, rfl⟩ (.cons ru .nil), ⟨_, T2, rfl, _, rfl⟩⟩
    have I1 : Inv X pins σ (upd H s.heap.objs.size (.frz { cls := .type "tuple", data := .seq #[Value.int (i : Nat) tk, y] } (.tup [.int (i : Nat), x]))) { s with heap := h2, toks := tk + 1 } :=
      I.turnedNew (ch := [e, it]) (fun b o hb q => (sb.2 b (fun z => hb (by simp [z]))).trans (hk b o (fun z => hb (by simp [z])) (fun z => hb (by simp [z])) q)) hf (Nat.le_refl _) new
    refine ⟨.ref s.heap.objs.size, _, I1, rfl, ⟨_, _, x, rfl, I.hok.fresh (Nat.le_refl _), rfl, rfl, fun ys hy => by rw [injB I hy sq]; exact gx⟩, ⟨⟨y, ?_⟩, (o1 _ _ st').keep fun o q => (sb.2 it (Ne.symm n1)).trans q, n1, n2, n3⟩, fun b hb => ?_⟩
    · have e1 : ((i + 1 : Nat) : Int) = (i : Int) + 1 := by omega
      rw [e1]; exact en2
    · have lt : b < s.heap.objs.size := by
        rcases (by simpa using hb : b = e ∨ b = it) with rfl | rfl
        · exact el
        · exact il
      rw [upd_ne (Nat.ne_of_lt lt)]
      exact (hf b hb).1
  done := by
    intro X hP hw hK hc i pins s σ H E I hf st hg
    subst hP hw hK
    obtain ⟨⟨old, en⟩, ti, n1, n2, n3⟩ := st
    obtain ⟨xs, sq, lx⟩ := hg
    obtain ⟨its, rv, tu⟩ := seqB I sq
    have ll := rv.length
    obtain ⟨f0, f1, f2, f3, f4, f5⟩ := hf it (by simp)
    have hh : X.A.in1.handled = none := I.ok.hd hc
    have hT : s.TypeIs (.ref e) "enumerate" := ⟨_, en, rfl⟩
    have hx : its.toArray[i]? = none := by simp; omega
    unfold pyNext
    refine wpAny_bind (wpAny_attempt (wpAny_callSpecial?_slot (name := Str.ofString "__next__") hT F.slot_enumerate_next (wpAny_call_entry F.slot_enumerate_next hT F.entry_enumerate_next ?_ (F.args_enumerate_next_1 _))))
    show wpAny _ _ (field (.ref e) 2 >>= _) _ _ _
    refine wpAny_bind (wpAny_field en rfl (x := .ref it) rfl (wpAny_bind ?_))
    cases k
    · refine wpAny_nextOf_tuple_end hh ti tu hx fun h' x eb cls => ?_
      obtain ⟨o, go, gc⟩ := cls
      exact wpAny_bind (wpAny_isInstance (T := "StopIteration") (b := true) ⟨o, go, gc⟩ isSubtype_stop (wpAny_pure ⟨rfl, I.turned (t' := s.toks) (fun b o hb q => eb b o hb q) f0 f1 f3 f4 f5⟩))
    · refine wpAny_nextOf_list_end hh ti tu hx fun h' x eb cls => ?_
      obtain ⟨o, go, gc⟩ := cls
      exact wpAny_bind (wpAny_isInstance (T := "StopIteration") (b := true) ⟨o, go, gc⟩ isSubtype_stop (wpAny_pure ⟨rfl, I.turned (t' := s.toks) (fun b o hb q => eb b o hb q) f0 f1 f3 f4 f5⟩))
  self := fun A i s Q E st h => wpAny_pyIter_enum st.1.choose_spec h
/-- of a list or of a tuple -/
def iEnA (K : PySem.W.Frag) (ta : TA) : TI := fun σ H R => ta σ H fun vs H1 => ∃ k a xs, vs = [.ref a] ∧ SqB K k H1 a xs ∧ R (IteB K k a) H1
theorem pi_enA {X : Cx} {e : Expr} {ta : TA} {p pos tpos : Pos} {elts : List Expr} {kk : Nat} (hg : Gl X "enumerate") (hm : X.mg "enumerate" = none) (ha : PA X [e] ta) (hs : starEach [e] X.env = [(false, eval e X.env)]) :
    PI X (.Tuple elts kk tpos) (.Call (.Name "enumerate" p) [e] [] pos) (iEnA X.K ta) := by
  refine ⟨fun pins s σ H R I h => ?_⟩
  refine Call_ (ld_blt I hg hm boot_enumerate (PyProof.Rows.callWith_type1 (thn (ha.run pos pins s σ H _ I h) fun us s1 ⟨vs, H1, I1, r1, q1⟩ => ?_) hs rfl))
  obtain ⟨k, a, xs, rfl, sq, q⟩ := q1
  cases r1 with
  | cons r rr =>
    cases rr
    cases r
    have fresh2 : ∀ b ∈ [s1.heap.objs.size + 1, s1.heap.objs.size], FpOk X pins H1 b := fun b hb => by
      have le : s1.heap.objs.size ≤ b := by
        rcases (by simpa using hb : b = s1.heap.objs.size + 1 ∨ b = s1.heap.objs.size) with rfl | rfl
        · exact Nat.le_add_right _ _
        · exact Nat.le_refl _
      exact I1.fpOk le (I1.hok.fresh le)
    obtain ⟨its, rv, tu⟩ := seqB I1 sq
    have al := tu.lt
    refine en1_call (begB k a its.toArray) tu fun h' en ti _ hk => wpAny_pyIter_enum en ⟨_, _, _, _, H1, rfl, I1.kept (t' := s1.toks) hk, turn_enB k a (s1.heap.objs.size + 1) s1.heap.objs.size, ⟨⟨.none, en⟩, itB0 k ti, Nat.succ_ne_self _, Nat.ne_of_lt al, Nat.ne_of_lt (Nat.lt_succ_of_lt al)⟩, fresh2, q⟩
end Ded
end

section
set_option Elab.async false
set_option linter.all false
set_option maxRecDepth 100000
/-! zip of three, each a list or a tuple. -/
namespace Ded
open PySem PySem.Spec PyProof.Rows L2
/-- three at each turn, the items in new triples -/
def It3 (K : PySem.W.Frag) (k1 k2 k3 : Bool) (a b c : Addr) : It :=
  ⟨fun i H => ∃ (xs ys zs : List V) (x y z : V), SqB K k1 H a xs ∧ SqB K k2 H b ys ∧ SqB K k3 H c zs ∧ xs[i]? = some x ∧ ys[i]? = some y ∧ zs[i]? = some z,
    fun i H v H' => ∃ T o x y z, v = .ref T ∧ H T = none ∧ o.dict = none ∧ H' = upd H T (.frz o (.tup [x, y, z])) ∧ (∀ xs, SqB K k1 H a xs → xs[i]? = some x) ∧ (∀ ys, SqB K k2 H b ys → ys[i]? = some y) ∧ ∀ zs, SqB K k3 H c zs → zs[i]? = some z,
    fun i H => ∃ xs ys zs : List V, SqB K k1 H a xs ∧ SqB K k2 H b ys ∧ SqB K k3 H c zs ∧ (xs.length ≤ i ∨ ys.length ≤ i ∨ zs.length ≤ i)⟩
theorem turn_zip3 {P : Program} {w : World} {K : PySem.W.Frag} {elts : List Expr} {kk : Nat} {tpos : Pos} {k1 k2 k3 : Bool} {a b c z TI TO i1 i2 i3 : Addr} (S : ZipSep3 z TI TO i1 i2 i3 [i1, a] [i2, b] [i3, c]) (n1 : a ≠ i1) (n2 : b ≠ i2) (n3 : c ≠ i3) :
    Turn P w K (.Tuple elts kk tpos) (It3 K k1 k2 k3 a b c) [z, TI, TO, i1, i2, i3] z (fun i h => IsZip h z TI TO .none ∧ IsTupOf3 h TI (.ref i1) (.ref i2) (.ref i3) ∧ (∃ x y v, IsTupOf3 h TO x y v) ∧ ItB k1 h i1 a i ∧ ItB k2 h i2 b i ∧ ItB k3 h i3 c i) where
  mem := by simp
  obj := fun i h st q hq => by
    obtain ⟨zz, ti, ⟨_, _, _, to⟩, d1, d2, d3⟩ := st
    rcases (by simpa using hq : q = z ∨ q = TI ∨ q = TO ∨ q = i1 ∨ q = i2 ∨ q = i3) with rfl | rfl | rfl | rfl | rfl | rfl
    · exact ⟨_, zz, fun v q => nomatch q⟩
    · exact ⟨_, ti, fun v q => nomatch q⟩
    · exact ⟨_, to, fun v q => nomatch q⟩
    · exact d1.obj
    · exact d2.obj
    · exact d3.obj
  keep := fun i h h' st k => by
    obtain ⟨zz, ti, ⟨_, _, _, to⟩, d1, d2, d3⟩ := st
    exact ⟨k z (by simp) _ zz, k TI (by simp) _ ti, ⟨_, _, _, k TO (by simp) _ to⟩, d1.keep fun o q => k i1 (by simp) o q, d2.keep fun o q => k i2 (by simp) o q, d3.keep fun o q => k i3 (by simp) o q⟩
  item := by
    intro X hP hw hK hc i pins s σ H E I hf st hg
    subst hP hw hK
    obtain ⟨zz, ti, ⟨_, _, _, to⟩, d1, d2, d3⟩ := st
    obtain ⟨xs, ys, zs, x, y, v, s1, s2, s3, g1, g2, g3⟩ := hg
    obtain ⟨t1, r1, b1⟩ := seqB I s1
    obtain ⟨t2, r2, b2⟩ := seqB I s2
    obtain ⟨t3, r3, b3⟩ := seqB I s3
    obtain ⟨u1, h1, ru1⟩ := r1.get g1
    obtain ⟨u2, h2, ru2⟩ := r2.get g2
    obtain ⟨u3, h3, ru3⟩ := r3.get g3
    have hh : X.A.in1.handled = none := I.ok.hd hc
    have sz : ∀ {t : List Value} {u : Value}, t[i]? = some u → i < t.toArray.size := fun e => by
      have := (List.getElem?_eq_some_iff.mp e).1
      simpa using this
    obtain ⟨m1, S1, D1, q1, _, _, l1, o1⟩ := drawB (prog := X.prog) (w := X.w) hh n1 d1 b1
    obtain ⟨m2, S2, D2, q2, _, _, l2, o2⟩ := drawB (prog := X.prog) (w := X.w) hh n2 d2 b2
    obtain ⟨m3, S3, D3, q3, _, _, l3, o3⟩ := drawB (prog := X.prog) (w := X.w) hh n3 d3 b3
    have zl : z < s.heap.objs.size := Heap.lt_size zz
    refine wpAny_pyNext_zipD3_item S D1 D2 D3 zz ti to q1 q2 q3 (l1 (sz h1)) (l2 (sz h2)) (l3 (sz h3)) fun w1 w2 w3 h' tk p1 p2 p3 zo to' e1 e2 e3 hT _ hk => ?_
    have same : ∀ {t : List Value} {u w : Value}, t[i]? = some u → t.toArray[i]? = some w → w = u := fun e e' => by
      rw [List.getElem?_toArray, e] at e'
      exact (Option.some.inj e').symm
    cases same h1 p1; cases same h2 p2; cases same h3 p3
    refine ⟨_, rfl, wpAny_letOwnedTupleGo_zip (s := { s with heap := h', toks := tk }) zo fun h2' zz2 sb => ?_⟩
    have T2 := (sb.2 _ (Nat.ne_of_gt zl)).trans hT
    have new : ObjOk X.prog X.w (upd H s.heap.objs.size (.frz { cls := .type "tuple", data := .seq #[u1, u2, u3] } (.tup [x, y, v]))) h2' s.heap.objs.size (.frz { cls := .type "tuple", data := .seq #[u1, u2, u3] } (.tup [x, y, v])) := ⟨T2, by show 3 ≤ sizeLine; decide, [u1, u2, u3], .cons ru1 (.cons ru2 (.cons ru3 .nil)), ⟨_, T2, rfl, _, rfl⟩⟩
    have I1 : Inv X pins σ (upd H s.heap.objs.size (.frz { cls := .type "tuple", data := .seq #[u1, u2, u3] } (.tup [x, y, v]))) { s with heap := h2', toks := tk } :=
      I.turnedNew (ch := [z, TI, TO, i1, i2, i3]) (fun q o hb e => (sb.2 q (fun n => hb (by simp [n]))).trans (hk q o (fun n => hb (by simp [n])) (fun n => hb (by simp [n])) (fun n => hb (by simp [n])) (fun n => hb (by simp [n])) (fun n => hb (by simp [n])) e)) hf (Nat.le_refl _) new
    refine ⟨.ref s.heap.objs.size, _, I1, rfl, ⟨_, _, x, y, v, rfl, I.hok.fresh (Nat.le_refl _), rfl, rfl, fun q hq => by rw [injB I hq s1]; exact g1, fun q hq => by rw [injB I hq s2]; exact g2, fun q hq => by rw [injB I hq s3]; exact g3⟩, ⟨zz2, ?_, ⟨_, _, _, (sb.2 _ S.TOz).trans to'⟩, ?_, ?_, ?_⟩, fun q hq => ?_⟩
    · exact (sb.2 _ S.TIz).trans (hk _ _ S.TIz S.TITO S.TIi1 S.TIi2 S.TIi3 ti)
    · exact (o1 _ _ e1).keep fun o e => (sb.2 _ (Ne.symm S.zi1)).trans e
    · exact (o2 _ _ e2).keep fun o e => (sb.2 _ (Ne.symm S.zi2)).trans e
    · exact (o3 _ _ e3).keep fun o e => (sb.2 _ (Ne.symm S.zi3)).trans e
    · have lt : q < s.heap.objs.size := by
        rcases (by simpa using hq : q = z ∨ q = TI ∨ q = TO ∨ q = i1 ∨ q = i2 ∨ q = i3) with rfl | rfl | rfl | rfl | rfl | rfl
        · exact zl
        · exact Heap.lt_size ti
        · exact Heap.lt_size to
        · obtain ⟨_, e, _⟩ := d1.obj; exact Heap.lt_size e
        · obtain ⟨_, e, _⟩ := d2.obj; exact Heap.lt_size e
        · obtain ⟨_, e, _⟩ := d3.obj; exact Heap.lt_size e
      rw [upd_ne (Nat.ne_of_lt lt)]
      exact (hf q hq).1
  done := by
    intro X hP hw hK hc i pins s σ H E I hf st hg
    subst hP hw hK
    obtain ⟨zz, ti, ⟨_, _, _, to⟩, d1, d2, d3⟩ := st
    obtain ⟨xs, ys, zs, s1, s2, s3, hend⟩ := hg
    obtain ⟨t1, r1, b1⟩ := seqB I s1
    obtain ⟨t2, r2, b2⟩ := seqB I s2
    obtain ⟨t3, r3, b3⟩ := seqB I s3
    have hh : X.A.in1.handled = none := I.ok.hd hc
    obtain ⟨m1, S1, D1, q1, z1, l1, _, _⟩ := drawB (prog := X.prog) (w := X.w) hh n1 d1 b1
    obtain ⟨m2, S2, D2, q2, z2, l2, _, _⟩ := drawB (prog := X.prog) (w := X.w) hh n2 d2 b2
    obtain ⟨m3, S3, D3, q3, z3, l3, _, _⟩ := drawB (prog := X.prog) (w := X.w) hh n3 d3 b3
    have e1 := r1.length
    have e2 := r2.length
    have e3 := r3.length
    have fin : i = m1 ∨ i = m2 ∨ i = m3 := by
      rcases hend with q | q | q
      · exact .inl (l1 (by simp; omega))
      · exact .inr (.inl (l2 (by simp; omega)))
      · exact .inr (.inr (l3 (by simp; omega)))
    exact wpAny_pyNext_zipD3_end S D1 D2 D3 zz ti to q1 q2 q3 z1 z2 z3 fin fun h' tk hk => ⟨rfl, I.turnedL (t' := tk) (ch := [z, TI, TO, i1, i2, i3]) (fun q o hb e =>
      hk q o (fun n => hb (by simp [n])) (fun n => hb (by simp [n])) (fun n => hb (by simp [n])) (fun n => hb (by simp [n])) (fun n => hb (by simp [n])) e) hf⟩
  self := fun A i s Q E st h => wpAny_pyIter_zip st.1 h
/-- zip(e, e2, e3) -/
def iZip3 (K : PySem.W.Frag) (ta : TA) : TI := fun σ H R => ta σ H fun vs H1 => ∃ k1 k2 k3 a b c xs ys zs, vs = [.ref a, .ref b, .ref c] ∧ SqB K k1 H1 a xs ∧ SqB K k2 H1 b ys ∧ SqB K k3 H1 c zs ∧ R (It3 K k1 k2 k3 a b c) H1
theorem pi_zip3 {X : Cx} {e e2 e3 : Expr} {ta : TA} {p pos tpos : Pos} {elts : List Expr} {kk : Nat} (hg : Gl X "zip") (hm : X.mg "zip" = none) (ha : PA X [e, e2, e3] ta)
    (hs : starEach [e, e2, e3] X.env = (false, eval e X.env) :: starEach [e2, e3] X.env) (hpl : (backTo pos (starEach [e2, e3] X.env)).any (·.1) = false) :
    PI X (.Tuple elts kk tpos) (.Call (.Name "zip" p) [e, e2, e3] [] pos) (iZip3 X.K ta) := by
  refine ⟨fun pins s σ H R I h => ?_⟩
  refine Call_ (ld_blt I hg hm PyProof.Rows.boot_zip (PyProof.Rows.callWith_type1 (thn (ha.run pos pins s σ H _ I h) fun us s1 ⟨vs, H1, I1, r1, q1⟩ => ?_) hs hpl))
  obtain ⟨k1, k2, k3, a, b, c, xs, ys, zs, rfl, w1, w2, w3, q⟩ := q1
  cases r1 with
  | cons r rr =>
    cases rr with
    | cons r' rr =>
      cases rr with
      | cons r2 rr =>
        cases rr
        cases r
        cases r'
        cases r2
        obtain ⟨t1, v1, b1⟩ := seqB I1 w1
        obtain ⟨t2, v2, b2⟩ := seqB I1 w2
        obtain ⟨t3, v3, b3⟩ := seqB I1 w3
        have la := b1.lt
        have lb := b2.lt
        have lc := b3.lt
        refine zip_begins3 (begB k1 a _) (begB k2 b _) (begB k3 c _) b1 b2 b3 fun h' zz ti to g1 g2 g3 _ hk => wpAny_pyIter_zip zz ?_
        have sep := zip_sep3 (N := s1.heap.objs.size) (fp1 := [a]) (fp2 := [b]) (fp3 := [c]) (by simpa using la) (by simpa using lb) (by simpa using lc)
        refine ⟨_, [s1.heap.objs.size + 5, s1.heap.objs.size + 3, s1.heap.objs.size + 4, s1.heap.objs.size, s1.heap.objs.size + 1, s1.heap.objs.size + 2], _, _, H1, rfl, I1.kept (t' := s1.toks) hk, turn_zip3 sep (Nat.ne_of_lt la) (Nat.ne_of_lt (Nat.lt_succ_of_lt lb)) (Nat.ne_of_lt (Nat.lt_succ_of_lt (Nat.lt_succ_of_lt lc))), ⟨zz, ti, ⟨_, _, _, to⟩, itB0 k1 g1, itB0 k2 g2, itB0 k3 g3⟩, fun q hq => ?_, q⟩
        have le : s1.heap.objs.size ≤ q := by
          rcases (by simpa using hq : q = s1.heap.objs.size + 5 ∨ q = s1.heap.objs.size + 3 ∨ q = s1.heap.objs.size + 4 ∨ q = s1.heap.objs.size ∨ q = s1.heap.objs.size + 1 ∨ q = s1.heap.objs.size + 2) with rfl | rfl | rfl | rfl | rfl | rfl
          · exact Nat.le_add_right _ _
          · exact Nat.le_add_right _ _
          · exact Nat.le_add_right _ _
          · exact Nat.le_refl _
          · exact Nat.le_add_right _ _
          · exact Nat.le_add_right _ _
        exact I1.fpOk le (I1.hok.fresh le)
end Ded
end

section
set_option Elab.async false
set_option linter.all false
set_option maxRecDepth 100000
/-! zip of two, each a list or a tuple. -/
namespace Ded
open PySem PySem.Spec PyProof.Rows L2
/-- two at each turn, the items in new pairs -/
def It2 (K : PySem.W.Frag) (k1 k2 : Bool) (a b : Addr) : It :=
  ⟨fun i H => ∃ (xs ys : List V) (x y : V), SqB K k1 H a xs ∧ SqB K k2 H b ys ∧ xs[i]? = some x ∧ ys[i]? = some y,
    fun i H v H' => ∃ T o x y, v = .ref T ∧ H T = none ∧ o.dict = none ∧ H' = upd H T (.frz o (.tup [x, y])) ∧ (∀ xs, SqB K k1 H a xs → xs[i]? = some x) ∧ (∀ ys, SqB K k2 H b ys → ys[i]? = some y),
    fun i H => ∃ xs ys : List V, SqB K k1 H a xs ∧ SqB K k2 H b ys ∧ (xs.length ≤ i ∨ ys.length ≤ i)⟩
theorem turn_zip2 {P : Program} {w : World} {K : PySem.W.Frag} {elts : List Expr} {kk : Nat} {tpos : Pos} {k1 k2 : Bool} {a b z TI TO i1 i2 : Addr} (S : ZipSep2 z TI TO i1 i2 [i1, a] [i2, b]) (n1 : a ≠ i1) (n2 : b ≠ i2) :
    Turn P w K (.Tuple elts kk tpos) (It2 K k1 k2 a b) [z, TI, TO, i1, i2] z (fun i h => IsZip h z TI TO .none ∧ IsTupOf2 h TI (.ref i1) (.ref i2) ∧ (∃ x y, IsTupOf2 h TO x y) ∧ ItB k1 h i1 a i ∧ ItB k2 h i2 b i) where
  mem := by simp
  obj := fun i h st q hq => by
    obtain ⟨zz, ti, ⟨_, _, to⟩, d1, d2⟩ := st
    rcases (by simpa using hq : q = z ∨ q = TI ∨ q = TO ∨ q = i1 ∨ q = i2) with rfl | rfl | rfl | rfl | rfl
    · exact ⟨_, zz, fun v q => nomatch q⟩
    · exact ⟨_, ti, fun v q => nomatch q⟩
    · exact ⟨_, to, fun v q => nomatch q⟩
    · exact d1.obj
    · exact d2.obj
  keep := fun i h h' st k => by
    obtain ⟨zz, ti, ⟨_, _, to⟩, d1, d2⟩ := st
    exact ⟨k z (by simp) _ zz, k TI (by simp) _ ti, ⟨_, _, k TO (by simp) _ to⟩, d1.keep fun o q => k i1 (by simp) o q, d2.keep fun o q => k i2 (by simp) o q⟩
  item := by
    intro X hP hw hK hc i pins s σ H E I hf st hg
    subst hP hw hK
    obtain ⟨zz, ti, ⟨_, _, to⟩, d1, d2⟩ := st
    obtain ⟨xs, ys, x, y, s1, s2, g1, g2⟩ := hg
    obtain ⟨t1, r1, b1⟩ := seqB I s1
    obtain ⟨t2, r2, b2⟩ := seqB I s2
    obtain ⟨u1, h1, ru1⟩ := r1.get g1
    obtain ⟨u2, h2, ru2⟩ := r2.get g2
    have hh : X.A.in1.handled = none := I.ok.hd hc
    have sz : ∀ {t : List Value} {u : Value}, t[i]? = some u → i < t.toArray.size := fun e => by
      have := (List.getElem?_eq_some_iff.mp e).1
      simpa using this
    obtain ⟨m1, S1, D1, q1, _, _, l1, o1⟩ := drawB (prog := X.prog) (w := X.w) hh n1 d1 b1
    obtain ⟨m2, S2, D2, q2, _, _, l2, o2⟩ := drawB (prog := X.prog) (w := X.w) hh n2 d2 b2
    have zl : z < s.heap.objs.size := Heap.lt_size zz
    refine wpAny_pyNext_zipD2_item S D1 D2 zz ti to q1 q2 (l1 (sz h1)) (l2 (sz h2)) fun w1 w2 h' tk p1 p2 zo to' e1 e2 hT _ hk => ?_
    have same : ∀ {t : List Value} {u w : Value}, t[i]? = some u → t.toArray[i]? = some w → w = u := fun e e' => by
      rw [List.getElem?_toArray, e] at e'
      exact (Option.some.inj e').symm
    cases same h1 p1; cases same h2 p2
    refine ⟨_, rfl, wpAny_letOwnedTupleGo_zip (s := { s with heap := h', toks := tk }) zo fun h2' zz2 sb => ?_⟩
    have T2 := (sb.2 _ (Nat.ne_of_gt zl)).trans hT
    have new : ObjOk X.prog X.w (upd H s.heap.objs.size (.frz { cls := .type "tuple", data := .seq #[u1, u2] } (.tup [x, y]))) h2' s.heap.objs.size (.frz { cls := .type "tuple", data := .seq #[u1, u2] } (.tup [x, y])) := ⟨T2, by show 2 ≤ sizeLine; decide, [u1, u2], .cons ru1 (.cons ru2 .nil), ⟨_, T2, rfl, _, rfl⟩⟩
    have I1 : Inv X pins σ (upd H s.heap.objs.size (.frz { cls := .type "tuple", data := .seq #[u1, u2] } (.tup [x, y]))) { s with heap := h2', toks := tk } :=
      I.turnedNew (ch := [z, TI, TO, i1, i2]) (fun q o hb e => (sb.2 q (fun n => hb (by simp [n]))).trans (hk q o (fun n => hb (by simp [n])) (fun n => hb (by simp [n])) (fun n => hb (by simp [n])) (fun n => hb (by simp [n])) e)) hf (Nat.le_refl _) new
    refine ⟨.ref s.heap.objs.size, _, I1, rfl, ⟨_, _, x, y, rfl, I.hok.fresh (Nat.le_refl _), rfl, rfl, fun q hq => by rw [injB I hq s1]; exact g1, fun q hq => by rw [injB I hq s2]; exact g2⟩, ⟨zz2, ?_, ⟨_, _, (sb.2 _ S.TOz).trans to'⟩, ?_, ?_⟩, fun q hq => ?_⟩
    · exact (sb.2 _ S.TIz).trans (hk _ _ S.TIz S.TITO S.TIi1 S.TIi2 ti)
    · exact (o1 _ _ e1).keep fun o e => (sb.2 _ (Ne.symm S.zi1)).trans e
    · exact (o2 _ _ e2).keep fun o e => (sb.2 _ (Ne.symm S.zi2)).trans e
    · have lt : q < s.heap.objs.size := by
        rcases (by simpa using hq : q = z ∨ q = TI ∨ q = TO ∨ q = i1 ∨ q = i2) with rfl | rfl | rfl | rfl | rfl
        · exact zl
        · exact Heap.lt_size ti
        · exact Heap.lt_size to
        · obtain ⟨_, e, _⟩ := d1.obj; exact Heap.lt_size e
        · obtain ⟨_, e, _⟩ := d2.obj; exact Heap.lt_size e
      rw [upd_ne (Nat.ne_of_lt lt)]
      exact (hf q hq).1
  done := by
    intro X hP hw hK hc i pins s σ H E I hf st hg
    subst hP hw hK
    obtain ⟨zz, ti, ⟨_, _, to⟩, d1, d2⟩ := st
    obtain ⟨xs, ys, s1, s2, hend⟩ := hg
    obtain ⟨t1, r1, b1⟩ := seqB I s1
    obtain ⟨t2, r2, b2⟩ := seqB I s2
    have hh : X.A.in1.handled = none := I.ok.hd hc
    obtain ⟨m1, S1, D1, q1, z1, l1, _, _⟩ := drawB (prog := X.prog) (w := X.w) hh n1 d1 b1
    obtain ⟨m2, S2, D2, q2, z2, l2, _, _⟩ := drawB (prog := X.prog) (w := X.w) hh n2 d2 b2
    have e1 := r1.length
    have e2 := r2.length
    have fin : i = m1 ∨ i = m2 := by
      rcases hend with q | q
      · exact .inl (l1 (by simp; omega))
      · exact .inr (l2 (by simp; omega))
    exact wpAny_pyNext_zipD2_end S D1 D2 zz ti to q1 q2 z1 z2 fin fun h' tk hk => ⟨rfl, I.turnedL (t' := tk) (ch := [z, TI, TO, i1, i2]) (fun q o hb e =>
      hk q o (fun n => hb (by simp [n])) (fun n => hb (by simp [n])) (fun n => hb (by simp [n])) (fun n => hb (by simp [n])) e) hf⟩
  self := fun A i s Q E st h => wpAny_pyIter_zip st.1 h
/-- zip(e, e2) -/
def iZip2 (K : PySem.W.Frag) (ta : TA) : TI := fun σ H R => ta σ H fun vs H1 => ∃ k1 k2 a b xs ys, vs = [.ref a, .ref b] ∧ SqB K k1 H1 a xs ∧ SqB K k2 H1 b ys ∧ R (It2 K k1 k2 a b) H1
theorem pi_zip2 {X : Cx} {e e2 : Expr} {ta : TA} {p pos tpos : Pos} {elts : List Expr} {kk : Nat} (hg : Gl X "zip") (hm : X.mg "zip" = none) (ha : PA X [e, e2] ta)
    (hs : starEach [e, e2] X.env = (false, eval e X.env) :: starEach [e2] X.env) (hpl : (backTo pos (starEach [e2] X.env)).any (·.1) = false) :
    PI X (.Tuple elts kk tpos) (.Call (.Name "zip" p) [e, e2] [] pos) (iZip2 X.K ta) := by
  refine ⟨fun pins s σ H R I h => ?_⟩
  refine Call_ (ld_blt I hg hm PyProof.Rows.boot_zip (PyProof.Rows.callWith_type1 (thn (ha.run pos pins s σ H _ I h) fun us s1 ⟨vs, H1, I1, r1, q1⟩ => ?_) hs hpl))
  obtain ⟨k1, k2, a, b, xs, ys, rfl, w1, w2, q⟩ := q1
  cases r1 with
  | cons r rr =>
    cases rr with
    | cons r' rr =>
      cases rr
      cases r
      cases r'
      obtain ⟨t1, v1, b1⟩ := seqB I1 w1
      obtain ⟨t2, v2, b2⟩ := seqB I1 w2
      have la := b1.lt
      have lb := b2.lt
      refine zip_begins2 (begB k1 a _) (begB k2 b _) b1 b2 fun h' zz ti to g1 g2 _ hk => wpAny_pyIter_zip zz ?_
      have sep := zip_sep2 (N := s1.heap.objs.size) (fp1 := [a]) (fp2 := [b]) (by simpa using la) (by simpa using lb)
      refine ⟨_, [s1.heap.objs.size + 4, s1.heap.objs.size + 2, s1.heap.objs.size + 3, s1.heap.objs.size, s1.heap.objs.size + 1], _, _, H1, rfl, I1.kept (t' := s1.toks) hk, turn_zip2 sep (Nat.ne_of_lt la) (Nat.ne_of_lt (Nat.lt_succ_of_lt lb)), ⟨zz, ti, ⟨_, _, to⟩, itB0 k1 g1, itB0 k2 g2⟩, fun q hq => ?_, q⟩
      have le : s1.heap.objs.size ≤ q := by
        rcases (by simpa using hq : q = s1.heap.objs.size + 4 ∨ q = s1.heap.objs.size + 2 ∨ q = s1.heap.objs.size + 3 ∨ q = s1.heap.objs.size ∨ q = s1.heap.objs.size + 1) with rfl | rfl | rfl | rfl | rfl
        · exact Nat.le_add_right _ _
        · exact Nat.le_add_right _ _
        · exact Nat.le_add_right _ _
        · exact Nat.le_refl _
        · exact Nat.le_add_right _ _
      exact I1.fpOk le (I1.hok.fresh le)
end Ded
end

section
set_option Elab.async false
set_option linter.all false
set_option maxRecDepth 100000
/-! What a loop or a comprehension goes through; stores into dicts. -/
namespace Ded
open PySem L2
variable [TabName]
section
variable {K : PySem.W.Frag} {F : Fz} {H : Hp} {a b : Addr} {xs ys : List V} {ds es : List D}
theorem Kp.sqL {H2 : Hp} (kp : Kp F H H2) (fa : F a) (e : H a = some (.lst xs)) : SqL K H2 a xs := SqL.of (kp a _ fa nt_lst e).lst
theorem Kp.sqT {H2 : Hp} (kp : Kp F H H2) (fa : F a) (e : Pl H a xs) : SqT K H2 a xs := (kp.pl fa e).sq
theorem RfA.at {i : Nat} (r : RfA K F H xs ds) (hi : i < ds.length) : ∃ v, xs[i]? = some v ∧ Rf K F H v ds[i] := r.get (List.getElem?_eq_getElem hi)
theorem items_lst (fa : F a) (e : H a = some (.lst xs)) (r : RfA K F H xs ds) : ItemsOk K F H (Itl K a) ds where
  stop := fun H2 i kp hi => ⟨xs, kp.sqL fa e, by rw [r.length]; exact hi⟩
  go := fun H2 i kp hi => let ⟨v, hv, _⟩ := r.at hi; ⟨xs, v, kp.sqL fa e, hv⟩
  yld := fun H2 F2 i x H3 kp hF hd y d hd' => by
    obtain ⟨rfl, y⟩ := y
    obtain ⟨v, hv, rv⟩ := r.get hd'
    have := y xs (kp.sqL fa e)
    rw [hv] at this; cases this
    exact ⟨F2, New.refl hd, rv.mono hF kp⟩
theorem items_tup (fa : F a) (e : Pl H a xs) (r : RfA K F H xs ds) : ItemsOk K F H (Itt K a) ds where
  stop := fun H2 i kp hi => ⟨xs, kp.sqT fa e, by rw [r.length]; exact hi⟩
  go := fun H2 i kp hi => let ⟨v, hv, _⟩ := r.at hi; ⟨xs, v, kp.sqT fa e, hv⟩
  yld := fun H2 F2 i x H3 kp hF hd y d hd' => by
    obtain ⟨rfl, y⟩ := y
    obtain ⟨v, hv, rv⟩ := r.get hd'
    have := y xs (kp.sqT fa e)
    rw [hv] at this; cases this
    exact ⟨F2, New.refl hd, rv.mono hF kp⟩
theorem items_str (z : Str) : ItemsOk K F H (Its z) (z.cps.toList.map fun c => .str ⟨#[c]⟩) where
  stop := fun H2 i kp hi => by
    rw [List.length_map, Array.length_toList] at hi
    exact hi
  go := fun H2 i kp hi => by
    rw [List.length_map, Array.length_toList] at hi
    exact hi
  yld := fun H2 F2 i x H3 kp hF hd y d hd' => by
    obtain ⟨rfl, c, hc, rfl⟩ := y
    rw [List.getElem?_map, Array.getElem?_toList, hc] at hd'
    cases hd'
    exact ⟨F2, New.refl hd, .str _⟩
theorem items_rng (lo : Int) (n : Nat) : ItemsOk K F H (Itr lo n) ((List.range n).map fun k => .int (lo + (k : Nat))) where
  stop := fun H2 i kp hi => by
    rw [List.length_map, List.length_range] at hi
    exact hi
  go := fun H2 i kp hi => by
    rw [List.length_map, List.length_range] at hi
    exact hi
  yld := fun H2 F2 i x H3 kp hF hd y d hd' => by
    obtain ⟨rfl, rfl⟩ := y
    rw [List.getElem?_map] at hd'
    obtain ⟨k, hk, rfl⟩ := Option.map_eq_some_iff.mp hd'
    have hk' := (List.getElem?_eq_some_iff.mp hk).2
    rw [List.getElem_range] at hk'
    subst hk'
    exact ⟨F2, New.refl hd, .int _⟩
theorem pair_new {H2 : Hp} {F2 : Fz} {T : Addr} {x y : V} {dx dy : D} {o : Obj} (hd : ∀ a, F2 a → ∃ o, H2 a = some o) (hT : H2 T = none) (ho : o.dict = none) (rx : Rf K F2 H2 x dx) (ry : Rf K F2 H2 y dy) :
    ∃ F3, New F2 H2 F3 (upd H2 T (.frz o (.tup [x, y]))) ∧ Rf K F3 (upd H2 T (.frz o (.tup [x, y]))) (.ref T) (.tuple [dx, dy]) := by
  have n := New.frz hd hT (.frz o (.tup [x, y]))
  exact ⟨_, n, .tup (.inr rfl) (Pl.new ho) (by show 2 ≤ sizeLine; decide) (.cons (rx.mono n.fmono n.kp) (.cons (ry.mono n.fmono n.kp) .nil))⟩
theorem zip_at {d : D} {i : Nat} (h : ((ds.zip es).map fun p => PyData.tuple [p.1, p.2])[i]? = some d) : ∃ x y, ds[i]? = some x ∧ es[i]? = some y ∧ d = .tuple [x, y] := by
  rw [List.getElem?_map] at h
  obtain ⟨p, hp, rfl⟩ := Option.map_eq_some_iff.mp h
  obtain ⟨h1, h2⟩ := List.getElem?_zip_eq_some.mp hp
  exact ⟨p.1, p.2, h1, h2, rfl⟩
theorem items_zip2 {k1 k2 : Bool} (s1 : ∀ H2, Kp F H H2 → SqB K k1 H2 a xs) (r : RfA K F H xs ds) (s2 : ∀ H2, Kp F H H2 → SqB K k2 H2 b ys) (r' : RfA K F H ys es) : ItemsOk K F H (It2 K k1 k2 a b) ((ds.zip es).map fun p => .tuple [p.1, p.2]) where
  stop := fun H2 i kp hi => ⟨xs, ys, s1 H2 kp, s2 H2 kp, by rw [List.length_map, List.length_zip] at hi; rw [r.length, r'.length]; omega⟩
  go := fun H2 i kp hi => by
    rw [List.length_map, List.length_zip] at hi
    obtain ⟨v, hv, _⟩ := r.at (i := i) (by omega)
    obtain ⟨w, hw, _⟩ := r'.at (i := i) (by omega)
    exact ⟨xs, ys, v, w, s1 H2 kp, s2 H2 kp, hv, hw⟩
  yld := fun H2 F2 i x H3 kp hF hd y d hd' => by
    obtain ⟨T, o, p, q, rfl, hT, ho, rfl, y1, y2⟩ := y
    obtain ⟨dx, dy, h1, h2, rfl⟩ := zip_at hd'
    obtain ⟨v, hv, rv⟩ := r.get h1
    obtain ⟨w, hw, rw'⟩ := r'.get h2
    have z1 := y1 xs (s1 H2 kp)
    have z2 := y2 ys (s2 H2 kp)
    rw [hv] at z1; rw [hw] at z2; cases z1; cases z2
    exact pair_new hd hT ho (rv.mono hF kp) (rw'.mono hF kp)
theorem items_enB {k : Bool} (s1 : ∀ H2, Kp F H H2 → SqB K k H2 a xs) (r : RfA K F H xs ds) : ItemsOk K F H (IteB K k a) ((ds.zipIdx).map fun p => .tuple [.int (p.2 : Nat), p.1]) where
  stop := fun H2 i kp hi => ⟨xs, s1 H2 kp, by rw [List.length_map, List.length_zipIdx] at hi; rw [r.length]; exact hi⟩
  go := fun H2 i kp hi => by
    rw [List.length_map, List.length_zipIdx] at hi
    obtain ⟨v, hv, _⟩ := r.at hi
    exact ⟨xs, v, s1 H2 kp, hv⟩
  yld := fun H2 F2 i x H3 kp hF hd y d hd' => by
    obtain ⟨T, o, q, rfl, hT, ho, rfl, y1⟩ := y
    rw [List.getElem?_map] at hd'
    obtain ⟨p, hp, rfl⟩ := Option.map_eq_some_iff.mp hd'
    rw [List.getElem?_zipIdx] at hp
    obtain ⟨d, h1, rfl⟩ := Option.map_eq_some_iff.mp hp
    obtain ⟨v, hv, rv⟩ := r.get h1
    have z1 := y1 xs (s1 H2 kp)
    rw [hv] at z1; cases z1
    have := pair_new (K := K) hd hT ho (.int ((i : Nat) : Int)) (rv.mono hF kp)
    simpa using this
/-- frozen, a list or a tuple -/
theorem frz_seq {v : V} {d : D} {ds : List D} (h : Rf K F H v d) (e : seqOf d = some ds) : ∃ k a xs, v = .ref a ∧ (∀ H2, Kp F H H2 → SqB K k H2 a xs) ∧ RfA K F H xs ds := by
  cases h with
  | lst fa eh z ra => cases e; exact ⟨true, _, _, rfl, fun H2 kp => kp.sqL fa eh, ra⟩
  | tup fa eh z ra => cases e; exact ⟨false, _, _, rfl, fun H2 kp => kp.sqT fa eh, ra⟩
  | _ => cases e
theorem trip_new {H2 : Hp} {F2 : Fz} {T : Addr} {x y z : V} {dx dy dz : D} {o : Obj} (hd : ∀ a, F2 a → ∃ o, H2 a = some o) (hT : H2 T = none) (ho : o.dict = none) (rx : Rf K F2 H2 x dx) (ry : Rf K F2 H2 y dy) (rz : Rf K F2 H2 z dz) :
    ∃ F3, New F2 H2 F3 (upd H2 T (.frz o (.tup [x, y, z]))) ∧ Rf K F3 (upd H2 T (.frz o (.tup [x, y, z]))) (.ref T) (.tuple [dx, dy, dz]) := by
  have n := New.frz hd hT (.frz o (.tup [x, y, z]))
  exact ⟨_, n, .tup (.inr rfl) (Pl.new ho) (by show 3 ≤ sizeLine; decide) (.cons (rx.mono n.fmono n.kp) (.cons (ry.mono n.fmono n.kp) (.cons (rz.mono n.fmono n.kp) .nil)))⟩
theorem items_zip3 {k1 k2 k3 : Bool} {c : Addr} {zs : List V} {fs : List D} (s1 : ∀ H2, Kp F H H2 → SqB K k1 H2 a xs) (r1 : RfA K F H xs ds) (s2 : ∀ H2, Kp F H H2 → SqB K k2 H2 b ys) (r2 : RfA K F H ys es) (s3 : ∀ H2, Kp F H H2 → SqB K k3 H2 c zs) (r3 : RfA K F H zs fs) :
    ItemsOk K F H (It3 K k1 k2 k3 a b c) ((ds.zip (es.zip fs)).map fun p => .tuple [p.1, p.2.1, p.2.2]) where
  stop := fun H2 i kp hi => ⟨xs, ys, zs, s1 H2 kp, s2 H2 kp, s3 H2 kp, by rw [List.length_map, List.length_zip, List.length_zip] at hi; rw [r1.length, r2.length, r3.length]; omega⟩
  go := fun H2 i kp hi => by
    rw [List.length_map, List.length_zip, List.length_zip] at hi
    obtain ⟨u, hu, _⟩ := r1.at (i := i) (by omega)
    obtain ⟨v, hv, _⟩ := r2.at (i := i) (by omega)
    obtain ⟨w, hw, _⟩ := r3.at (i := i) (by omega)
    exact ⟨xs, ys, zs, u, v, w, s1 H2 kp, s2 H2 kp, s3 H2 kp, hu, hv, hw⟩
  yld := fun H2 F2 i x H3 kp hF hd y d hd' => by
    obtain ⟨T, o', p, q, t, rfl, hT, ho', rfl, y1, y2, y3⟩ := y
    rw [List.getElem?_map] at hd'
    obtain ⟨o, ho, rfl⟩ := Option.map_eq_some_iff.mp hd'
    obtain ⟨h1, h4⟩ := List.getElem?_zip_eq_some.mp ho
    obtain ⟨h2, h3⟩ := List.getElem?_zip_eq_some.mp h4
    obtain ⟨u, hu, ru⟩ := r1.get h1
    obtain ⟨v, hv, rv⟩ := r2.get h2
    obtain ⟨w, hw, rw'⟩ := r3.get h3
    have z1 := y1 xs (s1 H2 kp)
    have z2 := y2 ys (s2 H2 kp)
    have z3 := y3 zs (s3 H2 kp)
    rw [hu] at z1; rw [hv] at z2; rw [hw] at z3; cases z1; cases z2; cases z3
    exact trip_new hd hT ho' (ru.mono hF kp) (rv.mono hF kp) (rw'.mono hF kp)
end
/-! a frozen dict is known as the object that it is, from here on -/
section
variable [TabName] {K : PySem.W.Frag} {F : Fz} {ex : List Addr} {s : S} {σ : L2.St} {H : Hp} {a : Addr} {kvs : List (Key × V)} {o : Obj}
theorem lock_same (h : H a = some (.dK kvs)) (b : Addr) (u : HO) (e : H b = some u) : b ≠ a ∧ upd H a (.frz o (.dK kvs)) b = some u ∨ b = a ∧ u = .dK kvs := by
  by_cases q : b = a
  · rw [q, h] at e
    cases e
    exact .inr ⟨q, rfl⟩
  · exact .inl ⟨q, by rw [upd_ne q]; exact e⟩
theorem lock_grow (M : Fz) (f : F a) (h : H a = some (.dK kvs)) : Grow F M H F M (upd H a (.frz o (.dK kvs))) where
  keep := fun b u _ e _ => by
    rcases lock_same (o := o) h b u e with ⟨_, z⟩ | ⟨rfl, rfl⟩
    · exact .inl z
    · exact .inr ⟨f, kvs, o, rfl, upd_same⟩
  dom := fun b u e => by
    rcases lock_same (o := o) h b u e with ⟨_, z⟩ | ⟨rfl, rfl⟩
    · exact ⟨u, z⟩
    · exact ⟨_, upd_same⟩
  fmono := fun _ z => z
  fnew := fun _ z => .inl z
  mnew := fun _ z => .inl z
  tab := fun t => tabs_at h nt_dK (fun f z => nomatch z) t
theorem Rel.lock (r : Rel K F ex s σ H) (f : F a) (h : H a = some (.dK kvs)) : Rel K F ex s σ (upd H a (.frz o (.dK kvs))) ∧ Step F ex s σ H F ex s (upd H a (.frz o (.dK kvs))) := by
  have g := lock_grow (F := F) (o := o) (fun _ => False) f h
  refine ⟨⟨r.len, fun i v e => ?_, r.sep, r.lent, r.exl, r.exd, fun k d e => ?_, fun b z => ?_⟩, ⟨lock_grow _ f h, List.prefix_refl _, .refl⟩⟩
  · obtain ⟨x, e1, z⟩ := r.slot i v e
    exact ⟨x, e1, z.grow g (fun _ _ q => q) (fun _ _ _ q _ => q) (fun _ _ q => q) (fun _ q => .inl q) fun _ _ _ _ q => q⟩
  · obtain ⟨b, e1, nf, c⟩ := r.cel k d e
    refine ⟨b, e1, nf, c.mono (fun _ q => q) (g.kp fun _ _ q => q) fun u _ z => ?_⟩
    rw [upd_ne (fun q => nf (by rw [q]; exact f))]
    exact z
  · obtain ⟨u, e⟩ := r.fdom b z
    exact g.dom b u e
theorem keys_atD {i : Nat} : ∀ {kvs : List (Key × V)} {es : List (D × D)} {d : D}, RfK K F H kvs es → (es.map (·.1))[i]? = some d → ∃ k v, kvs[i]? = some (k, v) ∧ d = kd k
  | [], _, _, .nil, e => by simp at e
  | (k, v) :: kvs, _, _, .cons (es := es) a b, e => by
    cases i with
    | zero =>
      cases e
      exact ⟨k, v, rfl, rfl⟩
    | succ i =>
      obtain ⟨k2, v2, h1, h2⟩ := keys_atD b (show (es.map (·.1))[i]? = some _ from e)
      exact ⟨k2, v2, h1, h2⟩
theorem RfK.len : ∀ {kvs : List (Key × V)} {es : List (D × D)}, RfK K F H kvs es → kvs.length = es.length
  | [], _, .nil => rfl
  | _ :: _, _, .cons _ b => by rw [List.length_cons, List.length_cons, b.len]
theorem items_dct {es : List (D × D)} (f : F a) (h : H a = some (.frz o (.dK kvs))) (r : RfK K F H kvs es) : ItemsOk K F H (Itk a o kvs) (es.map (·.1)) where
  stop := fun H2 i kp hi => ⟨(kp a _ f nt_frz h).frz, by rw [r.len]; rwa [List.length_map] at hi⟩
  go := fun H2 i kp hi => ⟨(kp a _ f nt_frz h).frz, by rw [r.len]; rwa [List.length_map] at hi⟩
  yld := fun H2 F2 i x H3 _ _ hd y d e => by
    obtain ⟨rfl, k, v, h1, rfl⟩ := y
    obtain ⟨k2, v2, h2, rfl⟩ := keys_atD r e
    rw [h1] at h2
    cases h2
    exact ⟨F2, .refl hd, by cases k <;> first | exact .int _ | exact .str _⟩
end
section
variable {X : Cx} {tg : Expr}
/-- through a list, a tuple, a text or a dict's keys, whichever it is -/
def iDen (K : PySem.W.Frag) (te : TE) : TI := fun σ H R => te σ H fun x H1 => (∃ a xs, x = .ref a ∧ SqL K H1 a xs ∧ R (Itl K a) H1) ∨ (∃ a xs, x = .ref a ∧ SqT K H1 a xs ∧ R (Itt K a) H1) ∨ (∃ z, x = .str z ∧ R (Its z) H1) ∨
  ∃ a kvs, x = .ref a ∧ ((∃ o, H1 a = some (.frz o (.dK kvs)) ∧ R (Itk a o kvs) H1) ∨ (H1 a = some (.dK kvs) ∧ ∀ o, R (Itk a o kvs) (upd H1 a (.frz o (.dK kvs)))))
theorem walk_keys {pins : List (Addr × Obj)} {σ : L2.St} {H : Hp} {s : Shared} {R : It → Hp → Prop} {a : Addr} {o : Obj} {kvs : List (Key × V)} (I : Inv X pins σ H s) (h : H a = some (.frz o (.dK kvs))) (q : R (Itk a o kvs) H) :
    wpAny (model X.prog X.w) X.A (pyIter (.ref a)) (PIE X pins σ tg R) X.xe s := by
  obtain ⟨own, at_, exact_, es, ep, vs, data, size, rel, _⟩ := I.frzK h
  refine iter_keys own at_ exact_ data ?_
  refine pi_one (tk := s.toks) I _ (turn_keys (kvs := kvs) _ data) ?_ q
  exact ⟨_, Heap.get?_push_size _ rfl, rfl, by rw [size]; rfl⟩
theorem pi_den {e : Expr} {te : TE} (he : PE X e te) : PI X tg e (iDen X.K te) := by
  refine ⟨fun pins s σ H R I h => thn (he.run pins s σ H _ I h) fun v s1 ⟨x, H1, I1, rx, q⟩ => ?_⟩
  rcases q with ⟨a, xs, rfl, sq, q⟩ | ⟨a, xs, rfl, sq, q⟩ | ⟨z, rfl, q⟩ | ⟨a, kvs, rfl, q⟩
  · cases rx
    obtain ⟨its, rv, p, hz⟩ := I1.list sq
    exact wpAny_pyIter_list p.isList (pi_one (tk := s1.toks) I1 _ (turn_list a _) ⟨_, Heap.get?_push_size _ rfl, rfl, rfl⟩ q)
  · cases rx
    obtain ⟨its, rv, p, hz⟩ := I1.tuple sq
    exact wpAny_pyIter_tuple (show s1.heap.IsTuple a its.toArray from p) (pi_one (tk := s1.toks) I1 _ (turn_tuple a _) ⟨_, Heap.get?_push_size _ rfl, rfl, rfl⟩ q)
  · obtain ⟨t, rfl⟩ := rx
    cases ha : z.cps.all (· < 128)
    · exact wpAny_pyIter_wide ha (pi_one (tk := s1.toks) I1 _ (turn_str _ z t "str_iterator" (.inr rfl)) ⟨_, Heap.get?_push_size _ rfl, rfl, rfl⟩ q)
    · exact wpAny_pyIter_ascii ha (pi_one (tk := s1.toks) I1 _ (turn_str _ z t "str_ascii_iterator" (.inl rfl)) ⟨_, Heap.get?_push_size _ rfl, rfl, rfl⟩ q)
  · cases rx
    rcases q with ⟨o, at_, q⟩ | ⟨at_, q⟩
    · exact walk_keys I1 at_ q
    · obtain ⟨o, I2⟩ := I1.lock at_ trivial
      exact walk_keys I2 upd_same (q o)
theorem PI.imp {e : Expr} {w w' : TI} (h : PI X tg e w) (q : ∀ σ H R, w' σ H R → w σ H R) : PI X tg e w' := ⟨fun pins s σ H R I z => h.run pins s σ H R I (q σ H R z)⟩
end
section
variable {X : Cx} {xc : Xc} {en : Entry xc.T} {Wi : XK} {e e2 : Expr} {es : List Expr} {pos p tpos : Pos} {m n : M Val} {tg : Expr} {elts : List Expr} {kk : Nat}
abbrev PId (X : Cx) (xc : Xc) (en : Entry xc.T) (Wi : XK) (tg e : Expr) (w : M (List D)) : Prop := PI X tg e (TI' X.K xc en Wi w)
theorem w_of (he : PEd X xc en Wi e m) : PId X xc en Wi tg e (wOf m) := by
  refine PI.imp (pi_den he) fun σ H R ⟨F, ex, s, r, f, h⟩ => T1.fz ⟨F, ex, s, r, f, (Ends_.bind (m := mFrz m) h).imp fun F1 ex1 H1 s1 d e1 r1 st1 q x rx => ?_⟩
  obtain ⟨ds, ei, q2⟩ := q.opt
  replace q := q2 F1 ex1 H1 r1 st1
  have rx : Rf X.K F1 H1 x d := rx
  cases d <;> cases ei
  · cases rx
    exact .inr (.inr (.inl ⟨_, rfl, q _ (items_str _)⟩))
  · cases rx with
    | lst fa eh z ra => exact .inl ⟨_, _, rfl, SqL.of eh, q (Itl X.K _) (items_lst fa eh ra)⟩
  · cases rx with
    | tup fa eh z ra => exact .inr (.inl ⟨_, _, rfl, eh.sq, q (Itt X.K _) (items_tup fa eh ra)⟩)
  · cases rx with
    | @dct a kv _ fa eh rk =>
      refine .inr (.inr (.inr ⟨a, kv, rfl, ?_⟩))
      rcases eh with eh | ⟨o, eh⟩
      · refine .inr ⟨eh, fun o => ?_⟩
        obtain ⟨r2, st2⟩ := r1.lock (o := o) fa eh
        exact q2 F1 ex1 _ r2 (st1.trans st2) (Itk a o kv) (items_dct fa upd_same (RfK.mono (fun _ f => f) ((lock_grow (fun _ => False) fa eh).kp fun _ _ z => z) _ rk))
      · exact .inl ⟨o, eh, q (Itk a o kv) (items_dct fa eh rk)⟩
theorem rng_core {l : M (List Val)} {σ : L2.St} {H : Hp} {R : It → Hp → Prop} (h : TI' X.K xc en Wi (wRange l) σ H R) :
    TL X.K xc en Wi (ROp X.K) l σ H fun vs H1 => (∃ j : Int, vs = [.int j] ∧ -(2 ^ 62) ≤ j ∧ j < 2 ^ 62 ∧ R (Itr 0 j.toNat) H1) ∨ ∃ i j : Int, vs = [.int i, .int j] ∧ (-(2 ^ 62) ≤ i ∧ i < 2 ^ 62 ∧ -(2 ^ 62) ≤ j ∧ j < 2 ^ 62) ∧ R (Itr i (j - i).toNat) H1 := by
  obtain ⟨F, ex, s, r, fr, h⟩ := h
  refine ⟨F, ex, s, r, fr, (Ends_.bind (m := l) h).imp fun F1 ex1 H1 s1 vs e1 r1 st1 q xs rs => ?_⟩
  obtain ⟨ds, ra, q⟩ := peeks_all r1 rs q
  obtain ⟨ks, p, q2⟩ := q.opt
  replace q := q2 F1 ex1 H1 r1 st1
  clear q2
  unfold rangeD at p
  split at p
  · split at p <;> cases p
    rename_i hj
    obtain ⟨x, rfl, hx⟩ := ra.one
    cases rt_int hx
    refine .inl ⟨_, rfl, (fit62_iff.mp hj).1, (fit62_iff.mp hj).2, q _ ?_⟩
    have z : ∀ n : Nat, ItemsOk X.K F1 H1 (Itr 0 n) ((List.range n).map fun k => .int (k : Nat)) := fun n => by
      have := items_rng (K := X.K) (F := F1) (H := H1) 0 n
      simpa using this
    exact z _
  · split at p <;> cases p
    rename_i hj
    obtain ⟨x, y, rfl, hx, hy⟩ := ra.two
    cases rt_int hx; cases rt_int hy
    exact .inr ⟨_, _, rfl, ⟨(fit62_iff.mp hj.1).1, (fit62_iff.mp hj.1).2, (fit62_iff.mp hj.2).1, (fit62_iff.mp hj.2).2⟩, q _ (items_rng _ _)⟩
  · cases p
theorem TL.imp {α : Type} {Rr : RVx α} {l : M (List α)} {σ : L2.St} {H : Hp} {Q Q' : List V → Hp → Prop} (h : TL X.K xc en Wi Rr l σ H Q) (q : ∀ vs H, Q vs H → Q' vs H) : TL X.K xc en Wi Rr l σ H Q' := by
  obtain ⟨F, ex, s, r, fr, h⟩ := h
  exact ⟨F, ex, s, r, fr, h.imp fun F1 ex1 H1 s1 vs e1 r1 st1 z xs rs => q _ _ (z xs rs)⟩
/-- how many -/
def nLen {α : Type} (l : M (List α)) (n : Nat) : Prop := ∀ s as t, l s = .ok as t → as.length = n
theorem TL.len {α : Type} {Rr : RVx α} {l : M (List α)} {k : Nat} (hn : nLen l k) {σ : L2.St} {H : Hp} {Q : List V → Hp → Prop} (h : TL X.K xc en Wi Rr l σ H Q) : TL X.K xc en Wi Rr l σ H fun vs H => vs.length = k ∧ Q vs H := by
  obtain ⟨F, ex, s, r, fr, h⟩ := h
  exact ⟨F, ex, s, r, fr, h.imp fun F1 ex1 H1 s1 vs e1 r1 st1 z xs rs => ⟨rs.length.trans (hn _ _ _ e1), z xs rs⟩⟩
theorem nLen.nil {α : Type} : nLen (lNil : M (List α)) 0 := fun s as t e => by cases e; rfl
theorem nLen.cons {α : Type} {m : M α} {l : M (List α)} {k : Nat} (h : nLen l k) : nLen (lCons m l) (k + 1) := fun s as t e => by
  obtain ⟨a, t1, e1, e⟩ := bind_ok (m := m) e
  obtain ⟨b, t2, e2, e⟩ := bind_ok (m := l) e
  cases e
  rw [List.length_cons, h _ _ _ e2]
theorem w_range1 (hg : Gl X "range") (hm : X.mg "range" = none) (ha : PEd X xc en Wi e m) (hs : isStar e = false) : PId X xc en Wi tg (.Call (.Name "range" p) [e] [] pos) (wRange (lCons (mOpd m) lNil)) := by
  have l : PA X [e] (TL X.K xc en Wi (ROp X.K) (lCons (mOpd m) lNil)) := l_cons st_op (d_opd ha) l_nil (star_cons hs)
  refine PI.imp (pi_range1 hg hm l (star_cons hs)) fun σ H R h => TL.imp (TL.len (.cons .nil) (rng_core h)) fun vs H1 ⟨hl, q⟩ => ?_
  rcases q with q | ⟨i, j, rfl, _⟩
  · exact q
  · cases hl
theorem w_range2 (hg : Gl X "range") (hm : X.mg "range" = none) (ha : PEd X xc en Wi e m) (hb : PEd X xc en Wi e2 n) (hs : isStar e = false) (hs2 : isStar e2 = false) : PId X xc en Wi tg (.Call (.Name "range" p) [e, e2] [] pos) (wRange (lCons (mOpd m) (lCons (mOpd n) lNil))) := by
  have l : PA X [e, e2] (TL X.K xc en Wi (ROp X.K) (lCons (mOpd m) (lCons (mOpd n) lNil))) := l_cons st_op (d_opd ha) (l_cons st_op (d_opd hb) l_nil (star_cons hs2)) (star_cons hs)
  refine PI.imp (pi_range2 hg hm l (by rw [star_cons hs, star_cons hs2]; rfl) (star_cons hs2)) fun σ H R h => TL.imp (TL.len (.cons (.cons .nil)) (rng_core h)) fun vs H1 ⟨hl, q⟩ => ?_
  rcases q with ⟨j, rfl, _⟩ | q
  · cases hl
  · exact q
theorem w_zip (hg : Gl X "zip") (hm : X.mg "zip" = none) (ha : PEd X xc en Wi e m) (hb : PEd X xc en Wi e2 n) (hs : isStar e = false) (hs2 : isStar e2 = false) : PId X xc en Wi (.Tuple elts kk tpos) (.Call (.Name "zip" p) [e, e2] [] pos) (wZip (lCons (mFrz m) (lCons (mFrz n) lNil))) := by
  have l : PA X [e, e2] (TL X.K xc en Wi (RFz X.K) (lCons (mFrz m) (lCons (mFrz n) lNil))) := l_cons st_fz (d_frz ha) (l_cons st_fz (d_frz hb) l_nil (star_cons hs2)) (star_cons hs)
  refine PI.imp (pi_zip2 hg hm l (star_cons hs) (by rw [star_cons hs2]; rfl)) fun σ H R ⟨F, ex, s, r, f, h⟩ => ⟨F, ex, s, r, f, (Ends_.bind (m := lCons (mFrz m) (lCons (mFrz n) lNil)) h).imp fun F1 ex1 H1 s1 ds e1 r1 st1 q xs rs => ?_⟩
  obtain ⟨ks, ei, q2⟩ := q.opt
  replace q := q2 F1 ex1 H1 r1 st1
  clear q2
  have kp : Kp F1 H1 H1 := .of fun _ _ _ _ e => e
  unfold zipD at ei
  split at ei <;> cases ei
  all_goals cases rfa_of rs with
    | cons a b =>
      cases b with
      | cons b c =>
        cases c
        obtain ⟨k1, a1, x1, rfl, q1, w1⟩ := frz_seq a rfl
        obtain ⟨k2, a2, x2, rfl, q2, w2⟩ := frz_seq b rfl
        exact ⟨k1, k2, a1, a2, x1, x2, rfl, q1 _ kp, q2 _ kp, q _ (items_zip2 q1 w1 q2 w2)⟩
theorem w_zip3 {e3 : Expr} {n3 : M Val} (hg : Gl X "zip") (hm : X.mg "zip" = none) (ha : PEd X xc en Wi e m) (hb : PEd X xc en Wi e2 n) (hc : PEd X xc en Wi e3 n3) (hs : isStar e = false) (hs2 : isStar e2 = false) (hs3 : isStar e3 = false) : PId X xc en Wi (.Tuple elts kk tpos) (.Call (.Name "zip" p) [e, e2, e3] [] pos) (wZip3 (lCons (mFrz m) (lCons (mFrz n) (lCons (mFrz n3) lNil)))) := by
  have l : PA X [e, e2, e3] (TL X.K xc en Wi (RFz X.K) (lCons (mFrz m) (lCons (mFrz n) (lCons (mFrz n3) lNil)))) := l_cons st_fz (d_frz ha) (l_cons st_fz (d_frz hb) (l_cons st_fz (d_frz hc) l_nil (star_cons hs3)) (star_cons hs2)) (star_cons hs)
  refine PI.imp (pi_zip3 hg hm l (star_cons hs) (by rw [star_cons hs2, star_cons hs3]; rfl)) fun σ H R ⟨F, ex, s, r, f, h⟩ => ⟨F, ex, s, r, f, (Ends_.bind (m := lCons (mFrz m) (lCons (mFrz n) (lCons (mFrz n3) lNil))) h).imp fun F1 ex1 H1 s1 ds e1 r1 st1 q xs rs => ?_⟩
  obtain ⟨ks, ei, q2⟩ := q.opt
  replace q := q2 F1 ex1 H1 r1 st1
  clear q2
  unfold zip3D at ei
  split at ei
  · split at ei <;> cases ei
    rename_i d1 d2 d3
    cases rfa_of rs with
    | cons a b =>
      cases b with
      | cons b c =>
        cases c with
        | cons c z =>
          cases z
          obtain ⟨k1, a1, x1, rfl, q1, w1⟩ := frz_seq a d1
          obtain ⟨k2, a2, x2, rfl, q2, w2⟩ := frz_seq b d2
          obtain ⟨k3, a3, x3, rfl, q3, w3⟩ := frz_seq c d3
          have kp : Kp F1 H1 H1 := .of fun _ _ _ _ e => e
          exact ⟨k1, k2, k3, a1, a2, a3, x1, x2, x3, rfl, q1 _ kp, q2 _ kp, q3 _ kp, q _ (items_zip3 q1 w1 q2 w2 q3 w3)⟩
  · cases ei
theorem w_enum (hg : Gl X "enumerate") (hm : X.mg "enumerate" = none) (ha : PEd X xc en Wi e m) (hs : isStar e = false) : PId X xc en Wi (.Tuple elts kk tpos) (.Call (.Name "enumerate" p) [e] [] pos) (wEnum (lCons (mFrz m) lNil)) := by
  have l : PA X [e] (TL X.K xc en Wi (RFz X.K) (lCons (mFrz m) lNil)) := l_cons st_fz (d_frz ha) l_nil (star_cons hs)
  refine PI.imp (pi_enA hg hm l (star_cons hs)) fun σ H R ⟨F, ex, s, r, f, h⟩ => ⟨F, ex, s, r, f, (Ends_.bind (m := lCons (mFrz m) lNil) h).imp fun F1 ex1 H1 s1 ds e1 r1 st1 q xs rs => ?_⟩
  obtain ⟨ks, ei, q2⟩ := q.opt
  replace q := q2 F1 ex1 H1 r1 st1
  clear q2
  have kp : Kp F1 H1 H1 := .of fun _ _ _ _ e => e
  unfold enumD at ei
  split at ei <;> cases ei
  all_goals cases rfa_of rs with
    | cons a b =>
      cases b
      obtain ⟨k1, a1, x1, rfl, q1, w1⟩ := frz_seq a rfl
      exact ⟨k1, a1, x1, rfl, q1 _ kp, q _ (items_enB q1 w1)⟩
end
/-! ### dicts -/
section
variable {X : Cx} {xc : Xc} {en : Entry xc.T} {Wi : XK} {e e2 : Expr} {pos p p' : Pos} {m n : M Val} {i : Nat} {x : Str}
theorem chkD_ok {F : Fz} {ex : List Addr} {s : S} {σ : L2.St} {H : Hp} {En : Ends} {B : Bs} {f : Unit → M Flow} (r : Rel X.K F ex s σ H) (h : FEnds X.K xc en Wi B (M.bind (chkD i) f s) En) :
    ∃ a, σ[i]? = some (some (.ref a)) ∧ FEnds X.K xc en Wi B (f () s) En := by
  unfold M.bind chkD at h
  cases e : slot s i with
  | none => rw [e] at h; exact h.elim
  | some v =>
    rw [e] at h
    obtain ⟨x, e1, so⟩ := r.slot i v (slot_eq.mp e)
    cases v with
    | own d =>
      cases d with
      | dict ds =>
        obtain ⟨a, rfl, _⟩ := so
        exact ⟨a, e1, h⟩
      | _ => exact h.elim
    | ext k =>
      obtain ⟨a, ek, rfl⟩ := so
      cases e2 : s.μ[k]? with
      | none => simp only [e2] at h; exact h.elim
      | some d =>
        simp only [e2] at h
        cases d with
        | dict ds => exact ⟨a, e1, h⟩
        | _ => exact h.elim
    | dat _ => exact h.elim
    | bor _ => exact h.elim
    | loc _ => exact h.elim
    | scr _ => exact h.elim
theorem putD_ok {F : Fz} {ex : List Addr} {s : S} {σ : L2.St} {H : Hp} {En : Ends} {B : Bs} {a : Addr} {y v : V} {k d : D} (r : Rel X.K F ex s σ H) (f : FromL en B F ex s σ H) (hx : σ[i]? = some (some (.ref a))) (ry : Rf X.K F H y k) (rv : Rf X.K F H v d)
    (h : FEnds X.K xc en Wi B (putD i k d s) En) : ∃ H4, DPut H a y v H4 ∧ En.nx σ H4 := by
  unfold putD at h
  split at h
  · rename_i hk
    obtain ⟨key, rfl, rfl⟩ := key_of hk (.inl ry)
    cases e : slot s i with
    | none => rw [e] at h; exact h.elim
    | some w =>
      rw [e] at h
      have e' := slot_eq.mp e
      obtain ⟨x, e1, so⟩ := r.slot i w e'
      rw [hx] at e1; cases e1
      have step : ∀ {kvs : List (Key × V)} {es : List (D × D)}, H a = some (.dK kvs) → ¬ F a → RfK X.K F H kvs es → Cell X.K F (upd H a (.dK (putK kvs key v))) a (.dict (putIn es (kd key) d)) := fun {kvs es} ea nf ra => by
        have kp : Kp F H (upd H a (.dK (putK kvs key v))) := fun b u f _ z => by
          rw [upd_ne (fun q => nf (by rw [← q]; exact f))]; exact .inl z
        exact ⟨_, upd_same, RfK.mono (fun _ f => f) kp _ (ra.put key rv)⟩
      cases w with
      | own d' =>
        cases d' with
        | dict es =>
          obtain ⟨b, eb, ⟨kvs, ea, ra⟩, nf, nx⟩ := so
          cases eb
          dsimp only at h
          split at h
          · rename_i hz
            obtain ⟨r', g'⟩ := r.setOwn (o := .dK (putK kvs key v)) e' hx (step ea nf ra)
            exact ⟨_, DPut.k ea (by rw [ra.length]; exact hz), h σ F ex _ r' (f.step r ⟨g', List.prefix_refl _, .set fun _ => by simp⟩)⟩
          · exact h.elim
        | _ => exact h.elim
      | ext k =>
        obtain ⟨b, ek, eb⟩ := so
        cases eb
        cases e2 : s.μ[k]? with
        | none => simp only [e2] at h; exact h.elim
        | some d' =>
          simp only [e2] at h
          cases d' with
          | dict es =>
            obtain ⟨b, eb, nf, kvs, ea, ra⟩ := r.cel k _ e2
            rw [ek] at eb; cases eb
            dsimp only at h
            split at h
            · rename_i hz
              obtain ⟨r', g'⟩ := r.setExt (o := .dK (putK kvs key v)) e2 ek (step ea nf ra)
              exact ⟨_, DPut.k ea (by rw [ra.length]; exact hz), h σ F ex _ r' (f.step r ⟨g', List.prefix_refl _, .refl⟩)⟩
            · exact h.elim
          | _ => exact h.elim
      | dat _ => exact h.elim
      | bor _ => exact h.elim
      | loc _ => exact h.elim
      | scr _ => exact h.elim
  · exact h.elim
theorem k_sti (hu : X.A.units + 1 < cLine) (hN : X.N[i]? = some x) (hv : Vis X.env.scope x) (hd : (x == ("__debug__" : Str)) = false) (hcd : (x == ("__classdict__" : Str)) = false) (hk : PEd X xc en Wi e m) (hval : PEd X xc en Wi e2 n)
    (hs : swapsWith e2 (some (.Subscript (.Name x p) e p')) pos.line X.env = pure false) : PS X (.Assign [.Subscript (.Name x p) e p'] e2 pos) (TS' X.K xc en Wi (kSti i m n)) := by
  refine PS.imp (ps_dput hu (pe_var hN hv hd hcd) hk hval hs) fun D σ H ⟨F, ex, s, B, r, f, h⟩ => ?_
  refine T1.fz ⟨F, ex, s, r, f.fr, (Ends_.flow (m := mFrz n) r f h).imp fun F1 ex1 H1 s1 d e1 r1 st1 ⟨f1, q⟩ v rv => ?_⟩
  obtain ⟨a, ea, q⟩ := chkD_ok r1 q
  refine ⟨_, ea, T1.fz ⟨F1, ex1, s1, r1, f1.fr, (Ends_.flow (m := mFrz m) r1 f1 q).imp fun F2 ex2 H2 s2 kk e2 r2 st2 ⟨f2, q⟩ y ry => ?_⟩⟩
  have rv : Rf X.K F1 H1 v d := rv
  obtain ⟨H4, g, q⟩ := putD_ok r2 f2 ea ry (rv.mono st2.grow.fmono (st2.grow.kp r1.dj)) q
  exact ⟨a, H4, rfl, g, q⟩
end
end Ded
end

section
set_option Elab.async false
set_option linter.all false
set_option maxRecDepth 100000
/-! a starred dict: its keys. -/
namespace Ded
open PySem L2
open PySem.Spec PyProof.Rows
section
variable {X : Cx} {e : Expr} {es : List Expr} {te : TE} {t : TA} {p : Pos}
theorem star_dk {pins : List (Addr × Obj)} {s : Shared} {σ : L2.St} {H : Hp} {a : Addr} {kvs : List (Key × V)} {E : Value → Shared → Prop} {Q : List Value → Shared → Prop} (calm : X.calm = true) (inv : Inv X pins σ H s) (at_ : Rd H a (.dK kvs))
    (fin : ∀ us s', Inv X pins σ H s' → Vals (kvs.map fun q => kV q.1) us → Q us s') : PySem.W.StarOf (model X.prog X.w) X.A E (.ref a) Q s := by
  obtain ⟨z, lo, vs, rel, dd⟩ := dk_rd inv.hok at_
  obtain ⟨ep, lies⟩ := dd.dictAt
  have same : kvs.length = vs.length := by simpa using congrArg List.length rel.keys
  have names : (kvs.map fun q => kV q.1) = vs.map fun q => kV q.1 := by
    have k := congrArg (List.map kV) rel.keys
    rw [List.map_map, List.map_map] at k
    exact k
  have got : wpAny (model X.prog X.w) X.A (collect (.ref a)) Q E s := by
    refine PySem.W.kdu_collect (PySem.W.kdl_dict (knd := mixKind X.prog X.w) (kvs := vs) (ep := ep) lo) (inv.ok.hd calm) lies (same ▸ z) fun h' tk acc kept each => ?_
    refine fin _ _ (inv.kept kept) (names ▸ keys_at (by rw [Array.length_toList, each.1]) fun j v e => ?_)
    exact each.2 j v (by rw [← Array.getElem?_toList]; exact e)
  unfold PySem.W.StarOf notIterableAtAll
  have kind : s.TypeIs (.ref a) "dict" := let ⟨o, _, g, x, _⟩ := lies; ⟨o, g, x.1⟩
  exact wpAny_bind (wpAny_specialOf kind PySem.F.slot_dict_iter.lookup (wpAny_pure ⟨rfl, got⟩))
theorem pa_starD (calm : X.calm = true) (he : PE X e te) (hr : PA X es t) (hs : starEach (.Starred e p :: es) X.env = (true, eval e X.env) :: starEach es X.env := by rfl) :
    PA X (.Starred e p :: es) (fun σ H Q => te σ H fun x H1 => ∃ a xs, x = .ref a ∧ (SqT X.K H1 a xs ∨ SqL X.K H1 a xs ∨ ∃ kvs, Rd H1 a (.dK kvs) ∧ xs = kvs.map fun q => kV q.1) ∧ t σ H1 fun ys H2 => Q (xs ++ ys) H2) := by
  constructor
  intro pos pins s σ H Q I ask
  apply PySem.W.items_star _ hs
  refine thn (he.run pins s σ H _ I ask) ?_
  rintro v s1 ⟨y, H1, I1, ry, a, xs, rfl, hx, q⟩
  cases ry
  have after : ∀ us s2, Inv X pins σ H1 s2 → Vals xs us → _ := fun us s2 I2 rv => thn (hr.run pos pins s2 σ H1 _ I2 q) fun ws s3 ⟨vs, H3, I3, r3, q3⟩ => (⟨xs ++ vs, H3, I3, rv.append r3, q3⟩ : ∃ ys H', Inv X pins σ H' s3 ∧ Vals ys (us ++ ws) ∧ Q ys H')
  rcases hx with hx | hx | ⟨kvs, hx, rfl⟩
  · exact StX.star_any I1 (.inl hx) after
  · exact StX.star_any I1 (.inr hx) after
  · exact star_dk calm I1 hx after
end
end Ded
end

section
set_option Elab.async false
set_option linter.all false
set_option maxRecDepth 100000
set_option maxHeartbeats 1200000
/-! list(d.items()): new pairs, known to bear no dict. -/
namespace Ded
open PySem L2
open PySem.Spec PyProof.Rows
section
variable {X : Cx} {pins : List (Addr × Obj)} {σ : L2.St} {H H' : Hp} {s : Shared} {h' : Heap} {tk : Nat}
/-- many new objects at once -/
theorem inv_many (I : Inv X pins σ H s) (more : ∀ b u, s.heap.get? b = some u → h'.get? b = some u) (old : ∀ b u, H b = some u → H' b = some u) (low : ∀ b, (∃ o, s.heap.get? b = some o) → H b = none → H' b = none)
    (new : ∀ b u, H b = none → H' b = some u → ObjOk X.prog X.w H' h' b u) : Inv X pins σ H' { s with heap := h', toks := tk } := by
  have un : Un (frs X.stack) [] H H' s.heap h' := {
    keep := fun b u e _ _ _ => more b u e
    slot := fun b u e _ _ _ => ⟨_, more b u e⟩
    free := fun b u e n _ => low b ⟨u, e⟩ n
    there := fun b u e _ => ⟨_, more b u e⟩
    tups := fun b _ => old b _
    frzs := fun b _ _ => old b _
    tbls := fun b ps e => ⟨#[], by rw [Array.append_empty]; exact old b _ e⟩ }
  refine Inv.call' I rfl un (fun b u e => ?_) I.bare (fun b z => nomatch z)
  cases e0 : H b with
  | none => exact new b u e0 e
  | some v =>
    obtain rfl : v = u := Option.some.inj ((old b v e0).symm.trans e)
    exact ObjOk.stay (I.hok b v e0) (fun d w _ => more d w) (fun d => old d _) fun d ys => old d _
end
/-! a list of places beside a list of pairs -/
section
variable {β : Type}
theorem look_off {b : Addr} : ∀ {as : List Addr} (qs : List β), b ∉ as → (as.zip qs).lookup b = none
  | [], _, _ => rfl
  | _ :: _, [], _ => rfl
  | a :: as, q :: qs, h => by
    have h1 : (b == a) = false := by simpa using fun z : b = a => h (z ▸ List.mem_cons_self)
    rw [List.zip_cons_cons, List.lookup_cons, h1]
    exact look_off qs fun z => h (List.mem_cons_of_mem _ z)
theorem look_in {b : Addr} {q : β} : ∀ {as : List Addr} {qs : List β}, (as.zip qs).lookup b = some q → ∃ j : Nat, as[j]? = some b ∧ qs[j]? = some q
  | [], _, h => nomatch h
  | _ :: _, [], h => nomatch h
  | a :: as, r :: qs, h => by
    rw [List.zip_cons_cons, List.lookup_cons] at h
    by_cases e : b = a
    · subst e
      rw [beq_self_eq_true] at h
      exact ⟨0, rfl, h⟩
    · rw [show (b == a) = false by simpa using e] at h
      obtain ⟨j, h1, h2⟩ := look_in h
      exact ⟨j + 1, h1, h2⟩
theorem look_pairs {R : Addr → β → Prop} : ∀ {as : List Addr} {qs : List β}, as.length = qs.length → as.Nodup → (∀ a q, (as.zip qs).lookup a = some q → R a q) → Paired R as qs
  | [], [], _, _, _ => .nil
  | [], _ :: _, h, _, _ => nomatch h
  | _ :: _, [], h, _, _ => nomatch h
  | a :: as, q :: qs, h, n, f => by
    obtain ⟨n1, n2⟩ := List.nodup_cons.mp n
    refine .cons (f a q (by rw [List.zip_cons_cons, List.lookup_cons, beq_self_eq_true])) (look_pairs (Nat.succ.inj h) n2 fun b r e => f b r ?_)
    obtain ⟨j, e1, _⟩ := look_in e
    have m := List.mem_of_getElem? e1
    rw [List.zip_cons_cons, List.lookup_cons, show (b == a) = false by simpa using fun z : b = a => n1 (z ▸ m)]
    exact e
end
/-- the heap with a list of new pairs -/
def pairHp (H : Hp) (h : Heap) (l : Addr) (as : List Addr) (kvs : List (Key × V)) : Hp := fun b =>
  match (as.zip kvs).lookup b with
  | some q => (h.get? b).map fun o => .frz o (.tup [kV q.1, q.2])
  | none => if b = l then some (.lst (as.map V.ref)) else H b
/-- what list(d.items()) asks of d, what it gives -/
def rPairs : V → Hp → VK → Prop := fun x H Q => ∃ (d : Addr) (kvs : List (Key × V)), x = .ref d ∧ Rd H d (.dK kvs) ∧
  ∀ (G : Hp) (l : Addr) (as : List Addr), (∀ b u, H b = some u → G b = some u) → H l = none → (∀ a, a ∈ as → H a = none) → l ∉ as → G l = some (.lst (as.map V.ref)) → as.length ≤ sizeLine → Paired (fun a q => Pl G a [kV q.1, q.2]) as kvs → Q (.ref l) G
theorem vals_as : ∀ as : List Addr, Vals (as.map V.ref) (as.map Value.ref)
  | [] => .nil
  | _ :: r => .cons rfl (vals_as r)
theorem paired_at {α β : Type} {R : α → β → Prop} {xs : List α} {ys : List β} (h : Paired R xs ys) : ∀ (j : Nat) (x : α), xs[j]? = some x → ∃ y, ys[j]? = some y ∧ R x y := by
  induction h with
  | nil => exact fun j x e => nomatch e
  | cons r _ ih =>
    intro j x e
    cases j with
    | zero => cases e; exact ⟨_, rfl, r⟩
    | succ j => exact ih j x e
section
variable {X : Cx} {pins : List (Addr × Obj)} {σ : L2.St} {H : Hp} {s : Shared}
theorem pairs_laid {h' : Heap} {tk : Nat} {kvs : List (Key × V)} {vs : List (Key × Value)} {acc : Array Value} {c : Nat} {as : List Addr} {Q : VK} (I : Inv X pins σ H s) (few : kvs.length ≤ sizeLine) (kv : KV kvs vs)
    (more : ∀ b u, s.heap.get? b = some u → h'.get? b = some u) (lies : h'.get? s.heap.objs.size = some { cls := .type "list", dict := none, data := .seq acc c, slots := #[] }) (long : as.length = vs.length) (made : PySem.W.KdxG (mixKind X.prog X.w) vs s.heap.objs.size h' as)
    (refs : acc.toList = as.map Value.ref)
    (fin : ∀ (G : Hp) (l : Addr) (as : List Addr), (∀ b u, H b = some u → G b = some u) → H l = none → (∀ a, a ∈ as → H a = none) → l ∉ as → G l = some (.lst (as.map V.ref)) → as.length ≤ sizeLine → Paired (fun a q => Pl G a [kV q.1, q.2]) as kvs → Q (.ref l) G) :
    EP X pins σ Q (.ref s.heap.objs.size) { s with heap := h', toks := tk } := by
  have long' : as.length = kvs.length := long.trans (Paired.length kv).symm
  have off : s.heap.objs.size ∉ as := fun z => absurd (made.above _ z) (Nat.lt_irrefl _)
  have nd : as.Nodup := made.rise.imp fun {a b} z => Nat.ne_of_lt z
  have hi : ∀ a ∈ as, s.heap.objs.size ≤ a := fun a z => Nat.le_of_lt (made.above a z)
  have none_ : ∀ a ∈ as, H a = none := fun a z => I.hok.fresh (hi a z)
  have none_l : H s.heap.objs.size = none := I.fresh
  have in_as : ∀ {b q}, (as.zip kvs).lookup b = some q → b ∈ as := fun e => let ⟨_, e1, _⟩ := look_in e; List.mem_of_getElem? e1
  have at_l : pairHp H h' s.heap.objs.size as kvs s.heap.objs.size = some (.lst (as.map V.ref)) := by
    simp only [pairHp, look_off kvs off, if_true]
  have at_old : ∀ b, b ∉ as → b ≠ s.heap.objs.size → pairHp H h' s.heap.objs.size as kvs b = H b := fun b z1 z2 => by
    simp only [pairHp, look_off kvs z1, if_neg z2]
  have tup_at : ∀ a q, (as.zip kvs).lookup a = some q → ∃ key w, RelV (kV q.1) key ∧ RelV q.2 w ∧ h'.get? a = some { cls := .type "tuple", data := .seq #[key, w] } := fun a q e => by
    obtain ⟨j, e1, e2⟩ := look_in e
    obtain ⟨key, k, w, f1, f2, f3⟩ := made.pairs j a e1
    obtain ⟨r, g1, g2, g3⟩ := paired_at kv j q e2
    rw [f1] at g1
    cases g1
    exact ⟨key, w, by rw [g2]; exact relV_key f2, g3, f3⟩
  have at_new : ∀ a q, (as.zip kvs).lookup a = some q → ∃ key w, pairHp H h' s.heap.objs.size as kvs a = some (.frz { cls := .type "tuple", data := .seq #[key, w] } (.tup [kV q.1, q.2])) ∧ RelV (kV q.1) key ∧ RelV q.2 w ∧ h'.get? a = some { cls := .type "tuple", data := .seq #[key, w] } := fun a q e => by
    obtain ⟨key, w, r1, r2, e3⟩ := tup_at a q e
    exact ⟨key, w, by simp only [pairHp, e, e3, Option.map_some], r1, r2, e3⟩
  have old : ∀ b u, H b = some u → pairHp H h' s.heap.objs.size as kvs b = some u := fun b u e => by
    rw [at_old b (fun z => by rw [none_ b z] at e; cases e) fun z => by rw [z, none_l] at e; cases e]
    exact e
  refine ⟨.ref _, _, inv_many I more old (fun b ⟨o, e⟩ n => ?_) (fun b u n e => ?_), rfl, fin _ _ as old none_l none_ off at_l (long' ▸ few) (look_pairs long' nd fun a q e => ?_)⟩
  · have lt := Heap.lt_size e
    rw [at_old b (fun z => absurd (hi b z) (Nat.not_le.mpr lt)) (Nat.ne_of_lt lt)]
    exact n
  · cases e1 : (as.zip kvs).lookup b with
    | some q =>
      obtain ⟨key, w, f1, r1, r2, f2⟩ := at_new b q e1
      rw [f1] at e
      cases e
      exact ⟨f2, by show 2 ≤ sizeLine; decide, [key, w], .cons r1 (.cons r2 .nil), ⟨_, f2, rfl, _, rfl⟩⟩
    | none =>
      by_cases hb : b = s.heap.objs.size
      · subst hb
        rw [at_l] at e
        cases e
        refine ⟨by rw [List.length_map, long']; exact few, acc.toList, c, refs ▸ vals_as as, ?_⟩
        rw [Array.toArray_toList]
        exact lies
      · simp only [pairHp, e1, if_neg hb] at e
        rw [n] at e
        cases e
  · obtain ⟨key, w, f1, _⟩ := at_new a q e
    exact ⟨_, f1, rfl⟩
end
variable [TabName]
section
variable {X : Cx} {e : Expr} {te : TE} {p apos cpos pos : Pos}
theorem pe_pairs (calm : X.calm = true) (he : PE X e te) (hg : Gl X "list") (hm : X.mg "list" = none) (hb : isBare e = false) (line : (apos.endLine == cpos.line) = true) :
    PE X (.Call (.Name "list" p) [.Call (.Attribute e "items" apos) [] [] cpos] [] pos) fun σ H Q => te σ H fun x H1 => rPairs x H1 Q := by
  constructor
  intro pins s σ H Q I ask
  have one : starEach [.Call (.Attribute e "items" apos) [] [] cpos] X.env = (false, eval (.Call (.Attribute e "items" apos) [] [] cpos) X.env) :: starEach [] X.env := star_cons rfl
  apply wpAny_Call_Name_kw
  refine ld_blt I hg hm (blt_boot .list) (callWith_type1 ?_ one rfl)
  rw [one]
  apply Calls.spliced_cons
  refine wpAny_Call_method (T := "dict") (id := "dict.items") (attr_base hb) rfl line PySem.F.plainAttrs_dict PySem.F.slot_dict_items PySem.F.type_dict_items ?_
  refine thn (he.run pins s σ H _ I ask) ?_
  rintro v s1 ⟨y, H1, I1, ry, d, kvs, rfl, at_, fin⟩
  cases ry
  obtain ⟨few, lo, vs, kv, dd⟩ := dk_rd I1.hok at_
  obtain ⟨ep, lies⟩ := dd.dictAt
  refine ⟨dd.typeIs, dd.mapOf.noDict, ?_⟩
  refine method_meetsIn PySem.F.slot_dict_items PySem.F.entry_dict_items rfl (PySem.evalArgs_none ⟨rfl, dd.typeIs, PySem.F.args_dict_items_1 _, _, meets_dict_items (mixKind X.prog X.w) d lo, ⟨vs, dd⟩, ?_⟩)
  apply Calls.spliced_nil
  have I2 : Inv X pins σ H1 { s1 with heap := s1.heap.push { cls := .type "dict_items", data := .fields #[.ref d] } } := I1.kept (t' := s1.toks) fun b u => Heap.get?_push_of_some _
  refine PySem.W.kdx_call (kvs := vs) (I1.ok.hd calm) ⟨_, Heap.get?_push_size _ rfl, rfl, rfl⟩ (lies.push _) (Paired.length kv ▸ few) ?_
  intro h' tk acc c as more new long made refs
  exact pairs_laid I2 few kv more new long made refs fin
end
theorem rows_of {K : PySem.W.Frag} {F F' : Fz} {H G : Hp} {as : List Addr} {kvs : List (Key × V)} (hp : Paired (fun a q => Pl G a [kV q.1, q.2]) as kvs) (hF : ∀ a ∈ as, F' a) (hm : ∀ a, F a → F' a) (kp : Kp F H G) : ∀ {es : List (D × D)}, RfK K F H kvs es → RfA K F' G (as.map V.ref) (es.map fun p => .tuple [p.1, p.2]) := by
  induction hp with
  | nil => intro es h; cases h; exact .nil
  | @cons a q as kvs pl _ ih =>
    intro es h
    obtain ⟨k, v⟩ := q
    cases h with
    | cons rv rk =>
      have key : Rf K F' G (kV k) (kd k) := by
        cases k with
        | inl i => exact .int i
        | inr x => exact .str x
      exact .cons (.tup (hF a List.mem_cons_self) pl (by show 2 ≤ sizeLine; decide) (.cons key (.cons (Rf.mono hm kp _ rv) .nil))) (ih (fun b hb => hF b (List.mem_cons_of_mem _ hb)) rk)
section
variable {X : Cx} {xc : Xc} {en : Entry xc.T} {Wi : XK} {e : Expr} {m : M Val} {p apos cpos pos : Pos}
theorem d_litems (calm : X.calm = true) (hg : Gl X "list") (hm : X.mg "list" = none) (he : PEd X xc en Wi e m) (hb : isBare e = false) (line : (apos.endLine == cpos.line) = true) :
    PEd X xc en Wi (.Call (.Name "list" p) [.Call (.Attribute e "items" apos) [] [] cpos] [] pos) (mLitems m) := by
  refine PE.imp (pe_pairs calm he hg hm hb line) fun σ H Q h => ?_
  have h : TE' X.K xc en Wi (mOne m itemsD) σ H Q := h
  obtain ⟨F, ex, s, r, fr, h⟩ := TE'.one h
  refine ⟨F, ex, s, r, fr, h.imp fun F1 ex1 H1 s1 v _ r1 _ q x rv => ?_⟩
  obtain ⟨F2, dx, res, fd, rt, g, fin⟩ := q x rv
  unfold itemsD at g
  split at g <;> cases g
  obtain ⟨d, kvs, rfl, rd, rk⟩ := rt_dict rt
  refine ⟨d, kvs, rfl, rd, fun G l as old nl na off at_l few prs => fin _ (fun b => F2 b ∨ b ∈ as) _ ⟨⟨old, fun _ => .inl, fun b f => f.imp id (na b), fun b f => ?_⟩, l, rfl, nl, fun f => ?_, as.map V.ref, at_l, by rw [List.length_map]; exact few, rows_of prs (fun _ => .inr) (fun _ => .inl) (fun b u _ _ => fun e => .inl (old b u e)) rk⟩⟩
  · rcases f with f | f
    · obtain ⟨o, e⟩ := fd b f
      exact ⟨o, old b o e⟩
    · obtain ⟨j, e⟩ := List.mem_iff_getElem?.mp f
      obtain ⟨q, _, o, e', _⟩ := paired_at prs j b e
      exact ⟨_, e'⟩
  · rcases f with f | f
    · obtain ⟨o, e⟩ := fd l f
      rw [nl] at e
      cases e
    · exact off f
end
end Ded
end

section
set_option Elab.async false
set_option linter.all false
set_option maxRecDepth 100000
set_option maxHeartbeats 1200000
/-! sorted(d.items()). -/
namespace Ded
open PySem L2
open PySem.Spec PyProof.Rows
section
variable {X : Cx} {pins : List (Addr × Obj)} {σ : L2.St} {H : Hp} {s : Shared}
/-- the pairs, and a list of them at l -/
theorem pairs_lie {h' : Heap} {tk : Nat} {l : Addr} {kvs : List (Key × V)} {vs : List (Key × Value)} {acc : Array Value} {c : Nat} {as : List Addr} (I : Inv X pins σ H s) (few : kvs.length ≤ sizeLine) (kv : KV kvs vs)
    (more : ∀ b u, s.heap.get? b = some u → h'.get? b = some u) (lies : h'.get? l = some { cls := .type "list", dict := none, data := .seq acc c, slots := #[] }) (long : as.length = vs.length) (made : PySem.W.KdxG (mixKind X.prog X.w) vs s.heap.objs.size h' as)
    (refs : acc.toList = as.map Value.ref) (off : l ∉ as) (hl : s.heap.objs.size ≤ l) :
    ∃ G, Inv X pins σ G { s with heap := h', toks := tk } ∧ (∀ b u, H b = some u → G b = some u) ∧ H l = none ∧ (∀ a, a ∈ as → H a = none) ∧ G l = some (.lst (as.map V.ref)) ∧ as.length ≤ sizeLine ∧ Paired (fun a q => Pl G a [kV q.1, q.2]) as kvs := by
  have long' : as.length = kvs.length := long.trans (Paired.length kv).symm
  have nd : as.Nodup := made.rise.imp fun {a b} z => Nat.ne_of_lt z
  have hi : ∀ a ∈ as, s.heap.objs.size ≤ a := fun a z => Nat.le_of_lt (made.above a z)
  have none_ : ∀ a ∈ as, H a = none := fun a z => I.hok.fresh (hi a z)
  have none_l : H l = none := I.hok.fresh hl
  have in_as : ∀ {b q}, (as.zip kvs).lookup b = some q → b ∈ as := fun e => let ⟨_, e1, _⟩ := look_in e; List.mem_of_getElem? e1
  have at_l : pairHp H h' l as kvs l = some (.lst (as.map V.ref)) := by
    simp only [pairHp, look_off kvs off, if_true]
  have at_old : ∀ b, b ∉ as → b ≠ l → pairHp H h' l as kvs b = H b := fun b z1 z2 => by
    simp only [pairHp, look_off kvs z1, if_neg z2]
  have tup_at : ∀ a q, (as.zip kvs).lookup a = some q → ∃ key w, RelV (kV q.1) key ∧ RelV q.2 w ∧ h'.get? a = some { cls := .type "tuple", data := .seq #[key, w] } := fun a q e => by
    obtain ⟨j, e1, e2⟩ := look_in e
    obtain ⟨key, k, w, f1, f2, f3⟩ := made.pairs j a e1
    obtain ⟨r, g1, g2, g3⟩ := paired_at kv j q e2
    rw [f1] at g1
    cases g1
    exact ⟨key, w, by rw [g2]; exact relV_key f2, g3, f3⟩
  have at_new : ∀ a q, (as.zip kvs).lookup a = some q → ∃ key w, pairHp H h' l as kvs a = some (.frz { cls := .type "tuple", data := .seq #[key, w] } (.tup [kV q.1, q.2])) ∧ RelV (kV q.1) key ∧ RelV q.2 w ∧ h'.get? a = some { cls := .type "tuple", data := .seq #[key, w] } := fun a q e => by
    obtain ⟨key, w, r1, r2, e3⟩ := tup_at a q e
    exact ⟨key, w, by simp only [pairHp, e, e3, Option.map_some], r1, r2, e3⟩
  have old : ∀ b u, H b = some u → pairHp H h' l as kvs b = some u := fun b u e => by
    rw [at_old b (fun z => by rw [none_ b z] at e; cases e) fun z => by rw [z, none_l] at e; cases e]
    exact e
  refine ⟨_, inv_many I more old (fun b ⟨o, e⟩ n => ?_) (fun b u n e => ?_), old, none_l, none_, at_l, long' ▸ few, look_pairs long' nd fun a q e => ?_⟩
  · have lt := Heap.lt_size e
    rw [at_old b (fun z => absurd (hi b z) (Nat.not_le.mpr lt)) (Nat.ne_of_lt (Nat.lt_of_lt_of_le lt hl))]
    exact n
  · cases e1 : (as.zip kvs).lookup b with
    | some q =>
      obtain ⟨key, w, f1, r1, r2, f2⟩ := at_new b q e1
      rw [f1] at e
      cases e
      exact ⟨f2, by show 2 ≤ sizeLine; decide, [key, w], .cons r1 (.cons r2 .nil), ⟨_, f2, rfl, _, rfl⟩⟩
    | none =>
      by_cases hb : b = l
      · subst hb
        rw [at_l] at e
        cases e
        refine ⟨by rw [List.length_map, long']; exact few, acc.toList, c, refs ▸ vals_as as, ?_⟩
        rw [Array.toArray_toList]
        exact lies
      · simp only [pairHp, e1, if_neg hb] at e
        rw [n] at e
        cases e
  · obtain ⟨key, w, f1, _⟩ := at_new a q e
    exact ⟨_, f1, rfl⟩
end
/-- what sorted(d.items()) asks of d, what it gives -/
def rSPairs (K : PySem.W.Frag) : V → Hp → VK → Prop := fun x H Q => ∃ (d : Addr) (kvs : List (Key × V)), x = .ref d ∧ Rd H d (.dK kvs) ∧ (∀ q ∈ kvs, ∃ t, q.1 = .inr t) ∧ (kvs.map (·.1)).Nodup ∧
  ∀ (G : Hp) (l : Addr) (as : List Addr) (ys : List V), (∀ b u, H b = some u → G b = some u) → H l = none → (∀ a, a ∈ as → H a = none) → l ∉ as → G l = some (.lst ys) → ys.Perm (as.map V.ref) → SrtO.Srtd (fun x y => ltS (keyAt G x) (keyAt G y)) ys → as.length ≤ sizeLine →
    Paired (fun a q => Pl G a [kV q.1, q.2]) as kvs → Q (.ref l) G
def textOf : Key → Str
  | .inr t => t
  | .inl _ => Str.ofString ""
theorem pairs_text {G : Hp} {as : List Addr} {kvs : List (Key × V)} (h : Paired (fun a q => Pl G a [kV q.1, q.2]) as kvs) : (∀ q ∈ kvs, ∃ t, q.1 = .inr t) → (∀ x ∈ as.map V.ref, ∃ t ys, x = .ref t ∧ Pl G t (.str (keyAt G x) :: ys)) ∧ (as.map V.ref).map (keyAt G) = kvs.map fun q => textOf q.1 := by
  induction h with
  | nil => exact fun _ => ⟨fun x h => (nomatch h), rfl⟩
  | @cons a q as kvs pl _ ih =>
    intro ht
    obtain ⟨h1, h2⟩ := ih fun r hr => ht r (List.mem_cons_of_mem _ hr)
    obtain ⟨t, et⟩ := ht q List.mem_cons_self
    obtain ⟨k, v⟩ := q
    dsimp only at et
    subst et
    have key : keyAt G (.ref a) = t := by
      obtain ⟨o, e, _⟩ := pl
      simp only [keyAt, e, kV]
    refine ⟨fun x hx => ?_, by rw [List.map_cons, List.map_cons, h2, key]; rfl⟩
    rcases List.mem_cons.mp hx with rfl | hx
    · exact ⟨a, [v], rfl, by rw [key]; exact pl⟩
    · exact h1 x hx
theorem paired_off {G : Hp} {l : Addr} {o : HO} {as : List Addr} {kvs : List (Key × V)} (h : Paired (fun a q => Pl G a [kV q.1, q.2]) as kvs) : l ∉ as → Paired (fun a q => Pl (upd G l o) a [kV q.1, q.2]) as kvs := by
  induction h with
  | nil => exact fun _ => .nil
  | @cons a q as kvs pl _ ih =>
    intro off
    obtain ⟨u, e, d⟩ := pl
    exact .cons ⟨u, (upd_ne fun (z : a = l) => off (by rw [← z]; exact List.mem_cons_self)).trans e, d⟩ (ih fun z => off (List.mem_cons_of_mem _ z))
theorem text_nodup : ∀ {ks : List Key}, (∀ k ∈ ks, ∃ t, k = .inr t) → ks.Nodup → (ks.map textOf).Nodup
  | [], _, _ => List.nodup_nil
  | k :: ks, ht, h => by
    obtain ⟨h1, h2⟩ := List.nodup_cons.mp h
    obtain ⟨t, rfl⟩ := ht k List.mem_cons_self
    refine List.nodup_cons.mpr ⟨fun z => ?_, text_nodup (fun r hr => ht r (List.mem_cons_of_mem _ hr)) h2⟩
    obtain ⟨r, hr, e⟩ := List.mem_map.mp z
    obtain ⟨u, rfl⟩ := ht r (List.mem_cons_of_mem _ hr)
    exact h1 (by rw [← show u = t from e]; exact hr)
variable [TabName]
section
variable {X : Cx} {e : Expr} {te : TE} {p apos cpos pos : Pos}
theorem pe_spairs (calm : X.calm = true) (he : PE X e te) (hg : Gl X "sorted") (hm : X.mg "sorted" = none) (hb : isBare e = false) (line : (apos.endLine == cpos.line) = true) :
    PE X (.Call (.Name "sorted" p) [.Call (.Attribute e "items" apos) [] [] cpos] [] pos) fun σ H Q => te σ H fun x H1 => rSPairs X.K x H1 Q := by
  constructor
  intro pins s σ H Q I ask
  have one : starEach [.Call (.Attribute e "items" apos) [] [] cpos] X.env = (false, eval (.Call (.Attribute e "items" apos) [] [] cpos) X.env) :: starEach [] X.env := star_cons rfl
  apply wpAny_Call_Name_kw
  refine ld_blt I hg hm (blt_boot .sorted) (PyProof.Rows.callWith_builtin1 ?_ one rfl)
  rw [one]
  apply Calls.spliced_cons
  refine wpAny_Call_method (T := "dict") (id := "dict.items") (attr_base hb) rfl line PySem.F.plainAttrs_dict PySem.F.slot_dict_items PySem.F.type_dict_items ?_
  refine thn (he.run pins s σ H _ I ask) ?_
  rintro v s1 ⟨y, H1, I1, ry, d, kvs, rfl, at_, ht, nd, fin⟩
  cases ry
  obtain ⟨few, lo, vs, kv, dd⟩ := dk_rd I1.hok at_
  obtain ⟨ep, lies⟩ := dd.dictAt
  refine ⟨dd.typeIs, dd.mapOf.noDict, ?_⟩
  refine method_meetsIn PySem.F.slot_dict_items PySem.F.entry_dict_items rfl (PySem.evalArgs_none ⟨rfl, dd.typeIs, PySem.F.args_dict_items_1 _, _, meets_dict_items (mixKind X.prog X.w) d lo, ⟨vs, dd⟩, ?_⟩)
  apply Calls.spliced_nil
  have I2 : Inv X pins σ H1 { s1 with heap := s1.heap.push { cls := .type "dict_items", data := .fields #[.ref d] } } := I1.kept (t' := s1.toks) fun b u => Heap.get?_push_of_some _
  refine Calls.call_function_entry kind_sorted plain_sorted entry_sorted (args_sorted1 _) ?_
  unfold Builtin.«sorted»
  refine wpAny_bind (m := checkCount "sorted" 1 1 _) (wpAny_pure ?_)
  have fewv : vs.length ≤ sizeLine := Paired.length kv ▸ few
  refine wpAny_bind (PySem.W.kdx_collect (A := X.A.in1) (kvs := vs) (I1.ok.hd calm) ⟨_, Heap.get?_push_size _ rfl, rfl, rfl⟩ (lies.push _) fewv fun h' tk as more long made => ?_)
  have fewa : (as.map Value.ref).length ≤ sizeLine := by rw [List.length_map, long]; exact fewv
  refine wpAny_bind (wpAny_newList ?_ fewa)
  generalize hh2 : h'.push { cls := .type "list", data := .seq (as.map Value.ref).toArray } = h2
  have up : ∀ b u, h'.get? b = some u → h2.get? b = some u := fun b u z => by rw [← hh2]; exact Heap.get?_push_of_some _ z
  have atD : h2.get? h'.objs.size = some (seqObj "list" (as.map Value.ref).toArray 0) := by rw [← hh2]; exact Heap.get?_push_size _ rfl
  have sz : (s1.heap.push { cls := .type "dict_items", data := .fields #[.ref d] }).objs.size ≤ h'.objs.size := by
    have := Heap.lt_size (more _ _ (Heap.get?_push_size s1.heap (o := { cls := .type "dict_items", data := .fields #[.ref d] }) rfl))
    rw [Heap.size_push]
    exact this
  have off : h'.objs.size ∉ as := fun z => absurd (made.there z) (Nat.lt_irrefl _)
  obtain ⟨G, I3, old, nl, na, at_l, small, prs⟩ := pairs_lie (tk := tk) (l := h'.objs.size) I2 few kv (fun b u z => up b u (more b u z)) atD long ⟨made.rise, made.above, fun j a z => (let ⟨key, k, x, z1, z2, z3⟩ := made.pairs j a z; ⟨key, k, x, z1, z2, up _ _ z3⟩)⟩ (List.toList_toArray) off sz
  obtain ⟨r1, r2⟩ := pairs_text prs ht
  have inj : ∀ x ∈ as.map V.ref, ∀ y ∈ as.map V.ref, keyAt G x = keyAt G y → x = y := inj_of_nodup (by
    rw [r2, show (kvs.map fun q => textOf q.1) = (kvs.map (·.1)).map textOf by rw [List.map_map]; rfl]
    exact text_nodup (fun k hk => by
      obtain ⟨q, hq, rfl⟩ := List.mem_map.mp hk
      exact ht q hq) nd)
  have back : ∀ v ∈ as.map Value.ref, backV v ∈ as.map V.ref := fun v hv => by
    obtain ⟨a, ha, rfl⟩ := List.mem_map.mp hv
    exact List.mem_map_of_mem ha
  have refs : ∀ v ∈ as.map Value.ref, ∃ a, v = Value.ref a := fun v hv => let ⟨a, _, z⟩ := List.mem_map.mp hv; ⟨a, z.symm⟩
  have rows : ∀ v ∈ as.map Value.ref, RowAt h2 v (keyAt G (backV v)) := fun v hv => by
    obtain ⟨t, ys, e1, pl⟩ := r1 _ (back v hv)
    obtain ⟨b, rfl⟩ := refs v hv
    cases e1
    obtain ⟨its, rr, ⟨o, ho, hc, n, hd⟩, _⟩ := I3.tuple (pl.sq (K := X.K))
    cases rr with
    | cons ra rr =>
      obtain ⟨tk', rfl⟩ := ra
      exact ⟨_, o, tk', _, n, rfl, ho, hc, hd⟩
  have once : ∀ v ∈ as.map Value.ref, ∀ u ∈ as.map Value.ref, keyAt G (backV v) = keyAt G (backV u) → v = u := fun v hv u hu z => by
    have w := inj _ (back v hv) _ (back u hu) z
    obtain ⟨b, rfl⟩ := refs v hv
    obtain ⟨c, rfl⟩ := refs u hu
    cases w
    rfl
  have notTup : ∀ o, h2.get? h'.objs.size = some o → o.cls ≠ .type "tuple" := fun o z => by
    rw [atD] at z
    cases z
    intro c
    exact absurd (Value.type.inj c) (by decide)
  refine wpAny_bind (wpAny_holding (wpAny_call_entry slot_list_sort ⟨_, atD, rfl⟩ entry_list_sort (SrtO.list_sort_ord (ltS_swo fun v => keyAt G (backV v)) atD fewa (fun two => rows_sortable (s := { s1 with heap := h2, toks := tk }) (by omega) rows once notTup) fun out hs hb => ⟨_, rfl, ?_⟩) (args_list_sort _)))
  refine wpAny_pure ⟨_, rfl, ?_⟩
  have pm : (out.map backV).Perm (as.map V.ref) := by
    have z := hb.perm.map backV
    rwa [List.map_map] at z
  have reff : ∀ u ∈ out, ∃ a, u = Value.ref a := fun u hu => refs u (hb.perm.mem_iff.mp hu)
  obtain ⟨n, hn⟩ := sortedHeap_at (out := out.toArray) atD
  have small2 : (out.map backV).length ≤ sizeLine := by
    rw [pm.length_eq, List.length_map]
    exact small
  have I4 := I3.write (x := h'.objs.size) (e := h'.objs.size) (o := .lst (out.map backV)) (t' := tk) (h' := sortedHeap h2 h'.objs.size (as.map Value.ref) out.toArray) (by rw [at_l]; exact True.intro) (.inl rfl) (fun b u ne z => (sortedHeap_old ne (Heap.lt_size z)).trans z) ⟨_, hn⟩ ⟨small2, out, n, vals_back reff, hn⟩
  have same : ∀ b, b ≠ h'.objs.size → upd G h'.objs.size (.lst (out.map backV)) b = G b := fun b z => upd_ne z
  have keys : ∀ x ∈ as.map V.ref, keyAt (upd G h'.objs.size (.lst (out.map backV))) x = keyAt G x := fun x hx => by
    obtain ⟨a, ha, rfl⟩ := List.mem_map.mp hx
    simp only [keyAt, same a fun z => off (z ▸ ha)]
  have grown : ∀ b u, H1 b = some u → upd G h'.objs.size (.lst (out.map backV)) b = some u := fun b u z => (same b fun w => by rw [w, nl] at z; cases z).trans (old b u z)
  refine ⟨.ref h'.objs.size, _, I4, rfl, fin _ _ as (out.map backV) grown nl na off upd_same pm ?_ small ?_⟩
  · have z : SrtO.Srtd (fun x y => ltS (keyAt G x) (keyAt G y)) (out.map backV) := SrtO.srtd_map hs
    refine List.Pairwise.imp_of_mem (fun {x y} hx hy w => ?_) z
    show ltS (keyAt (upd G h'.objs.size (.lst (out.map backV))) y) (keyAt (upd G h'.objs.size (.lst (out.map backV))) x) = false
    rw [keys x (pm.mem_iff.mp hx), keys y (pm.mem_iff.mp hy)]
    exact w
  · exact paired_off prs off
end
section
variable {X : Cx} {xc : Xc} {en : Entry xc.T} {Wi : XK} {e : Expr} {m : M Val} {p apos cpos pos : Pos}
theorem text_keys {K : PySem.W.Frag} {F : Fz} {H : Hp} : ∀ {kvs : List (Key × V)} {es : List (D × D)}, RfK K F H kvs es → (∀ d ∈ es.map (fun p => PyData.tuple [p.1, p.2]), isRow d = true) → (∀ q ∈ kvs, ∃ t, q.1 = .inr t) ∧ kvs.map (fun q => textOf q.1) = (es.map fun p => PyData.tuple [p.1, p.2]).map rowKey
  | [], _, .nil, _ => ⟨fun q hq => (nomatch hq), rfl⟩
  | (k, v) :: kvs, _, .cons rv rk, h => by
    obtain ⟨h1, h2⟩ := text_keys rk fun d hd => h d (List.mem_cons_of_mem _ hd)
    have z := h _ List.mem_cons_self
    cases k with
    | inl i => cases z
    | inr t =>
      refine ⟨fun q hq => ?_, by rw [List.map_cons, List.map_cons, List.map_cons, h2]; rfl⟩
      rcases List.mem_cons.mp hq with rfl | hq
      · exact ⟨t, rfl⟩
      · exact h1 q hq
theorem nodup_of {α β : Type} {f : α → β} : ∀ {l : List α}, (l.map f).Nodup → l.Nodup
  | [], _ => List.nodup_nil
  | a :: l, h => by
    obtain ⟨h1, h2⟩ := List.nodup_cons.mp h
    exact List.nodup_cons.mpr ⟨fun z => h1 (List.mem_map_of_mem z), nodup_of h2⟩
theorem d_sitems (calm : X.calm = true) (hg : Gl X "sorted") (hm : X.mg "sorted" = none) (he : PEd X xc en Wi e m) (hb : isBare e = false) (line : (apos.endLine == cpos.line) = true) :
    PEd X xc en Wi (.Call (.Name "sorted" p) [.Call (.Attribute e "items" apos) [] [] cpos] [] pos) (mSitems m) := by
  refine PE.imp (pe_spairs calm he hg hm hb line) fun σ H Q h => ?_
  have h : TE' X.K xc en Wi (mOne m sitemsD) σ H Q := h
  obtain ⟨F, ex, s, r, fr, h⟩ := TE'.one h
  refine ⟨F, ex, s, r, fr, h.imp fun F1 ex1 H1 s1 v _ r1 _ q x rv => ?_⟩
  obtain ⟨F2, dx, res, fd, rt, g, fin⟩ := q x rv
  unfold sitemsD at g
  split at g
  rotate_left
  · cases g
  rename_i es
  unfold sortedRow at g
  split at g <;> cases g
  rename_i good
  obtain ⟨g1, g2⟩ := good
  have g1 := List.all_eq_true.mp g1
  obtain ⟨d, kvs, rfl, rd, rk⟩ := rt_dict rt
  obtain ⟨tk, te⟩ := text_keys rk g1
  refine ⟨d, kvs, rfl, rd, tk, ?_, fun G l as ys old nl na off at_l pm so few prs => ?_⟩
  · refine nodup_of (f := textOf) ?_
    rw [List.map_map]
    exact te ▸ g2
  have rows := rows_of (F := fun b => F2 b) (F' := fun b => F2 b ∨ b ∈ as) prs (fun _ => .inr) (fun _ => .inl) (fun b u _ _ => fun e => .inl (old b u e)) rk
  obtain ⟨zs, q1, q2⟩ := rfa_perm pm rows
  obtain ⟨_, r4⟩ := rows_all q1 fun d hd => g1 d (q2.mem_iff.mp hd)
  have so2 : (zs.map rowKey).Pairwise fun a b => strLe a b = true := by
    rw [← r4, pw_map]
    refine List.Pairwise.imp (fun h => ?_) so
    have h : ltS (keyAt G _) (keyAt G _) = false := h
    unfold strLe
    rw [show decide _ = false from h]; rfl
  have ee := rows_sorted g2 q2 so2
  rw [← ee] at fin
  refine fin _ (fun b => F2 b ∨ b ∈ as) _ ⟨⟨old, fun _ => .inl, fun b f => f.imp id (na b), fun b f => ?_⟩, l, rfl, nl, fun f => ?_, ys, at_l, by rw [pm.length_eq, List.length_map]; exact few, q1⟩
  · rcases f with f | f
    · obtain ⟨o, e⟩ := fd b f
      exact ⟨o, old b o e⟩
    · obtain ⟨j, e⟩ := List.mem_iff_getElem?.mp f
      obtain ⟨q, _, o, e', _⟩ := paired_at prs j b e
      exact ⟨_, e'⟩
  · rcases f with f | f
    · obtain ⟨o, e⟩ := fd l f
      rw [nl] at e
      cases e
    · exact off f
theorem d_upper (he : PEd X xc en Wi e m) (hb : isBare e = false) (line : (apos.endLine == pos.line) = true) : PEd X xc en Wi (.Call (.Attribute e "upper" apos) [] [] pos) (mUpper m) := by
  refine PE.imp (pe_upper he (attr_base hb) line) fun σ H Q h => ?_
  have h : TE' X.K xc en Wi (mOne m upperD) σ H Q := h
  obtain ⟨F, ex, s, r, fr, h⟩ := TE'.one h
  refine ⟨F, ex, s, r, fr, h.imp fun F1 ex1 H1 s1 v _ r1 _ q x rv => ?_⟩
  obtain ⟨F2, dx, res, fd, rt, g, fin⟩ := q x rv
  unfold upperD at g
  split at g
  rotate_left
  · cases g
  split at g <;> cases g
  rename_i hz
  cases rt_str rt
  exact ⟨⟨_, rfl⟩, _, rfl, rfl, hz, fin _ _ _ (ResOk.atom fd fun _ _ => .str _)⟩
end
end Ded
end

section
set_option Elab.async false
set_option linter.all false
set_option maxRecDepth 100000
/-! Comprehensions. -/
namespace Ded
open PySem L2
variable [TabName]
section
variable {ρ old : List (Option Val)} {σ σ2 : L2.St} {i : Nat} {v : Val}
theorem dwipe_length (ρ : List (Option Val)) : ∀ vs : List Nat, (wipe ρ vs).length = ρ.length
  | [] => rfl
  | v :: vs => by unfold wipe; rw [List.length_set, dwipe_length ρ vs]
theorem dwipe_out : ∀ {vs : List Nat}, i ∉ vs → (wipe ρ vs)[i]? = ρ[i]?
  | [], _ => rfl
  | w :: vs, h => by
    unfold wipe
    rw [List.getElem?_set_ne (fun q => h (by rw [q]; exact List.mem_cons_self)), dwipe_out fun m => h (List.mem_cons_of_mem _ m)]
theorem dwipe_some : ∀ {vs : List Nat}, (wipe ρ vs)[i]? = some (some v) → ρ[i]? = some (some v) ∧ i ∉ vs
  | [], h => ⟨h, by simp⟩
  | w :: vs, h => by
    unfold wipe at h
    by_cases q : w = i
    · subst q
      by_cases hl : w < (wipe ρ vs).length
      · rw [List.getElem?_set_self hl] at h; cases h
      · rw [List.getElem?_eq_none (by simpa using hl)] at h; cases h
    · rw [List.getElem?_set_ne q] at h
      obtain ⟨a, b⟩ := dwipe_some h
      exact ⟨a, fun m => (List.mem_cons.mp m).elim (fun z => q z.symm) b⟩
theorem pb_length : ∀ {vs : List Nat}, (putBack old ρ vs).length = ρ.length
  | [] => rfl
  | v :: vs => by unfold putBack; rw [List.length_set, pb_length]
theorem pb_some : ∀ {vs : List Nat}, (putBack old ρ vs)[i]? = some (some v) → (i ∈ vs ∧ old[i]? = some (some v)) ∨ (i ∉ vs ∧ ρ[i]? = some (some v))
  | [], h => .inr ⟨by simp, h⟩
  | w :: vs, h => by
    unfold putBack at h
    by_cases q : w = i
    · subst q
      by_cases hl : w < (putBack old ρ vs).length
      · rw [List.getElem?_set_self hl] at h
        refine .inl ⟨List.mem_cons_self, ?_⟩
        have h := Option.some.inj h
        cases e : old[w]? with
        | none => rw [e] at h; cases h
        | some o => rw [e] at h; cases o <;> cases h; rfl
      · rw [List.getElem?_eq_none (by simpa using hl)] at h; cases h
    · rw [List.getElem?_set_ne q] at h
      rcases pb_some h with ⟨a, b⟩ | ⟨a, b⟩
      · exact .inl ⟨List.mem_cons_of_mem _ a, b⟩
      · exact .inr ⟨fun m => (List.mem_cons.mp m).elim (fun z => q z.symm) a, b⟩
theorem swipe_in : ∀ {vs : List Nat}, i ∈ vs → (L2.wipe σ vs)[i]? = if i < σ.length then some none else none
  | w :: vs, h => by
    unfold L2.wipe
    by_cases q : w = i
    · subst q
      by_cases hl : w < σ.length
      · rw [if_pos hl, List.getElem?_set_self (by rw [wipe_length]; exact hl)]
      · rw [if_neg hl, List.getElem?_eq_none (by rw [List.length_set, wipe_length]; omega)]
    · rw [List.getElem?_set_ne q]
      exact swipe_in ((List.mem_cons.mp h).resolve_left fun z => q z.symm)
theorem swipe_ext {vs : List Nat} (hl : σ2.length = σ.length) (h : ∀ j, j ∉ vs → σ2[j]? = σ[j]?) : L2.wipe σ2 vs = L2.wipe σ vs := by
  apply List.ext_getElem?
  intro j
  by_cases m : j ∈ vs
  · rw [swipe_in m, swipe_in m, hl]
  · rw [wipe_out m, wipe_out m, h j m]
end
section
variable {K : PySem.W.Frag} {F F0 : Fz} {ex ex0 : List Addr} {s t : S} {σ : L2.St} {H H0 : Hp} {vs : List Nat}
abbrev S.wiped (s : S) (vs : List Nat) : S := { s with ρ := wipe s.ρ vs }
abbrev S.back (t s : S) (vs : List Nat) : S := { t with ρ := putBack s.ρ t.ρ vs }
theorem ow_wiped {a : Addr} (h : Ow (wipe s.ρ vs) (L2.wipe σ vs) a) : Ow s.ρ σ a := by
  obtain ⟨i, d, e1, e2⟩ := h
  exact ⟨i, d, (dwipe_some e1).1, (wipe_some e2).1⟩
theorem mu_wiped {a : Addr} (h : Mu (wipe s.ρ vs) (L2.wipe σ vs) ex a) : Mu s.ρ σ ex a := h.imp_right ow_wiped
theorem Rel.wiped (r : Rel K F ex s σ H) (vs : List Nat) : Rel K F ex (s.wiped vs) (L2.wipe σ vs) H where
  len := by show (wipe s.ρ vs).length = _; rw [dwipe_length, wipe_length, r.len]
  slot := fun i v e => by
    obtain ⟨e1, m⟩ := dwipe_some e
    obtain ⟨x, e2, h⟩ := r.slot i v e1
    exact ⟨x, by rw [wipe_out m]; exact e2, h⟩
  sep := fun i j d d' a e1 e2 e3 e4 => r.sep i j d d' a (dwipe_some e1).1 (dwipe_some e2).1 (wipe_some e3).1 (wipe_some e4).1
  lent := fun i d a e1 e2 o => r.lent i d a (dwipe_some e1).1 (wipe_some e2).1 (ow_wiped o)
  exl := r.exl
  exd := r.exd
  cel := r.cel
  fdom := r.fdom
theorem NB.wiped : NB s (s.wiped vs) := fun i d e => ⟨d, (dwipe_some e).1⟩
theorem ow_back {a : Addr} (ok : restOk s.ρ vs = true) (h : Ow (putBack s.ρ t.ρ vs) σ a) : Ow t.ρ (L2.wipe σ vs) a := by
  obtain ⟨i, d, e1, e2⟩ := h
  rcases pb_some e1 with ⟨m, e⟩ | ⟨m, e⟩
  · have := List.all_eq_true.mp ok i m
    rw [e] at this; cases this
  · exact ⟨i, d, e, by rw [wipe_out m]; exact e2⟩
theorem NB.back (ok : restOk s.ρ vs = true) (h : NB s t) : NB s (t.back s vs) := fun i d e => by
  rcases pb_some e with ⟨m, e⟩ | ⟨m, e⟩
  · exact ⟨d, e⟩
  · exact h i d e
theorem Rel.back (r : Rel K F ex t (L2.wipe σ vs) H) (r0 : Rel K F0 ex0 s σ H0) (ok : restOk s.ρ vs = true) (hF : ∀ a, F0 a → F a) (kp : Kp F0 H0 H) : Rel K F ex (t.back s vs) σ H where
  len := by show (putBack s.ρ t.ρ vs).length = _; rw [pb_length, r.len, wipe_length]
  slot := fun i v e => by
    rcases pb_some e with ⟨m, e⟩ | ⟨m, e⟩
    · have q := List.all_eq_true.mp ok i m
      rw [e] at q
      obtain ⟨x, e2, h⟩ := r0.slot i v e
      refine ⟨x, e2, ?_⟩
      cases v with
      | dat d => exact Rf.mono hF kp d h
      | _ => cases q
    · obtain ⟨x, e2, h⟩ := r.slot i v e
      exact ⟨x, (wipe_some e2).1, h⟩
  sep := fun i j d d' a e1 e2 e3 e4 => by
    have z : ∀ {k : Nat} {dd : D}, (putBack s.ρ t.ρ vs)[k]? = some (some (.own dd)) → k ∉ vs ∧ t.ρ[k]? = some (some (.own dd)) := fun {k dd} e => by
      rcases pb_some e with ⟨m, e⟩ | q
      · have := List.all_eq_true.mp ok k m
        rw [e] at this; cases this
      · exact q
    exact r.sep i j d d' a (z e1).2 (z e2).2 (by rw [wipe_out (z e1).1]; exact e3) (by rw [wipe_out (z e2).1]; exact e4)
  lent := fun i d a e1 e2 o => by
    rcases pb_some e1 with ⟨m, e⟩ | ⟨m, e⟩
    · have := List.all_eq_true.mp ok i m
      rw [e] at this; cases this
    · exact r.lent i d a e (by rw [wipe_out m]; exact e2) (ow_back ok o)
  exl := r.exl
  exd := r.exd
  cel := r.cel
  fdom := r.fdom
/-- something is laid where nobody of the state looks -/
theorem Rel.other {p : Addr} {o : HO} (r : Rel K F ex s σ H) (hf : ¬ F p) (hm : ¬ Mu s.ρ σ ex p) (hb : ¬ Bo s.ρ σ p) (hz : ∀ q u, H p = some (.frz q u) → False) (ht : LamX.Tabs TabName.T H → LamX.Tabs TabName.T (upd H p o)) : Rel K F ex s σ (upd H p o) := by
  have kp : Kp F H (upd H p o) := fun b u f _ z => by
    rw [upd_ne (fun q => hf (by rw [← q]; exact f))]; exact .inl z
  have g : Grow F (fun a => a = p) H F (fun a => a = p) (upd H p o) := ⟨fun a u _ e n => by rw [upd_ne n]; exact .inl e, fun a u e => by
    by_cases q : a = p
    · exact ⟨o, by rw [q]; exact upd_same⟩
    · exact ⟨u, by rw [upd_ne q]; exact e⟩, fun _ f => f, fun _ f => .inl f, fun _ m => .inl m, ht⟩
  refine ⟨r.len, fun i v e => ?_, r.sep, r.lent, r.exl, r.exd, fun k d e => ?_, fun a f => ?_⟩
  · obtain ⟨x, e1, h⟩ := r.slot i v e
    refine ⟨x, e1, h.grow g (fun a f q => hf (by rw [← q]; exact f)) (fun a q u m e => hz q u (by rw [← m]; exact e)) (fun _ _ e => e) (fun a m => .inl m) fun a d ea hv q => ?_⟩
    subst q
    rcases hv with rfl | rfl
    · exact hm (.inr ⟨i, d, e, by rw [e1, ea]⟩)
    · exact hb ⟨i, d, e, by rw [e1, ea]⟩
  · obtain ⟨a, e1, nf, c⟩ := r.cel k d e
    refine ⟨a, e1, nf, c.mono (fun _ f => f) kp fun u _ z => ?_⟩
    rw [upd_ne (fun q => hm (.inl (by rw [← q]; exact List.mem_of_getElem? e1)))]
    exact z
  · obtain ⟨u, e⟩ := r.fdom a f
    exact ⟨u, by rw [upd_ne (fun q => hf (by rw [← q]; exact f))]; exact e⟩
theorem NB.bo {a : Addr} (n : NB s t) (h : Bo t.ρ σ a) : Bo s.ρ σ a := let ⟨i, d, e1, e2⟩ := h; let ⟨d', e'⟩ := n i d e1; ⟨i, d', e', e2⟩
end
section
variable {X : Cx} {xc : Xc} {en : Entry xc.T} {Wi : XK} {e : Expr} {pos : Pos} {g : D → M Unit}
/-- in a block: whatever the entry -/
def gAny (K : PySem.W.Frag) (T : List (Addr × Str)) (ts : List Nat) (g : D → M Unit) : TG := fun v σ H Q => ∃ en : Entry T, TG' K en ts g v σ H Q
def tAny (K : PySem.W.Frag) (xc : Xc) (c : M Bool) : TT := fun σ H Q => ∃ en, TT' K xc en (fun _ _ _ => False) c σ H Q
def eAny (K : PySem.W.Frag) (xc : Xc) (m : M Val) : TE := fun σ H Q => ∃ en, T1 K xc en (fun _ _ _ => False) (RFz K) (mFrz m) σ H Q
theorem any_g {ts : List Nat} (h : ∀ en : Entry xc.T, PGd X en e ts g) : PG X e (gAny X.K xc.T ts g) := ⟨fun pins s σ H v u Q I r ⟨en, z⟩ => (h en).run.run pins s σ H v u Q I r z⟩
theorem any_t {c : M Bool} (h : ∀ en, PTd X xc en (fun _ _ _ => False) e c) : PT X e (tAny X.K xc c) := ⟨fun pins s σ H Q I ⟨en, z⟩ => (h en).run pins s σ H Q I z⟩
theorem any_e {m : M Val} (h : ∀ en, PEd X xc en (fun _ _ _ => False) e m) : PE X e (eAny X.K xc m) := ⟨fun pins s σ H Q I ⟨en, z⟩ => (d_frz (h en)).run pins s σ H Q I z⟩
theorem lcLoop_cons {α : Type} {turn : D → M (Option α)} {d : D} {r : List D} {zs : List α} {s tf : S} (h : lcLoop turn (d :: r) s = .ok zs tf) : ∃ o s1 ys, turn d s = .ok o s1 ∧ lcLoop turn r s1 = .ok ys tf ∧ zs = (match o with | some y => y :: ys | none => ys) := by
  obtain ⟨o, s1, e1, h⟩ := bind_ok (m := turn d) h
  obtain ⟨ys, s2, e2, h⟩ := bind_ok (m := lcLoop turn r) h
  cases h
  exact ⟨o, s1, ys, e1, e2, rfl⟩
theorem lc_den {σ : L2.St} {H : Hp} {Q : VK} {m : M Val} {w : M (List D)} {c : M Bool} {vs ts : List Nat} (hts : ∀ j ∈ ts, j ∈ vs) (h : TE' X.K xc en Wi (mLc m g w c vs) σ H Q) : tLc (TI' X.K xc en Wi w) (gAny X.K xc.T ts g) (tAny X.K xc c) (eAny X.K xc m) vs σ H Q := by
  obtain ⟨F, ex, s, r, fr, h⟩ := h
  refine ⟨F, ex, s, r, fr, (Ends_.bind (m := w) h).imp fun F1 ex1 H1 s1 ds e1 r1 st1 q J hJ Dd hD => ?_⟩
  cases e2 : lcLoop (lcTurn g c m vs) ds { s1 with ρ := wipe s1.ρ vs } with
  | exc c fs t => simp only [e2] at q; exact q.elim
  | bad => simp only [e2] at q; exact q.elim
  | ok all tf =>
    simp only [e2] at q
    split at q
    rotate_left
    · exact q.elim
    rename_i hz
    obtain ⟨hz, ok⟩ := hz
    have nF1 : ¬ F1 Dd := fun f => by obtain ⟨o, e⟩ := r1.fdom _ f; rw [hD] at e; cases e
    have nM1 : ¬ Mu s1.ρ σ ex1 Dd := fun f => by obtain ⟨o, e⟩ := r1.mdom f; rw [hD] at e; cases e
    have nB1 : ¬ Bo s1.ρ σ Dd := fun f => by obtain ⟨o, e⟩ := r1.bo f; rw [hD] at e; cases e
    -- the entry of the block
    let M' : Fz := fun a => Mu s1.ρ σ ex1 a ∨ a = Dd
    let en' : Entry xc.T := ⟨F1, upd H1 Dd (.lst []), ex1, M'⟩
    have hne : ∀ {a : Addr} {o : HO}, H1 a = some o → upd H1 Dd (.lst []) a = some o := fun {a o} e => by
      rw [upd_ne (fun q => by rw [q, hD] at e; cases e)]; exact e
    have hno : ∀ {a : Addr}, upd H1 Dd (.lst []) a = none → H1 a = none := fun {a} e => by
      cases z : H1 a with
      | none => rfl
      | some o => rw [hne z] at e; cases e
    let LcI : Nat → Hp → Prop := fun i H => ∃ F ex s acc ys zs, Rel X.K F ex s (L2.wipe σ vs) H ∧ FromL en' ⟨F1, H1⟩ F ex s (L2.wipe σ vs) H ∧ NB s1 s ∧ H Dd = some (.lst acc) ∧ RfA X.K F H acc ys ∧ ¬ F Dd ∧ ¬ Mu s.ρ (L2.wipe σ vs) ex Dd ∧
      lcLoop (lcTurn g c m vs) (ds.drop i) s = .ok zs tf ∧ ys ++ zs = all
    refine ⟨fun i n H => n = ds.length - i ∧ LcI i H, ⟨ds.length - 0, rfl, F1, ex1, s1.wiped vs, [], [], all, ?_, ?_, .wiped, upd_same, .nil, nF1, fun z => nM1 (mu_wiped z), e2, rfl⟩, ?_⟩
    · exact (r1.wiped vs).other nF1 (fun z => nM1 (mu_wiped z)) (fun z => nB1 (NB.wiped.bo (let ⟨i, d, a, b⟩ := z; ⟨i, d, a, (wipe_some b).1⟩))) (fun q u z => by rw [hD] at z; cases z) (fun t => t.ext fun b o e => hne e)
    · exact ⟨⟨⟨fun _ _ _ e _ => .inl e, fun _ o e => ⟨o, e⟩, fun _ f => f, fun _ f => .inl f, fun a z => .inl (.inl (mu_wiped z)), fun t => t⟩, List.prefix_refl _, (fr.step st1).tb.ext fun b o e => hne e⟩, fun _ f => f, fun a o _ _ e => .inl (hne e)⟩
    rintro i n H ⟨rfl, F, ex, s, acc, ys, zs, r, fl, nb, hacc, ra, nF, nM, hl, hall⟩
    by_cases hlt : i < ds.length
    rotate_left
    · -- the end
      have e3 : ds.drop i = [] := List.drop_eq_nil_of_le (by omega)
      rw [e3] at hl
      cases hl
      rw [List.append_nil] at hall
      subst hall
      have rb := r.back r1 ok fl.lm fl.lk
      have nbb : NB s1 (tf.back s1 vs) := nb.back ok
      have mub : ∀ a, Mu (putBack s1.ρ tf.ρ vs) σ ex a → Mu tf.ρ (L2.wipe σ vs) ex a := fun a z => z.imp_right (ow_back ok)
      have stp : Step F1 ex1 s1 σ H1 F ex (tf.back s1 vs) H := by
        refine ⟨⟨fun a o nt e n => fl.fr.grow.keep a o nt (hne e) (fun z => z.elim n fun z => by rw [z, hD] at e; cases e), fun a o e => fl.fr.grow.dom a o (hne e), fl.fr.grow.fmono, fun a f => ?_, fun a z => ?_, fun t => fl.fr.grow.tab (t.ext fun b o e => hne e)⟩, fl.fr.pre, nbb⟩
        · rcases fl.fr.grow.fnew a f with f | (z | z) | z
          · exact .inl f
          · exact .inr (.inl z)
          · exact absurd (by rw [← z]; exact f) nF
          · exact .inr (.inr (hno z))
        · rcases fl.fr.grow.mnew a (mub a z) with (z | z) | z
          · exact .inl z
          · rw [z]; exact .inr hD
          · exact .inr (hno z)
      refine .inl ⟨hJ.stop H i fl.lk (by omega), q F ex H rb (st1.trans stp) _ ?_⟩
      have zl : acc.length ≤ sizeLine := by rw [ra.length]; exact hz
      exact ⟨Dd, rfl, ⟨acc, hacc, zl, ra⟩, nF, fun z => nM (mub _ z), fun z => nB1 (nbb.bo z), st1.grow.none hD⟩
    refine .inr ⟨hJ.go H i fl.lk hlt, LcI (i + 1), fun H' w => ⟨ds.length - (i + 1), by omega, rfl, w⟩, fun x H3 y => ?_⟩
    obtain ⟨F3, nw, rf⟩ := hJ.yld H F i x H3 fl.lk fl.lm r.fdom y ds[i] (List.getElem?_eq_getElem hlt)
    have r3 := r.new nw
    have st3 : Step F ex s (L2.wipe σ vs) H F3 ex s H3 := ⟨nw.grow _, List.prefix_refl _, .refl⟩
    have fl3 := fl.step r st3
    have e3 : ds.drop i = ds[i] :: ds.drop (i + 1) := List.drop_eq_getElem_cons hlt
    rw [e3] at hl
    obtain ⟨o, s9, zs', ht, hl', rfl⟩ := lcLoop_cons hl
    obtain ⟨_, sg, eg, ht⟩ := bind_ok (m := g ds[i]) ht
    obtain ⟨b, sc, ec, ht⟩ := bind_ok (m := c) ht
    have keepD : ∀ {F' : Fz} {ex' : List Addr} {s0 s' : S} {σ' : L2.St} {H0 H' : Hp} {F0 : Fz} {ex0 : List Addr}, Step F0 ex0 s0 σ' H0 F' ex' s' H' → ¬ Mu s0.ρ σ' ex0 Dd → ¬ F0 Dd → H0 Dd = some (.lst acc) → H' Dd = some (.lst acc) ∧ ¬ Mu s'.ρ σ' ex' Dd ∧ ¬ F' Dd := fun {F' ex' s0 s' σ' H0 H' F0 ex0} st nm nf e => by
      refine ⟨(st.grow.keep _ _ nt_lst e nm).lst, fun z => ?_, fun z => ?_⟩
      · rcases st.grow.mnew _ z with z | z
        · exact nm z
        · rw [e] at z; cases z
      · rcases st.grow.fnew _ z with z | z | z
        · exact nf z
        · exact nm z
        · rw [e] at z; cases z
    obtain ⟨hacc3, nM3, nF3⟩ := keepD st3 nM nF hacc
    refine ⟨en', F3, ex, s, ds[i], r3, fl3.fr, rf, ?_⟩
    rw [eg]
    intro σ2 tg r4 f4
    have wp : L2.wipe σ2 vs = L2.wipe σ vs := by
      refine (swipe_ext (σ := L2.wipe σ vs) tg.len fun j hj => tg.off j fun z => hj (hts j z)).trans (swipe_ext (wipe_length _ _) fun j hj => wipe_out hj)
    have nM4 : ¬ Mu sg.ρ σ2 ex Dd := fun z => nM3 (z.imp_right (tg.ow _))
    have fl4 := fl3.with f4
    refine ⟨wp, en', F3, ex, sg, r4, f4, ?_⟩
    rw [ec]
    intro F5 ex5 H5 r5 st5
    have fl5 := fl4.step r4 st5
    obtain ⟨hacc5, nM5, nF5⟩ := keepD st5 nM4 nF3 hacc3
    have ra5 : RfA X.K F5 H5 acc ys := RfA.mono (fun a f => st5.grow.fmono a (nw.fmono a f)) (fun a o f n e => st5.grow.kp r4.dj a o (nw.fmono a f) n (nw.same a o e)) ys ra
    have nb5 : NB s1 sc := nb.trans (tg.bo.trans st5.bo)
    cases b with
    | false =>
      rw [if_neg Bool.false_ne_true] at ht
      cases ht
      show LcI (i + 1) H5
      have r6 := r5.wiped vs
      rw [wp] at r6
      refine ⟨F5, ex5, sc.wiped vs, acc, ys, zs', r6, ⟨⟨fl5.fr.grow.weakM fun a z => ?_, fl5.fr.pre, fl5.fr.tb⟩, fl5.lm, fl5.lk⟩, nb5.trans .wiped, hacc5, ra5, nF5, fun z => nM5 ?_, hl', hall⟩
      · rw [← wp] at z; exact mu_wiped z
      · rw [← wp] at z; exact mu_wiped z
    | true =>
      rw [if_pos rfl] at ht
      show eAny X.K xc m σ2 H5 _
      obtain ⟨y, sm, em, ht⟩ := bind_ok (m := mFrz m) ht
      cases ht
      refine ⟨en', F5, ex5, sc, r5, fl5.fr, ?_⟩
      rw [em]
      intro F6 ex6 H6 r6 st6 xv rx
      have rx : Rf X.K F6 H6 xv y := rx
      have fl6 := fl5.step r5 st6
      obtain ⟨hacc6, nM6, nF6⟩ := keepD st6 nM5 nF5 hacc5
      have ra6 : RfA X.K F6 H6 acc ys := RfA.mono st6.grow.fmono (st6.grow.kp r5.dj) ys ra5
      have nb6 : NB s1 sm := nb5.trans st6.bo
      have la : acc.length + 1 ≤ sizeLine := by
        rw [ra.length]
        have := congrArg List.length hall
        rw [List.length_append, List.length_cons] at this
        omega
      have kp6 : Kp F6 H6 (upd H6 Dd (.lst (acc ++ [xv]))) := fun a u f _ z => by
        rw [upd_ne (fun q => nF6 (by rw [← q]; exact f))]; exact .inl z
      have r7 := r6.wiped vs
      rw [wp] at r7
      have nM7 : ¬ Mu (wipe sm.ρ vs) (L2.wipe σ vs) ex6 Dd := fun z => nM6 (by rw [← wp] at z; exact mu_wiped z)
      have nb7 : NB s1 (sm.wiped vs) := nb6.trans .wiped
      have r8 := r7.other (p := Dd) (o := .lst (acc ++ [xv])) nF6 nM7 (fun z => nB1 (nb7.bo (let ⟨i, d, a, b⟩ := z; ⟨i, d, a, (wipe_some b).1⟩))) (fun q u z => by rw [hacc6] at z; cases z) (fun t => tabs_at hacc6 nt_lst (fun f z => nomatch z) t)
      have hup : ∀ {a : Addr} {o : HO}, a ≠ Dd → H6 a = some o → upd H6 Dd (.lst (acc ++ [xv])) a = some o := fun n e => by rw [upd_ne n]; exact e
      refine ⟨acc, hacc6, la, F6, ex6, sm.wiped vs, acc ++ [xv], ys ++ [y], zs', r8, ⟨⟨⟨fun a o nt e n => ?_, fun a o e => ?_, fl6.fr.grow.fmono, fl6.fr.grow.fnew, fun a z => ?_, fun t => tabs_at hacc6 nt_lst (fun f z => nomatch z) (fl6.fr.grow.tab t)⟩, fl6.fr.pre, tabs_at hacc6 nt_lst (fun f z => nomatch z) fl6.fr.tb⟩, fl6.lm, fun a o f nt e => ?_⟩, nb7, upd_same, ?_, nF6, nM7, hl', ?_⟩
      · exact (fl6.fr.grow.keep a o nt e n).upd fun q => n (.inr q)
      · obtain ⟨o', e'⟩ := fl6.fr.grow.dom a o e
        by_cases q : a = Dd
        · exact ⟨_, by rw [q]; exact upd_same⟩
        · exact ⟨o', hup q e'⟩
      · rw [← wp] at z; exact fl6.fr.grow.mnew a (mu_wiped z)
      · exact (fl6.lk a o f nt e).upd fun q => nF1 (by rw [← q]; exact f)
      · exact RfA.append (RfA.mono (fun _ f => f) kp6 _ ra6) (.cons (Rf.mono (fun _ f => f) kp6 _ rx) .nil)
      · rw [List.append_assoc]; exact hall
theorem putIn_len (kvs : List (D × D)) (k v : D) : (putIn kvs k v).length ≤ kvs.length + 1 := by
  unfold putIn
  split
  · rw [List.length_map]; omega
  · rw [List.length_append]; exact Nat.le_refl _
theorem dictOf_snoc (ys : List (D × D)) (p : D × D) : dictOf (ys ++ [p]) = putIn (dictOf ys) p.1 p.2 := by
  unfold dictOf
  rw [List.foldl_append]; rfl
theorem fold_len : ∀ (ys acc : List (D × D)), (ys.foldl (fun acc p => putIn acc p.1 p.2) acc).length ≤ acc.length + ys.length
  | [], acc => Nat.le_refl _
  | y :: ys, acc => by
    have := fold_len ys (putIn acc y.1 y.2)
    have := putIn_len acc y.1 y.2
    rw [List.foldl_cons, List.length_cons]
    omega
theorem dictOf_len (ys : List (D × D)) : (dictOf ys).length ≤ ys.length := by
  have := fold_len ys []
  unfold dictOf
  rw [List.length_nil, Nat.zero_add] at this
  exact this
theorem key_of' {K : PySem.W.Frag} {F : Fz} {H : Hp} {v : V} {d : D} (h : isKey d = true) (r : Rf K F H v d) : ∃ k : Key, v = kV k ∧ d = kd k := by
  cases r with
  | int i => exact ⟨.inl i, rfl, rfl⟩
  | str x => exact ⟨.inr x, rfl, rfl⟩
  | _ => cases h
theorem dlc_den {σ : L2.St} {H : Hp} {Q : VK} {mk mv : M Val} {w : M (List D)} {c : M Bool} {vs ts : List Nat} (hts : ∀ j ∈ ts, j ∈ vs) (h : TE' X.K xc en Wi (mDlc mk mv g w c vs) σ H Q) : tDc (TI' X.K xc en Wi w) (gAny X.K xc.T ts g) (tAny X.K xc c) (eAny X.K xc mk) (eAny X.K xc mv) vs σ H Q := by
  obtain ⟨F, ex, s, r, fr, h⟩ := h
  refine ⟨F, ex, s, r, fr, (Ends_.bind (m := w) h).imp fun F1 ex1 H1 s1 ds e1 r1 st1 q J hJ Dd hD => ?_⟩
  cases e2 : lcLoop (dcTurn g c mk mv vs) ds { s1 with ρ := wipe s1.ρ vs } with
  | exc c fs t => simp only [e2] at q; exact q.elim
  | bad => simp only [e2] at q; exact q.elim
  | ok all tf =>
    simp only [e2] at q
    split at q
    rotate_left
    · exact q.elim
    rename_i hz
    obtain ⟨hz, ok⟩ := hz
    have nF1 : ¬ F1 Dd := fun f => by obtain ⟨o, e⟩ := r1.fdom _ f; rw [hD] at e; cases e
    have nM1 : ¬ Mu s1.ρ σ ex1 Dd := fun f => by obtain ⟨o, e⟩ := r1.mdom f; rw [hD] at e; cases e
    have nB1 : ¬ Bo s1.ρ σ Dd := fun f => by obtain ⟨o, e⟩ := r1.bo f; rw [hD] at e; cases e
    -- the entry of the block
    let M' : Fz := fun a => Mu s1.ρ σ ex1 a ∨ a = Dd
    let en' : Entry xc.T := ⟨F1, upd H1 Dd (.dK []), ex1, M'⟩
    have hne : ∀ {a : Addr} {o : HO}, H1 a = some o → upd H1 Dd (.dK []) a = some o := fun {a o} e => by
      rw [upd_ne (fun q => by rw [q, hD] at e; cases e)]; exact e
    have hno : ∀ {a : Addr}, upd H1 Dd (.dK []) a = none → H1 a = none := fun {a} e => by
      cases z : H1 a with
      | none => rfl
      | some o => rw [hne z] at e; cases e
    let LcI : Nat → Hp → Prop := fun i H => ∃ F ex s acc ys zs, Rel X.K F ex s (L2.wipe σ vs) H ∧ FromL en' ⟨F1, H1⟩ F ex s (L2.wipe σ vs) H ∧ NB s1 s ∧ H Dd = some (.dK acc) ∧ RfK X.K F H acc (dictOf ys) ∧ ¬ F Dd ∧ ¬ Mu s.ρ (L2.wipe σ vs) ex Dd ∧
      lcLoop (dcTurn g c mk mv vs) (ds.drop i) s = .ok zs tf ∧ ys ++ zs = all
    refine ⟨fun i n H => n = ds.length - i ∧ LcI i H, ⟨ds.length - 0, rfl, F1, ex1, s1.wiped vs, [], [], all, ?_, ?_, .wiped, upd_same, .nil, nF1, fun z => nM1 (mu_wiped z), e2, rfl⟩, ?_⟩
    · exact (r1.wiped vs).other nF1 (fun z => nM1 (mu_wiped z)) (fun z => nB1 (NB.wiped.bo (let ⟨i, d, a, b⟩ := z; ⟨i, d, a, (wipe_some b).1⟩))) (fun q u z => by rw [hD] at z; cases z) (fun t => t.ext fun b o e => hne e)
    · exact ⟨⟨⟨fun _ _ _ e _ => .inl e, fun _ o e => ⟨o, e⟩, fun _ f => f, fun _ f => .inl f, fun a z => .inl (.inl (mu_wiped z)), fun t => t⟩, List.prefix_refl _, (fr.step st1).tb.ext fun b o e => hne e⟩, fun _ f => f, fun a o _ _ e => .inl (hne e)⟩
    rintro i n H ⟨rfl, F, ex, s, acc, ys, zs, r, fl, nb, hacc, ra, nF, nM, hl, hall⟩
    by_cases hlt : i < ds.length
    rotate_left
    · -- the end
      have e3 : ds.drop i = [] := List.drop_eq_nil_of_le (by omega)
      rw [e3] at hl
      cases hl
      rw [List.append_nil] at hall
      subst hall
      have rb := r.back r1 ok fl.lm fl.lk
      have nbb : NB s1 (tf.back s1 vs) := nb.back ok
      have mub : ∀ a, Mu (putBack s1.ρ tf.ρ vs) σ ex a → Mu tf.ρ (L2.wipe σ vs) ex a := fun a z => z.imp_right (ow_back ok)
      have stp : Step F1 ex1 s1 σ H1 F ex (tf.back s1 vs) H := by
        refine ⟨⟨fun a o nt e n => fl.fr.grow.keep a o nt (hne e) (fun z => z.elim n fun z => by rw [z, hD] at e; cases e), fun a o e => fl.fr.grow.dom a o (hne e), fl.fr.grow.fmono, fun a f => ?_, fun a z => ?_, fun t => fl.fr.grow.tab (t.ext fun b o e => hne e)⟩, fl.fr.pre, nbb⟩
        · rcases fl.fr.grow.fnew a f with f | (z | z) | z
          · exact .inl f
          · exact .inr (.inl z)
          · exact absurd (by rw [← z]; exact f) nF
          · exact .inr (.inr (hno z))
        · rcases fl.fr.grow.mnew a (mub a z) with (z | z) | z
          · exact .inl z
          · rw [z]; exact .inr hD
          · exact .inr (hno z)
      refine .inl ⟨hJ.stop H i fl.lk (by omega), q F ex H rb (st1.trans stp) _ ?_⟩
      exact ⟨Dd, rfl, ⟨acc, hacc, ra⟩, nF, fun z => nM (mub _ z), fun z => nB1 (nbb.bo z), st1.grow.none hD⟩
    refine .inr ⟨hJ.go H i fl.lk hlt, LcI (i + 1), fun H' w => ⟨ds.length - (i + 1), by omega, rfl, w⟩, fun x H3 y => ?_⟩
    obtain ⟨F3, nw, rf⟩ := hJ.yld H F i x H3 fl.lk fl.lm r.fdom y ds[i] (List.getElem?_eq_getElem hlt)
    have r3 := r.new nw
    have st3 : Step F ex s (L2.wipe σ vs) H F3 ex s H3 := ⟨nw.grow _, List.prefix_refl _, .refl⟩
    have fl3 := fl.step r st3
    have e3 : ds.drop i = ds[i] :: ds.drop (i + 1) := List.drop_eq_getElem_cons hlt
    rw [e3] at hl
    obtain ⟨o, s9, zs', ht, hl', rfl⟩ := lcLoop_cons hl
    obtain ⟨_, sg, eg, ht⟩ := bind_ok (m := g ds[i]) ht
    obtain ⟨b, sc, ec, ht⟩ := bind_ok (m := c) ht
    have keepD : ∀ {F' : Fz} {ex' : List Addr} {s0 s' : S} {σ' : L2.St} {H0 H' : Hp} {F0 : Fz} {ex0 : List Addr}, Step F0 ex0 s0 σ' H0 F' ex' s' H' → ¬ Mu s0.ρ σ' ex0 Dd → ¬ F0 Dd → H0 Dd = some (.dK acc) → H' Dd = some (.dK acc) ∧ ¬ Mu s'.ρ σ' ex' Dd ∧ ¬ F' Dd := fun {F' ex' s0 s' σ' H0 H' F0 ex0} st nm nf e => by
      have nf2 : ¬ F' Dd := fun z => by
        rcases st.grow.fnew _ z with z | z | z
        · exact nf z
        · exact nm z
        · rw [e] at z; cases z
      refine ⟨(st.grow.keep _ _ nt_dK e nm).off nf2, fun z => ?_, nf2⟩
      rcases st.grow.mnew _ z with z | z
      · exact nm z
      · rw [e] at z; cases z
    obtain ⟨hacc3, nM3, nF3⟩ := keepD st3 nM nF hacc
    refine ⟨en', F3, ex, s, ds[i], r3, fl3.fr, rf, ?_⟩
    rw [eg]
    intro σ2 tg r4 f4
    have wp : L2.wipe σ2 vs = L2.wipe σ vs := by
      refine (swipe_ext (σ := L2.wipe σ vs) tg.len fun j hj => tg.off j fun z => hj (hts j z)).trans (swipe_ext (wipe_length _ _) fun j hj => wipe_out hj)
    have nM4 : ¬ Mu sg.ρ σ2 ex Dd := fun z => nM3 (z.imp_right (tg.ow _))
    have fl4 := fl3.with f4
    refine ⟨wp, en', F3, ex, sg, r4, f4, ?_⟩
    rw [ec]
    intro F5 ex5 H5 r5 st5
    have fl5 := fl4.step r4 st5
    obtain ⟨hacc5, nM5, nF5⟩ := keepD st5 nM4 nF3 hacc3
    have ra5 : RfK X.K F5 H5 acc (dictOf ys) := RfK.mono (fun a f => st5.grow.fmono a (nw.fmono a f)) (fun a o f n e => st5.grow.kp r4.dj a o (nw.fmono a f) n (nw.same a o e)) _ ra
    have nb5 : NB s1 sc := nb.trans (tg.bo.trans st5.bo)
    cases b with
    | false =>
      rw [if_neg Bool.false_ne_true] at ht
      cases ht
      show LcI (i + 1) H5
      have r6 := r5.wiped vs
      rw [wp] at r6
      refine ⟨F5, ex5, sc.wiped vs, acc, ys, zs', r6, ⟨⟨fl5.fr.grow.weakM fun a z => ?_, fl5.fr.pre, fl5.fr.tb⟩, fl5.lm, fl5.lk⟩, nb5.trans .wiped, hacc5, ra5, nF5, fun z => nM5 ?_, hl', hall⟩
      · rw [← wp] at z; exact mu_wiped z
      · rw [← wp] at z; exact mu_wiped z
    | true =>
      rw [if_pos rfl] at ht
      show eAny X.K xc mk σ2 H5 _
      obtain ⟨kx, sk, ek, ht⟩ := bind_ok (m := mFrz mk) ht
      obtain ⟨y, sm, em, ht⟩ := bind_ok (m := mFrz mv) ht
      cases hik : isKey kx with
      | false => rw [hik, if_neg Bool.false_ne_true] at ht; cases ht
      | true =>
      rw [hik, if_pos rfl] at ht
      cases ht
      refine ⟨en', F5, ex5, sc, r5, fl5.fr, ?_⟩
      rw [ek]
      intro Fk exk Hk rk stk xv rx
      have rx : Rf X.K Fk Hk xv kx := rx
      have flk := fl5.step r5 stk
      obtain ⟨hacck, nMk, nFk⟩ := keepD stk nM5 nF5 hacc5
      have rak : RfK X.K Fk Hk acc (dictOf ys) := RfK.mono stk.grow.fmono (stk.grow.kp r5.dj) _ ra5
      have nbk : NB s1 sk := nb5.trans stk.bo
      obtain ⟨kk, rfl, rfl⟩ := key_of' hik rx
      show eAny X.K xc mv σ2 Hk _
      refine ⟨en', Fk, exk, sk, rk, flk.fr, ?_⟩
      rw [em]
      intro F6 ex6 H6 r6 st6 zv rz
      have rz : Rf X.K F6 H6 zv y := rz
      have fl6 := flk.step rk st6
      obtain ⟨hacc6, nM6, nF6⟩ := keepD st6 nMk nFk hacck
      have ra6 : RfK X.K F6 H6 acc (dictOf ys) := RfK.mono st6.grow.fmono (st6.grow.kp rk.dj) _ rak
      have nb6 : NB s1 sm := nbk.trans st6.bo
      have la : acc.length + 1 ≤ sizeLine := by
        rw [ra.length]
        have := congrArg List.length hall
        have := dictOf_len ys
        rw [List.length_append, List.length_cons] at *
        omega
      let new : HO := .dK (putK acc kk zv)
      have kp6 : Kp F6 H6 (upd H6 Dd new) := fun a u f _ z => by
        rw [upd_ne (fun q => nF6 (by rw [← q]; exact f))]; exact .inl z
      have r7 := r6.wiped vs
      rw [wp] at r7
      have nM7 : ¬ Mu (wipe sm.ρ vs) (L2.wipe σ vs) ex6 Dd := fun z => nM6 (by rw [← wp] at z; exact mu_wiped z)
      have nb7 : NB s1 (sm.wiped vs) := nb6.trans .wiped
      have r8 := r7.other (p := Dd) (o := new) nF6 nM7 (fun z => nB1 (nb7.bo (let ⟨i, d, a, b⟩ := z; ⟨i, d, a, (wipe_some b).1⟩))) (fun q u z => by rw [hacc6] at z; cases z) (fun t => tabs_at hacc6 nt_dK (fun f z => nomatch z) t)
      have hup : ∀ {a : Addr} {o : HO}, a ≠ Dd → H6 a = some o → upd H6 Dd new a = some o := fun n e => by rw [upd_ne n]; exact e
      refine ⟨acc, kk, rfl, hacc6, la, F6, ex6, sm.wiped vs, putK acc kk zv, ys ++ [(kd kk, y)], zs', r8, ⟨⟨⟨fun a o nt e n => ?_, fun a o e => ?_, fl6.fr.grow.fmono, fl6.fr.grow.fnew, fun a z => ?_, fun t => tabs_at hacc6 nt_dK (fun f z => nomatch z) (fl6.fr.grow.tab t)⟩, fl6.fr.pre, tabs_at hacc6 nt_dK (fun f z => nomatch z) fl6.fr.tb⟩, fl6.lm, fun a o f nt e => ?_⟩, nb7, upd_same, ?_, nF6, nM7, hl', ?_⟩
      · exact (fl6.fr.grow.keep a o nt e n).upd fun q => n (.inr q)
      · obtain ⟨o', e'⟩ := fl6.fr.grow.dom a o e
        by_cases q : a = Dd
        · exact ⟨_, by rw [q]; exact upd_same⟩
        · exact ⟨o', hup q e'⟩
      · rw [← wp] at z; exact fl6.fr.grow.mnew a (mu_wiped z)
      · exact (fl6.lk a o f nt e).upd fun q => nF1 (by rw [← q]; exact f)
      · rw [dictOf_snoc]
        exact RfK.put kk (RfK.mono (fun _ f => f) kp6 _ ra6) (Rf.mono (fun _ f => f) kp6 _ rz)
      · rw [List.append_assoc]; exact hall
/-- a comprehension of a dict -/
theorem d_dlc {kx vx tg iter : Expr} {ifs : List Expr} {scope : Scope} {own : List (Str × Nat)} {ts : List Nat} {mk mv : M Val} {w : M (List D)} {c : M Bool} (hc : X.calm = true) (hN : X.N.Nodup) (hi : PI X tg iter (TI' X.K xc en Wi w)) (ok : BlkOk X.N X.env.scope scope own)
    (hts : ∀ j ∈ ts, j ∈ own.map (·.2))
    (hg : ∀ (s : Shared) (H : Hp) (C : Addr) (cl : List (Str × Addr)) (fp : List Addr), PG (X.blk s H scope (compEnvC scope cl C X.env) fp) tg (gAny X.K xc.T ts g))
    (ht : ∀ (s : Shared) (H : Hp) (C : Addr) (cl : List (Str × Addr)) (fp : List Addr), PTs (X.blk s H scope (compEnvC scope cl C X.env) fp) ifs (tAny X.K xc c))
    (hk : ∀ (s : Shared) (H : Hp) (C : Addr) (cl : List (Str × Addr)) (fp : List Addr), PE (X.blk s H scope (compEnvC scope cl C X.env) fp) kx (eAny X.K xc mk))
    (he : ∀ (s : Shared) (H : Hp) (C : Addr) (cl : List (Str × Addr)) (fp : List Addr), PE (X.blk s H scope (compEnvC scope cl C X.env) fp) vx (eAny X.K xc mv)) (hs : ∀ x, foldedSetIterable iter X.env x = pure x) :
    PEd X xc en Wi (.DictComp kx vx [⟨tg, iter, ifs, 0⟩] scope pos) (mDlc mk mv g w c (own.map (·.2))) :=
  PE.imp (pe_dc hc hN hi ok hg ht hk he hs) fun σ H Q h => dlc_den hts h
/-- a comprehension of one for -/
theorem d_lc {elt tg iter : Expr} {ifs : List Expr} {scope : Scope} {own : List (Str × Nat)} {ts : List Nat} {m : M Val} {w : M (List D)} {c : M Bool} (hc : X.calm = true) (hN : X.N.Nodup) (hi : PI X tg iter (TI' X.K xc en Wi w)) (ok : BlkOk X.N X.env.scope scope own)
    (hts : ∀ j ∈ ts, j ∈ own.map (·.2))
    (hg : ∀ (s : Shared) (H : Hp) (C : Addr) (cl : List (Str × Addr)) (fp : List Addr), PG (X.blk s H scope (compEnvC scope cl C X.env) fp) tg (gAny X.K xc.T ts g))
    (ht : ∀ (s : Shared) (H : Hp) (C : Addr) (cl : List (Str × Addr)) (fp : List Addr), PTs (X.blk s H scope (compEnvC scope cl C X.env) fp) ifs (tAny X.K xc c))
    (he : ∀ (s : Shared) (H : Hp) (C : Addr) (cl : List (Str × Addr)) (fp : List Addr), PE (X.blk s H scope (compEnvC scope cl C X.env) fp) elt (eAny X.K xc m)) (hs : ∀ x, foldedSetIterable iter X.env x = pure x) :
    PEd X xc en Wi (.ListComp elt [⟨tg, iter, ifs, 0⟩] scope pos) (mLc m g w c (own.map (·.2))) :=
  PE.imp (pe_lc hc hN hi ok hg ht he hs) fun σ H Q h => lc_den hts h
theorem k_setLc {i : Nat} {y : Str} {py spos : Pos} {elt tg iter : Expr} {ifs : List Expr} {scope : Scope} {own : List (Str × Nat)} {ts : List Nat} {m : M Val} {w : M (List D)} {c : M Bool} (hc : X.calm = true) (hN : X.N.Nodup) (hy : X.N[i]? = some y) (hyl : X.env.scope.names.lookup y = some .local)
    (hsw : swapsWith (.ListComp elt [⟨tg, iter, ifs, 0⟩] scope pos) (some (.Name y py)) spos.line X.env = pure true) (hi : PI X tg iter (TI' X.K xc en Wi w)) (ok : BlkOk X.N X.env.scope scope own) (hts : ∀ j ∈ ts, j ∈ own.map (·.2))
    (hg : ∀ (s : Shared) (H : Hp) (C : Addr) (cl : List (Str × Addr)) (fp : List Addr), PG (X.blk s H scope (compEnvC scope cl C X.env) fp) tg (gAny X.K xc.T ts g))
    (ht : ∀ (s : Shared) (H : Hp) (C : Addr) (cl : List (Str × Addr)) (fp : List Addr), PTs (X.blk s H scope (compEnvC scope cl C X.env) fp) ifs (tAny X.K xc c))
    (he : ∀ (s : Shared) (H : Hp) (C : Addr) (cl : List (Str × Addr)) (fp : List Addr), PE (X.blk s H scope (compEnvC scope cl C X.env) fp) elt (eAny X.K xc m)) (hs : ∀ x, foldedSetIterable iter X.env x = pure x) :
    PS X (.Assign [.Name y py] (.ListComp elt [⟨tg, iter, ifs, 0⟩] scope pos) spos) (TS' X.K xc en Wi (kSet i (mLc m g w c (own.map (·.2))))) :=
  PS.imp (ps_setLc hc hN hy hyl hsw hi ok hg ht he hs) fun D σ H h => lc_den hts (set_core h)
/-! a star in a display -/
theorem all2_of : ∀ {K : PySem.W.Frag} {F : Fz} {H : Hp} {vs : List V} {ds : List D}, RfA K F H vs ds → All2 (fun x d => Rf K F H x d) vs ds
  | _, _, _, _, _, .nil => .nil
  | _, _, _, _, _, .cons a r => .cons a (all2_of r)
theorem all2_app {α : Type} {R : V → α → Prop} : ∀ {xs ys : List V} {as bs : List α}, All2 R xs as → All2 R ys bs → All2 R (xs ++ ys) (as ++ bs)
  | _, _, _, _, .nil, h => h
  | _, _, _, _, .cons a r, h => .cons a (all2_app r h)
theorem keys_rf {K : PySem.W.Frag} {F : Fz} {H : Hp} : ∀ {kvs : List (Key × V)} {es : List (D × D)}, RfK K F H kvs es → RfA K F H (kvs.map fun q => kV q.1) (es.map (·.1))
  | [], _, .nil => .nil
  | (k, v) :: kvs, _, .cons a b => .cons (by cases k <;> first | exact .int _ | exact .str _) (keys_rf b)
theorem l_star {e : Expr} {es : List Expr} {p : Pos} {m : M Val} {l : M (List D)} (calm : X.calm = true) (ha : PEd X xc en Wi e m) (hl : PA X es (TL X.K xc en Wi (RFz X.K) l)) : PA X (.Starred e p :: es) (TL X.K xc en Wi (RFz X.K) (lStar m l)) := by
  refine PA.imp (pa_starD calm (d_frz ha) hl) fun σ H Q ⟨F, ex, s, r, fr, h⟩ => ?_
  refine ⟨F, ex, s, r, fr, (Ends_.bind (m := mFrz m) h).imp fun F1 ex1 H1 s1 d e1 r1 st1 q x rx => ?_⟩
  have rx : Rf X.K F1 H1 x d := rx
  have go : ∀ (a : Addr) (xs : List V) (ds : List D), x = .ref a → (SqT X.K H1 a xs ∨ SqL X.K H1 a xs ∨ ∃ kvs, Rd H1 a (.dK kvs) ∧ xs = kvs.map fun q => kV q.1) → RfA X.K F1 H1 xs ds → starOf d = some ds →
      ∃ p xs, x = V.ref p ∧ (SqT X.K H1 p xs ∨ SqL X.K H1 p xs ∨ ∃ kvs, Rd H1 p (.dK kvs) ∧ xs = kvs.map fun q => kV q.1) ∧ TL X.K xc en Wi (RFz X.K) l σ H1 fun ys H2 => Q (xs ++ ys) H2 := fun a xs ds ex_ hs ra e => by
    rw [e] at q
    refine ⟨a, xs, ex_, hs, F1, ex1, s1, r1, fr.step st1, ((Ends_.bind (m := l) q).later st1).imp fun F2 ex2 H2 s2 as e2 r2 st2 q ys rs => ?_⟩
    exact q F2 ex2 H2 r2 (st1.trans st2) (xs ++ ys) (all2_app (all2_of (RfA.mono st2.grow.fmono (st2.grow.kp r1.dj) _ ra)) rs)
  cases d with
  | list ds =>
    cases rx with
    | lst fa e z ra => exact go _ _ _ rfl (.inr (.inl (SqL.of e))) ra rfl
  | tuple ds =>
    cases rx with
    | tup fa e z ra => exact go _ _ _ rfl (.inl e.sq) ra rfl
  | dict es =>
    cases rx with
    | dct fa e rk => exact go _ _ _ rfl (.inr (.inr ⟨_, e, rfl⟩)) (keys_rf rk) rfl
  | _ => exact q.elim
end
end Ded
end

section
set_option Elab.async false
set_option linter.all false
set_option maxRecDepth 100000
/-! Comprehensions of two fors. -/
namespace Ded
open PySem L2
variable [TabName]
section
variable {K : PySem.W.Frag} {F F' : Fz} {ex ex' : List Addr} {s s' : S} {σ : L2.St} {H H' : Hp} {vs vs1 : List Nat} {a : Addr} {xs : List V}
/-- what nobody of the state looks at, stays -/
theorem Step.stays (st : Step F ex s σ H F' ex' s' H') (nm : ¬ Mu s.ρ σ ex a) (nf : ¬ F a) {o : HO} (nt : NT o) (e : H a = some o) : H' a = some o ∧ ¬ Mu s'.ρ σ ex' a ∧ ¬ F' a := by
  have nf2 : ¬ F' a := fun z => by
    rcases st.grow.fnew _ z with z | z | z
    · exact nf z
    · exact nm z
    · rw [e] at z; cases z
  refine ⟨(st.grow.keep _ _ nt e nm).off nf2, fun z => ?_, nf2⟩
  rcases st.grow.mnew _ z with z | z
  · exact nm z
  · rw [e] at z; cases z
theorem wipe_in (hv : ∀ j ∈ vs1, j ∈ vs) : L2.wipe (L2.wipe σ vs1) vs = L2.wipe σ vs := swipe_ext (wipe_length _ _) fun j hj => wipe_out fun z => hj (hv j z)
theorem wipe_two : L2.wipe (L2.wipe σ vs) vs = L2.wipe σ vs := wipe_in fun _ z => z
theorem flat_snoc {α : Type} (zs : List (List α)) (o : Option (List α)) : (match o with | some y => y :: zs | none => zs).flatten = (o.getD []) ++ zs.flatten := by
  cases o <;> rfl
end
section
variable {X : Cx} {xc : Xc} {en : Entry xc.T} {Wi : XK} {e : Expr} {pos : Pos} {g g1 : D → M Unit}
/-- an iterable in a block: whatever the entry -/
def iAny (K : PySem.W.Frag) (xc : Xc) (w : M (List D)) : TI := fun σ H R => ∃ en, TI' K xc en (fun _ _ _ => False) w σ H R
theorem any_i {tg : Expr} {w : M (List D)} (h : ∀ en, PId X xc en (fun _ _ _ => False) tg e w) : PI X tg e (iAny X.K xc w) := ⟨fun pins s σ H R I ⟨en, z⟩ => (h en).run pins s σ H R I z⟩
/-- the entry of a block in which a list is made -/
abbrev blkEn {T : List (Addr × Str)} (F1 : Fz) (H1 : Hp) (ex1 : List Addr) (s1 : S) (σ : L2.St) (Dd : Addr) (o : HO) : Entry T := ⟨F1, upd H1 Dd o, ex1, fun a => Mu s1.ρ σ ex1 a ∨ a = Dd⟩
theorem lc2_den {σ : L2.St} {H : Hp} {Q : VK} {m : M Val} {w w1 : M (List D)} {c c1 : M Bool} {vs vs1 ts ts1 : List Nat} (hts : ∀ j ∈ ts, j ∈ vs) (hts1 : ∀ j ∈ ts1, j ∈ vs1) (hv : ∀ j ∈ vs1, j ∈ vs) (h : TE' X.K xc en Wi (mLc2 m g w c g1 w1 c1 vs vs1) σ H Q) :
    tLc2 (TI' X.K xc en Wi w) (gAny X.K xc.T ts g) (tAny X.K xc c) (iAny X.K xc w1) (gAny X.K xc.T ts1 g1) (tAny X.K xc c1) (eAny X.K xc m) vs vs1 σ H Q := by
  obtain ⟨F, ex, s, r, fr, h⟩ := h
  refine ⟨F, ex, s, r, fr, (Ends_.bind (m := w) h).imp fun F1 ex1 H1 s1 ds e1 r1 st1 q J hJ Dd hD => ?_⟩
  cases e2 : lcLoop (lc2Turn g c w1 (lcTurn g1 c1 m vs1) vs vs1) ds { s1 with ρ := wipe s1.ρ vs } with
  | exc c fs t => simp only [e2] at q; exact q.elim
  | bad => simp only [e2] at q; exact q.elim
  | ok all tf =>
    simp only [e2] at q
    split at q
    rotate_left
    · exact q.elim
    rename_i hz
    obtain ⟨hz, ok⟩ := hz
    have nF1 : ¬ F1 Dd := fun f => by obtain ⟨o, e⟩ := r1.fdom _ f; rw [hD] at e; cases e
    have nM1 : ¬ Mu s1.ρ σ ex1 Dd := fun f => by obtain ⟨o, e⟩ := r1.mdom f; rw [hD] at e; cases e
    have nB1 : ¬ Bo s1.ρ σ Dd := fun f => by obtain ⟨o, e⟩ := r1.bo f; rw [hD] at e; cases e
    let en' : Entry xc.T := blkEn F1 H1 ex1 s1 σ Dd (.lst [])
    have hne : ∀ {a : Addr} {o : HO}, H1 a = some o → upd H1 Dd (.lst []) a = some o := fun {a o} e => by
      rw [upd_ne (fun q => by rw [q, hD] at e; cases e)]; exact e
    have hno : ∀ {a : Addr}, upd H1 Dd (.lst []) a = none → H1 a = none := fun {a} e => by
      cases z : H1 a with
      | none => rfl
      | some o => rw [hne z] at e; cases e
    let LcI : Nat → Hp → Prop := fun i H => ∃ F ex s acc ys zs, Rel X.K F ex s (L2.wipe σ vs) H ∧ FromL en' ⟨F1, H1⟩ F ex s (L2.wipe σ vs) H ∧ NB s1 s ∧ H Dd = some (.lst acc) ∧ RfA X.K F H acc ys ∧ ¬ F Dd ∧ ¬ Mu s.ρ (L2.wipe σ vs) ex Dd ∧
      lcLoop (lc2Turn g c w1 (lcTurn g1 c1 m vs1) vs vs1) (ds.drop i) s = .ok zs tf ∧ ys ++ zs.flatten = all.flatten
    refine ⟨fun i n H => n = ds.length - i ∧ LcI i H, ⟨ds.length - 0, rfl, F1, ex1, s1.wiped vs, [], [], all, ?_, ?_, .wiped, upd_same, .nil, nF1, fun z => nM1 (mu_wiped z), e2, rfl⟩, ?_⟩
    · exact (r1.wiped vs).other nF1 (fun z => nM1 (mu_wiped z)) (fun z => nB1 (NB.wiped.bo (let ⟨i, d, a, b⟩ := z; ⟨i, d, a, (wipe_some b).1⟩))) (fun q u z => by rw [hD] at z; cases z) (fun t => t.ext fun b o e => hne e)
    · exact ⟨⟨⟨fun _ _ _ e _ => .inl e, fun _ o e => ⟨o, e⟩, fun _ f => f, fun _ f => .inl f, fun a z => .inl (.inl (mu_wiped z)), fun t => t⟩, List.prefix_refl _, (fr.step st1).tb.ext fun b o e => hne e⟩, fun _ f => f, fun a o _ _ e => .inl (hne e)⟩
    rintro i n H ⟨rfl, F, ex, s, acc, ys, zs, r, fl, nb, hacc, ra, nF, nM, hl, hall⟩
    by_cases hlt : i < ds.length
    rotate_left
    · have e3 : ds.drop i = [] := List.drop_eq_nil_of_le (by omega)
      rw [e3] at hl
      cases hl
      rw [List.flatten_nil, List.append_nil] at hall
      subst hall
      have rb := r.back r1 ok fl.lm fl.lk
      have nbb : NB s1 (tf.back s1 vs) := nb.back ok
      have mub : ∀ a, Mu (putBack s1.ρ tf.ρ vs) σ ex a → Mu tf.ρ (L2.wipe σ vs) ex a := fun a z => z.imp_right (ow_back ok)
      have stp : Step F1 ex1 s1 σ H1 F ex (tf.back s1 vs) H := by
        refine ⟨⟨fun a o nt e n => fl.fr.grow.keep a o nt (hne e) (fun z => z.elim n fun z => by rw [z, hD] at e; cases e), fun a o e => fl.fr.grow.dom a o (hne e), fl.fr.grow.fmono, fun a f => ?_, fun a z => ?_, fun t => fl.fr.grow.tab (t.ext fun b o e => hne e)⟩, fl.fr.pre, nbb⟩
        · rcases fl.fr.grow.fnew a f with f | (z | z) | z
          · exact .inl f
          · exact .inr (.inl z)
          · exact absurd (by rw [← z]; exact f) nF
          · exact .inr (.inr (hno z))
        · rcases fl.fr.grow.mnew a (mub a z) with (z | z) | z
          · exact .inl z
          · rw [z]; exact .inr hD
          · exact .inr (hno z)
      refine .inl ⟨hJ.stop H i fl.lk (by omega), q F ex H rb (st1.trans stp) _ ?_⟩
      have zl : acc.length ≤ sizeLine := by rw [ra.length]; exact hz
      exact ⟨Dd, rfl, ⟨acc, hacc, zl, ra⟩, nF, fun z => nM (mub _ z), fun z => nB1 (nbb.bo z), st1.grow.none hD⟩
    refine .inr ⟨hJ.go H i fl.lk hlt, LcI (i + 1), fun H' w => ⟨ds.length - (i + 1), by omega, rfl, w⟩, fun x H3 y => ?_⟩
    obtain ⟨F3, nw, rf⟩ := hJ.yld H F i x H3 fl.lk fl.lm r.fdom y ds[i] (List.getElem?_eq_getElem hlt)
    have r3 := r.new nw
    have st3 : Step F ex s (L2.wipe σ vs) H F3 ex s H3 := ⟨nw.grow _, List.prefix_refl _, .refl⟩
    have fl3 := fl.step r st3
    have e3 : ds.drop i = ds[i] :: ds.drop (i + 1) := List.drop_eq_getElem_cons hlt
    rw [e3] at hl
    obtain ⟨o, s9, zs', ht, hl', rfl⟩ := lcLoop_cons hl
    obtain ⟨_, sg, eg, ht⟩ := bind_ok (m := g ds[i]) ht
    obtain ⟨b, sc, ec, ht⟩ := bind_ok (m := c) ht
    obtain ⟨hacc3, nM3, nF3⟩ := st3.stays nM nF nt_lst hacc
    refine ⟨en', F3, ex, s, ds[i], r3, fl3.fr, rf, ?_⟩
    rw [eg]
    intro σ2 tg r4 f4
    have wp : L2.wipe σ2 vs = L2.wipe σ vs := (swipe_ext (σ := L2.wipe σ vs) tg.len fun j hj => tg.off j fun z => hj (hts j z)).trans wipe_two
    have nM4 : ¬ Mu sg.ρ σ2 ex Dd := fun z => nM3 (z.imp_right (tg.ow _))
    have fl4 := fl3.with f4
    refine ⟨wp, en', F3, ex, sg, r4, f4, ?_⟩
    rw [ec]
    intro F5 ex5 H5 r5 st5
    have fl5 := fl4.step r4 st5
    obtain ⟨hacc5, nM5, nF5⟩ := st5.stays nM4 nF3 nt_lst hacc3
    have ra5 : RfA X.K F5 H5 acc ys := RfA.mono (fun a f => st5.grow.fmono a (nw.fmono a f)) (nw.kp.then nw.fmono (st5.grow.kp r4.dj)) ys ra
    have nb5 : NB s1 sc := nb.trans (tg.bo.trans st5.bo)
    -- behind a turn
    have fin : ∀ {F ex s H acc ys}, Rel X.K F ex s (L2.wipe σ2 vs) H → FromL en' ⟨F1, H1⟩ F ex s (L2.wipe σ2 vs) H → NB s1 s → H Dd = some (.lst acc) → RfA X.K F H acc ys → ¬ F Dd → ¬ Mu s.ρ (L2.wipe σ2 vs) ex Dd →
        lcLoop (lc2Turn g c w1 (lcTurn g1 c1 m vs1) vs vs1) (ds.drop (i + 1)) s = .ok zs' tf → ys ++ zs'.flatten = all.flatten → LcI (i + 1) H := fun {F ex s H acc ys} r fl nb ha ra nf nm hl hall => by
      rw [wp] at r fl nm
      exact ⟨F, ex, s, acc, ys, zs', r, fl, nb, ha, ra, nf, nm, hl, hall⟩
    have wiped : ∀ {F ex s σ0 H} (us : List Nat), Rel X.K F ex s σ0 H → FromL en' ⟨F1, H1⟩ F ex s σ0 H → Rel X.K F ex (s.wiped us) (L2.wipe σ0 us) H ∧ FromL en' ⟨F1, H1⟩ F ex (s.wiped us) (L2.wipe σ0 us) H := fun {F ex s σ0 H} us r fl =>
      ⟨r.wiped us, ⟨fl.fr.grow.weakM fun a z => mu_wiped z, fl.fr.pre, fl.fr.tb⟩, fl.lm, fl.lk⟩
    cases b with
    | false =>
      rw [if_neg Bool.false_ne_true] at ht
      cases ht
      obtain ⟨r6, fl6⟩ := wiped vs r5 fl5
      exact fin r6 fl6 (nb5.trans .wiped) hacc5 ra5 nF5 (fun z => nM5 (mu_wiped z)) hl' hall
    | true =>
      rw [if_pos rfl] at ht
      obtain ⟨ds1, sw, ew, ht⟩ := bind_ok (m := w1) ht
      obtain ⟨ys1, si, ei, ht⟩ := bind_ok (m := lc2In (lcTurn g1 c1 m vs1) vs1 ds1) ht
      cases ht
      have ei : lcLoop (lcTurn g1 c1 m vs1) ds1 (sw.wiped vs1) = .ok ys1 si := ei
      show iAny X.K xc w1 σ2 H5 _
      refine ⟨en', F5, ex5, sc, r5, fl5.fr, ?_⟩
      rw [ew]
      intro F6 ex6 H6 r6 st6 J1 hJ1
      have fl6 := fl5.step r5 st6
      obtain ⟨hacc6, nM6, nF6⟩ := st6.stays nM5 nF5 nt_lst hacc5
      have ra6 : RfA X.K F6 H6 acc ys := RfA.mono st6.grow.fmono (st6.grow.kp r5.dj) ys ra5
      have nb6 : NB s1 sw := nb5.trans st6.bo
      let LcJ : Nat → Hp → Prop := fun j H => ∃ F ex s acc us zs, Rel X.K F ex s (L2.wipe σ2 vs1) H ∧ FromL en' ⟨F1, H1⟩ F ex s (L2.wipe σ2 vs1) H ∧ (∀ a, F6 a → F a) ∧ Kp F6 H6 H ∧ NB s1 s ∧ H Dd = some (.lst acc) ∧ RfA X.K F H acc (ys ++ us) ∧ ¬ F Dd ∧ ¬ Mu s.ρ (L2.wipe σ2 vs1) ex Dd ∧
        lcLoop (lcTurn g1 c1 m vs1) (ds1.drop j) s = .ok zs si ∧ us ++ zs = ys1
      obtain ⟨r7, fl7⟩ := wiped vs1 r6 fl6
      refine ⟨fun j n H => n = ds1.length - j ∧ LcJ j H, ⟨ds1.length - 0, rfl, F6, ex6, sw.wiped vs1, acc, [], ys1, r7, fl7, fun _ z => z, .of fun _ _ _ _ z => z, nb6.trans .wiped, hacc6, by rw [List.append_nil]; exact ra6, nF6, fun z => nM6 (mu_wiped z), ei, rfl⟩, ?_⟩
      rintro j n H ⟨rfl, F, ex, s, acc, us, zs, r, fl, jm, jk, nb, hacc, ra, nF, nM, hl1, hus⟩
      by_cases hlt1 : j < ds1.length
      rotate_left
      · have e4 : ds1.drop j = [] := List.drop_eq_nil_of_le (by omega)
        rw [e4] at hl1
        cases hl1
        rw [List.append_nil] at hus
        subst hus
        refine .inl ⟨hJ1.stop H j jk (by omega), ?_⟩
        obtain ⟨r8, fl8⟩ := wiped vs r fl
        rw [wipe_in hv] at r8 fl8
        refine fin r8 fl8 (nb.trans .wiped) hacc ra nF (fun z => nM ?_) hl' (by rw [List.append_assoc]; exact hall)
        rw [← wipe_in hv] at z
        exact mu_wiped z
      refine .inr ⟨hJ1.go H j jk hlt1, LcJ (j + 1), fun H' w => ⟨ds1.length - (j + 1), by omega, rfl, w⟩, fun x1 H8 y1 => ?_⟩
      obtain ⟨F8, nw1, rf1⟩ := hJ1.yld H F j x1 H8 jk jm r.fdom y1 ds1[j] (List.getElem?_eq_getElem hlt1)
      have r8 := r.new nw1
      have st8 : Step F ex s (L2.wipe σ2 vs1) H F8 ex s H8 := ⟨nw1.grow _, List.prefix_refl _, .refl⟩
      have fl8 := fl.step r st8
      have e4 : ds1.drop j = ds1[j] :: ds1.drop (j + 1) := List.drop_eq_getElem_cons hlt1
      rw [e4] at hl1
      obtain ⟨o1, s19, zs1, ht1, hl2, rfl⟩ := lcLoop_cons hl1
      obtain ⟨_, sg1, eg1, ht1⟩ := bind_ok (m := g1 ds1[j]) ht1
      obtain ⟨b1, sc1, ec1, ht1⟩ := bind_ok (m := c1) ht1
      obtain ⟨hacc8, nM8, nF8⟩ := st8.stays nM nF nt_lst hacc
      refine ⟨en', F8, ex, s, ds1[j], r8, fl8.fr, rf1, ?_⟩
      rw [eg1]
      intro σ3 tg1 r9 f9
      have wp1 : L2.wipe σ3 vs1 = L2.wipe σ2 vs1 := (swipe_ext (σ := L2.wipe σ2 vs1) tg1.len fun j hj => tg1.off j fun z => hj (hts1 j z)).trans wipe_two
      have nM9 : ¬ Mu sg1.ρ σ3 ex Dd := fun z => nM8 (z.imp_right (tg1.ow _))
      have fl9 := fl8.with f9
      refine ⟨wp1, en', F8, ex, sg1, r9, f9, ?_⟩
      rw [ec1]
      intro Fa exa Ha rla sta
      have fla := fl9.step r9 sta
      obtain ⟨hacca, nMa, nFa⟩ := sta.stays nM9 nF8 nt_lst hacc8
      have kpa : Kp F H Ha := nw1.kp.then nw1.fmono (sta.grow.kp r9.dj)
      have fma : ∀ a, F a → Fa a := fun a f => sta.grow.fmono a (nw1.fmono a f)
      have raa : RfA X.K Fa Ha acc (ys ++ us) := RfA.mono fma kpa _ ra
      have nba : NB s1 sc1 := nb.trans (tg1.bo.trans sta.bo)
      have jka : Kp F6 H6 Ha := jk.then jm kpa
      have jma : ∀ a, F6 a → Fa a := fun a f => fma a (jm a f)
      cases b1 with
      | false =>
        rw [if_neg Bool.false_ne_true] at ht1
        cases ht1
        obtain ⟨rb, flb⟩ := wiped vs1 rla fla
        rw [wp1] at rb flb
        exact ⟨Fa, exa, sc1.wiped vs1, acc, us, zs1, rb, flb, jma, jka, nba.trans .wiped, hacca, raa, nFa, fun z => nMa (by rw [← wp1] at z; exact mu_wiped z), hl2, hus⟩
      | true =>
        rw [if_pos rfl] at ht1
        show eAny X.K xc m σ3 Ha _
        obtain ⟨y, sm, em, ht1⟩ := bind_ok (m := mFrz m) ht1
        cases ht1
        refine ⟨en', Fa, exa, sc1, rla, fla.fr, ?_⟩
        rw [em]
        intro Fb exb Hb rb stb xv rx
        have rx : Rf X.K Fb Hb xv y := rx
        have flb := fla.step rla stb
        obtain ⟨haccb, nMb, nFb⟩ := stb.stays nMa nFa nt_lst hacca
        have rab : RfA X.K Fb Hb acc (ys ++ us) := RfA.mono stb.grow.fmono (stb.grow.kp rla.dj) _ raa
        have nbb : NB s1 sm := nba.trans stb.bo
        have la : acc.length + 1 ≤ sizeLine := by
          rw [ra.length]
          have h1 := congrArg List.length hall
          have h2 := congrArg List.length hus
          simp only [List.length_append, List.length_cons, List.flatten_cons] at h1 h2 ⊢
          omega
        have kpb : Kp Fb Hb (upd Hb Dd (.lst (acc ++ [xv]))) := .of fun a u f _ z => by
          rw [upd_ne (fun q => nFb (by rw [← q]; exact f))]; exact z
        obtain ⟨rc, flc⟩ := wiped vs1 rb flb
        rw [wp1] at rc flc
        have nMc : ¬ Mu (wipe sm.ρ vs1) (L2.wipe σ2 vs1) exb Dd := fun z => nMb (by rw [← wp1] at z; exact mu_wiped z)
        have nbc : NB s1 (sm.wiped vs1) := nbb.trans .wiped
        have nBc : ¬ Bo (wipe sm.ρ vs1) (L2.wipe σ2 vs1) Dd := fun z => by
          obtain ⟨k, d, ek, eσ⟩ := z
          obtain ⟨d', e'⟩ := nbc k d ek
          have hk : k ∉ vs := fun hm => by
            have := List.all_eq_true.mp ok k hm
            rw [e'] at this
            cases this
          have eσ := (wipe_some eσ).1
          rw [← wipe_out (σ := σ2) hk, wp, wipe_out hk] at eσ
          exact nB1 ⟨k, d', e', eσ⟩
        have rd := rc.other (p := Dd) (o := .lst (acc ++ [xv])) nFb nMc nBc (fun q u z => by rw [haccb] at z; cases z) (fun t => tabs_at haccb nt_lst (fun f z => nomatch z) t)
        refine ⟨acc, haccb, la, Fb, exb, sm.wiped vs1, acc ++ [xv], us ++ [y], zs1, rd, ⟨⟨⟨fun a o nt e n => ?_, fun a o e => ?_, flc.fr.grow.fmono, flc.fr.grow.fnew, flc.fr.grow.mnew, fun t => tabs_at haccb nt_lst (fun f z => nomatch z) (flc.fr.grow.tab t)⟩, flc.fr.pre, tabs_at haccb nt_lst (fun f z => nomatch z) flc.fr.tb⟩, flc.lm, fun a o f nt e => ?_⟩, fun a f => stb.grow.fmono a (jma a f), (jka.then jma (stb.grow.kp rla.dj)).then (fun a f => stb.grow.fmono a (jma a f)) kpb, nbc, upd_same, ?_, nFb, nMc, hl2, ?_⟩
        · exact (flc.fr.grow.keep a o nt e n).upd fun q => n (.inr q)
        · obtain ⟨o', e'⟩ := flc.fr.grow.dom a o e
          by_cases q : a = Dd
          · exact ⟨_, by rw [q]; exact upd_same⟩
          · exact ⟨o', by rw [upd_ne q]; exact e'⟩
        · exact (flc.lk a o f nt e).upd fun q => nF1 (by rw [← q]; exact f)
        · rw [← List.append_assoc]
          exact RfA.append (RfA.mono (fun _ f => f) kpb _ rab) (.cons (Rf.mono (fun _ f => f) kpb _ rx) .nil)
        · rw [List.append_assoc]; exact hus
theorem d_lc2 {elt tg iter tg1 iter1 : Expr} {ifs ifs1 : List Expr} {scope : Scope} {own : List (Str × Nat)} {ts ts1 vs1 : List Nat} {m : M Val} {w w1 : M (List D)} {c c1 : M Bool} (hc : X.calm = true) (hN : X.N.Nodup) (hi : PI X tg iter (TI' X.K xc en Wi w)) (ok : BlkOk X.N X.env.scope scope own)
    (hts : ∀ j ∈ ts, j ∈ own.map (·.2)) (hts1 : ∀ j ∈ ts1, j ∈ vs1) (hv : ∀ j ∈ vs1, j ∈ own.map (·.2))
    (hg : ∀ (s : Shared) (H : Hp) (C : Addr) (cl : List (Str × Addr)) (fp : List Addr), PG (X.blk s H scope (compEnvC scope cl C X.env) fp) tg (gAny X.K xc.T ts g))
    (ht : ∀ (s : Shared) (H : Hp) (C : Addr) (cl : List (Str × Addr)) (fp : List Addr), PTs (X.blk s H scope (compEnvC scope cl C X.env) fp) ifs (tAny X.K xc c))
    (hi1 : ∀ (s : Shared) (H : Hp) (C : Addr) (cl : List (Str × Addr)) (fp : List Addr), PI (X.blk s H scope (compEnvC scope cl C X.env) fp) tg1 iter1 (iAny X.K xc w1))
    (hg1 : ∀ (s : Shared) (H : Hp) (C : Addr) (cl : List (Str × Addr)) (fp : List Addr), PG (X.blk s H scope (compEnvC scope cl C X.env) fp) tg1 (gAny X.K xc.T ts1 g1))
    (ht1 : ∀ (s : Shared) (H : Hp) (C : Addr) (cl : List (Str × Addr)) (fp : List Addr), PTs (X.blk s H scope (compEnvC scope cl C X.env) fp) ifs1 (tAny X.K xc c1))
    (he : ∀ (s : Shared) (H : Hp) (C : Addr) (cl : List (Str × Addr)) (fp : List Addr), PE (X.blk s H scope (compEnvC scope cl C X.env) fp) elt (eAny X.K xc m)) (hs : ∀ x, foldedSetIterable iter X.env x = pure x) (hs1 : ∀ env x, foldedSetIterable iter1 env x = pure x) :
    PEd X xc en Wi (.ListComp elt [⟨tg, iter, ifs, 0⟩, ⟨tg1, iter1, ifs1, 0⟩] scope pos) (mLc2 m g w c g1 w1 c1 (own.map (·.2)) vs1) :=
  PE.imp (pe_lc2 hc hN hi ok hv hg ht hi1 hg1 ht1 he hs hs1) fun σ H Q h => lc2_den hts hts1 hv h
theorem k_setLc2 {i : Nat} {y : Str} {py spos : Pos} {elt tg iter tg1 iter1 : Expr} {ifs ifs1 : List Expr} {scope : Scope} {own : List (Str × Nat)} {ts ts1 vs1 : List Nat} {m : M Val} {w w1 : M (List D)} {c c1 : M Bool} (hc : X.calm = true) (hN : X.N.Nodup) (hy : X.N[i]? = some y) (hyl : X.env.scope.names.lookup y = some .local)
    (hsw : swapsWith (.ListComp elt [⟨tg, iter, ifs, 0⟩, ⟨tg1, iter1, ifs1, 0⟩] scope pos) (some (.Name y py)) spos.line X.env = pure true) (hi : PI X tg iter (TI' X.K xc en Wi w)) (ok : BlkOk X.N X.env.scope scope own)
    (hts : ∀ j ∈ ts, j ∈ own.map (·.2)) (hts1 : ∀ j ∈ ts1, j ∈ vs1) (hv : ∀ j ∈ vs1, j ∈ own.map (·.2))
    (hg : ∀ (s : Shared) (H : Hp) (C : Addr) (cl : List (Str × Addr)) (fp : List Addr), PG (X.blk s H scope (compEnvC scope cl C X.env) fp) tg (gAny X.K xc.T ts g))
    (ht : ∀ (s : Shared) (H : Hp) (C : Addr) (cl : List (Str × Addr)) (fp : List Addr), PTs (X.blk s H scope (compEnvC scope cl C X.env) fp) ifs (tAny X.K xc c))
    (hi1 : ∀ (s : Shared) (H : Hp) (C : Addr) (cl : List (Str × Addr)) (fp : List Addr), PI (X.blk s H scope (compEnvC scope cl C X.env) fp) tg1 iter1 (iAny X.K xc w1))
    (hg1 : ∀ (s : Shared) (H : Hp) (C : Addr) (cl : List (Str × Addr)) (fp : List Addr), PG (X.blk s H scope (compEnvC scope cl C X.env) fp) tg1 (gAny X.K xc.T ts1 g1))
    (ht1 : ∀ (s : Shared) (H : Hp) (C : Addr) (cl : List (Str × Addr)) (fp : List Addr), PTs (X.blk s H scope (compEnvC scope cl C X.env) fp) ifs1 (tAny X.K xc c1))
    (he : ∀ (s : Shared) (H : Hp) (C : Addr) (cl : List (Str × Addr)) (fp : List Addr), PE (X.blk s H scope (compEnvC scope cl C X.env) fp) elt (eAny X.K xc m)) (hs : ∀ x, foldedSetIterable iter X.env x = pure x) (hs1 : ∀ env x, foldedSetIterable iter1 env x = pure x) :
    PS X (.Assign [.Name y py] (.ListComp elt [⟨tg, iter, ifs, 0⟩, ⟨tg1, iter1, ifs1, 0⟩] scope pos) spos) (TS' X.K xc en Wi (kSet i (mLc2 m g w c g1 w1 c1 (own.map (·.2)) vs1))) :=
  PS.imp (ps_setLc2 hc hN hy hyl hsw hi ok hv hg ht hi1 hg1 ht1 he hs hs1) fun D σ H h => lc2_den hts hts1 hv (set_core h)
end
end Ded
end

section
set_option Elab.async false
set_option linter.all false
set_option maxRecDepth 100000
/-! Comprehensions of two fors, whatever they make: first what a clause's loop does. -/
namespace Ded
open PySem L2 PySem.Spec PyProof.Rows
/-- one lap of a clause: something is drawn, stored and tested; then use -/
def lapOf (p : Pos) (tg : Expr) (ifs : List Expr) (it : Value) (env : Env) (use : Sem Fin) (c : Code) : Sem Fin := do
  standAt p
  match ← pyNext it with
  | none => pure (.done .next)
  | some v =>
    letOwnedTupleGo tg it v
    assign tg env v
    let mut go := true
    for x in ifs do
      if go then go ← isTrue x env (eval x env)
    if go then use else again c
/-- rounds until the iterator has no more -/
def tLaps (J : It) (g : TG) (tt : TT) (σ : L2.St) (vs : List Nat) (body : L2.St → Hp → (Hp → Prop) → Prop) (H0 : Hp) (Done : Hp → Prop) : Prop :=
  ∃ W : Nat → Nat → Hp → Prop, (∃ m, W 0 m H0) ∧ ∀ i m H, W i m H → (J.stop i H ∧ Done H) ∨ (J.go i H ∧ ∃ Nx : Hp → Prop, (∀ H', Nx H' → ∃ m', m' < m ∧ W (i + 1) m' H') ∧
    ∀ x H', J.yld i H x H' → g x (L2.wipe σ vs) H' fun σ2 H2 => L2.wipe σ2 vs = L2.wipe σ vs ∧ tt σ2 H2 fun b H3 => if b = true then body σ2 H3 Nx else Nx H3)
/-- slots that know what is left of others when vs are wiped -/
def Knows (vs : List Nat) (σ σ' : L2.St) : Prop := (L2.wipe σ vs).length = σ'.length ∧ ∀ (j : Nat) v, (L2.wipe σ vs)[j]? = some (some v) → σ'[j]? = some (some v)
theorem Knows.self {vs : List Nat} {σ : L2.St} : Knows vs σ σ := ⟨wipe_length _ _, fun _ _ e => (L2.wipe_some e).1⟩
theorem laps_ok {Y : Cx} {c tg : Expr} {k : Nat} {ifs : List Expr} {it : Addr} {acc : Value} {p : Pos} {use : Sem Fin} {fp : List Addr} {tn : Nat → Heap → Prop} {J : It} {g : TG} {tt : TT} {vs : List Nat} {body : L2.St → Hp → (Hp → Prop) → Prop} {Done : Hp → Prop} {R : Result → Shared → Prop} {pins : List (Addr × Obj)} {σ : L2.St} {s : Shared} {H : Hp}
    (hx : Y.xe = fun _ _ => False) (hc : Y.calm = true)
    (hdn : ∀ (Q : Fin → Shared → Prop) (E : Value → Shared → Prop) s', wpAny (model Y.prog Y.w) Y.A ((compTurn c k (.ref it) acc Y.env).onRaise (fun x => do noteFrame x Y.env; theTreesLotGoes x)) Q E s' → wpAny (model Y.prog Y.w) (Y.A.under (.compLoop c k (.ref it) acc Y.env)) ((model Y.prog Y.w).den (.compLoop c k (.ref it) acc Y.env)) Q E s') (shape : compTurn c k (.ref it) acc Y.env = lapOf p tg ifs (.ref it) Y.env use (.compLoop c k (.ref it) acc Y.env)) (T : Turn Y.prog Y.w Y.K tg J fp it tn) (pg : PG Y tg g) (pt : PTs Y ifs tt)
    (stat : ∀ {σ' : L2.St} {H' : Hp} {s' : Shared}, Inv Y pins σ' H' s' → (∀ b ∈ fp, H' b = none) → ∀ b ∈ fp, FpOk Y pins H' b)
    (inner : ∀ (pl : List (Addr × Obj)) (s' : Shared) (σ2 : L2.St) (H3 : Hp) (Nx : Hp → Prop), Inv Y (pins ++ pl) σ2 H3 s' → body σ2 H3 Nx → wpAny (model Y.prog Y.w) Y.A use (fun fin s'' => fin = .again (.compLoop c k (.ref it) acc Y.env) ∧ ∃ σ' H', Inv Y (pins ++ pl) σ' H' s'' ∧ Knows vs σ2 σ' ∧ Nx H') (fun _ _ => False) s')
    (done : ∀ H' s', Done H' → Inv Y pins (L2.wipe σ vs) H' s' → R (.ok .next) s')
    (I : Inv Y pins (L2.wipe σ vs) H s) (st : tn 0 s.heap) (free : ∀ b ∈ fp, H b = none) (h : tLaps J g tt σ vs body H Done) : codeAny (model Y.prog Y.w) Y.A (.compLoop c k (.ref it) acc Y.env) R s := by
  obtain ⟨W, ⟨first, w0⟩, turn⟩ := h
  refine codeAny_loop rfl (fun n s' => ∃ i H', Inv Y pins (L2.wipe σ vs) H' s' ∧ tn i s'.heap ∧ (∀ b ∈ fp, H' b = none) ∧ W i n H') ?_ first ⟨0, H, I, st, free, w0⟩
  rintro n s0 ⟨i, H0, I0, st0, free0, w⟩
  refine hdn _ _ _ (wpAny_noted ?_)
  rw [shape]
  refine wpAny_bind (wpAny_standAt (wpAny_bind ?_)); have run := pg.run
  have ask := pt.run
  rw [hx] at run ask
  rcases turn i n H0 w with ⟨stop, d⟩ | ⟨go, Nx, hNx, step⟩
  · refine thnF (T.done Y rfl rfl rfl hc i pins s0 _ H0 (fun _ _ => False) I0 (stat I0 free0) st0 stop) fun r s1 ⟨hr, I1⟩ => ?_
    subst hr
    exact wpAny_pure (done H0 s1 d I1)
  refine thnF (T.item Y rfl rfl rfl hc i pins s0 _ H0 (fun _ _ => False) I0 (stat I0 free0) st0 go) fun r s1 ⟨u, hr, h1⟩ => ?_
  subst hr
  refine wpAny_bind (thnF h1 fun _ s2 ⟨x, H2, I2, rx, y, st2, free2⟩ => ?_)
  have behind : ∀ {σ' : L2.St} {H' : Hp} {s' : Shared} {σ2 : L2.St}, Inv Y (pins ++ pinsAt fp s2.heap) σ' H' s' → L2.wipe σ2 vs = L2.wipe σ vs → Knows vs σ2 σ' → Nx H' → ∃ m, m < n ∧ ∃ i H', Inv Y pins (L2.wipe σ vs) H' s' ∧ tn i s'.heap ∧ (∀ b ∈ fp, H' b = none) ∧ W i m H' := fun {σ' H' s' σ2} I' e kn nx => by
    obtain ⟨m', lt, w'⟩ := hNx H' nx
    rw [Knows, e] at kn
    have held : ∀ b ∈ fp, ∀ o, s2.heap.get? b = some o → s'.heap.get? b = some o ∧ H' b = none := fun b hb o eo => by
      obtain ⟨z1, z2, _⟩ := I'.pin (b, o) (List.mem_append_right _ (List.mem_append_right _ (mem_pinsAt hb eo)))
      exact ⟨z1, z2⟩
    refine ⟨m', lt, i + 1, H', I'.unpinned.weak kn.1 kn.2, T.keep _ _ _ st2 fun b hb o eo => (held b hb o eo).1, fun b hb => ?_, w'⟩
    obtain ⟨o, eo, kept⟩ := T.obj _ _ st2 b hb
    exact (held b hb o eo).2
  refine wpAny_bind (thnF (run _ s2 _ H2 x u _ (I2.pinned (stat I2 free2) (T.obj _ _ st2)) rx (step x H2 y)) fun _ sN ⟨σ3, H3, IN, same, q3⟩ => ?_)
  refine wpAny_bind (thnF (ask _ sN σ3 H3 _ IN q3) fun b sB ⟨H4, IB, q4⟩ => ?_)
  cases b with
  | false =>
    rw [if_neg Bool.false_ne_true] at q4
    exact wpAny_pure ⟨rfl, behind IB same .self q4⟩
  | true =>
    rw [if_pos rfl] at q4
    refine thnF (inner _ sB σ3 H4 Nx IB q4) fun fin s5 ⟨hf, σ5, H5, I5, kn, nx⟩ => ?_
    subst hf
    exact ⟨rfl, behind I5 same kn nx⟩
section
variable {X : Cx} {kx vx tg iter tg1 iter1 : Expr} {ifs ifs1 : List Expr} {scope : Scope} {own : List (Str × Nat)} {vs1 : List Nat} {pos : Pos} {wi wi1 : TI} {g g1 : TG} {tt tt1 : TT} {tk tv : TE}
/-- one entry of the new dict -/
def tEnt (tk tv : TE) (D : Addr) : L2.St → Hp → (Hp → Prop) → Prop := fun σ H Nx => tk σ H fun y H1 => tv σ H1 fun z H2 => ∃ kvs k, y = kV k ∧ H2 D = some (.dK kvs) ∧ kvs.length < sizeLine ∧ Nx (upd H2 D (.dK (putK kvs k z)))
/-- {k: v for tg in iter if .. for tg1 in iter1 if ..} -/
def tDc2 (wi : TI) (g : TG) (tt : TT) (wi1 : TI) (g1 : TG) (tt1 : TT) (tk tv : TE) (vs vs1 : List Nat) : TE := fun σ H Q => wi σ H fun J H1 => ∀ D, H1 D = none →
  tLaps J g tt σ vs (fun σ2 H3 Nx => wi1 σ2 H3 fun J1 H4 => tLaps J1 g1 tt1 σ2 vs1 (tEnt tk tv D) H4 Nx) (upd H1 D (.dK [])) fun H2 => Q (.ref D) H2
/-- the code of an entry -/
def entCode (kx vx : Expr) (D : Addr) (env : Env) : Sem Unit := do
  let k ← eval kx env
  let v ← holding [k] (eval vx env)
  standAt { kx.pos with endCol := vx.pos.endCol, endLine := vx.pos.endLine }
  holding [k, v] (dictSet D k v)
theorem ent_ok {Y : Cx} (hx : Y.xe = fun _ _ => False) (pk : PE Y kx tk) (pv : PE Y vx tv) {pins : List (Addr × Obj)} {σ : L2.St} {H : Hp} {s : Shared} {D : Addr} {Nx : Hp → Prop} {vs : List Nat} (I : Inv Y pins σ H s) (h : tEnt tk tv D σ H Nx) :
    wpAny (model Y.prog Y.w) Y.A (entCode kx vx D Y.env) (fun _ s' => ∃ σ' H', Inv Y pins σ' H' s' ∧ Knows vs σ σ' ∧ Nx H') (fun _ _ => False) s := by
  have k1 := pk.run pins s σ H _ I h
  have v1 := pv.run
  rw [hx] at k1 v1
  refine wpAny_bind (thnF k1 fun u s1 ⟨y, H1, I1, r1, q1⟩ => ?_)
  refine wpAny_bind (wpAny_holding (thnF (v1 pins s1 σ H1 _ I1 q1) fun z s2 ⟨b, H2, I2, r2, kvs, k, e, hD, hl, nx⟩ => ?_))
  subst e
  exact wpAny_bind (wpAny_standAt (wpAny_holding (d_dictSet I2 hD hl r1 r2 fun sN IN => ⟨σ, _, IN, .self, nx⟩)))
/-- the code of the second clause -/
def nextCode (c iter1 : Expr) (acc it : Value) (env : Env) : Sem Fin := do
  let x ← eval iter1 env
  standAt iter1.pos
  let x ← foldedSetIterable iter1 env x
  let _ ← runOwn (.compStart c 1 (← holding [x] (pyIter x)) acc env) env
  again (.compLoop c 0 it acc env)
abbrev dc2 (kx vx tg iter : Expr) (ifs : List Expr) (tg1 iter1 : Expr) (ifs1 : List Expr) (scope : Scope) (pos : Pos) : Expr := .DictComp kx vx [⟨tg, iter, ifs, 0⟩, ⟨tg1, iter1, ifs1, 0⟩] scope pos
theorem shape0 (it : Value) (D : Addr) (env : Env) : compTurn (dc2 kx vx tg iter ifs tg1 iter1 ifs1 scope pos) 0 it (.ref D) env = lapOf iter.pos tg ifs it env (nextCode (dc2 kx vx tg iter ifs tg1 iter1 ifs1 scope pos) iter1 (.ref D) it env) (.compLoop (dc2 kx vx tg iter ifs tg1 iter1 ifs1 scope pos) 0 it (.ref D) env) := by rfl
theorem shape1 (it : Value) (D : Addr) (env : Env) : compTurn (dc2 kx vx tg iter ifs tg1 iter1 ifs1 scope pos) 1 it (.ref D) env = lapOf iter1.pos tg1 ifs1 it env (entCode kx vx D env >>= fun _ => again (.compLoop (dc2 kx vx tg iter ifs tg1 iter1 ifs1 scope pos) 1 it (.ref D) env)) (.compLoop (dc2 kx vx tg iter ifs tg1 iter1 ifs1 scope pos) 1 it (.ref D) env) := by rfl
/-- the second clause begins -/
theorem start1 {prog : Program} {w : World} {A : Around} {R : Result → Shared → Prop} {s : Shared} {it : Value} {D : Addr} {env : Env} (loop : ∀ s', s' = s → codeAny (model prog w) A (.compLoop (dc2 kx vx tg iter ifs tg1 iter1 ifs1 scope pos) 1 it (.ref D) env) R s')
    (again : ∀ {Q E}, Q it s → wpAny (model prog w) A (pyIter it) Q E s) : codeAny (model prog w) A (.compStart (dc2 kx vx tg iter ifs tg1 iter1 ifs1 scope pos) 1 it (.ref D) env) R s := by
  refine codeAny_of_tree ?_
  show wpAny _ A ((compStart (dc2 kx vx tg iter ifs tg1 iter1 ifs1 scope pos) 1 it (.ref D) env).onRaise (fun x => do noteFrame x env; standAt theWindowsPlace)) _ _ s
  refine wpAny_notedAt ?_
  unfold compStart
  show wpAny (model prog w) A (ask >>= _) _ _ s; refine wpAny_bind (wpAny_askSetting (wpAny_ite ?_))
  split
  · first
      | exact wpAny_pure ⟨rfl, loop s rfl⟩
      | exact wpAny_bind (wpAny_pure (wpAny_pure ⟨rfl, loop s rfl⟩))
  · refine wpAny_bind (wpAny_rule ?_); show wpAny _ _ (standAt iter1.pos >>= _) _ _ s
    exact wpAny_bind (wpAny_standAt (wpAny_bind (again (wpAny_pure ⟨rfl, loop s rfl⟩))))
/-- both loops -/
theorem dc2_core [TabName] {pins : List (Addr × Obj)} {s : Shared} {σ : L2.St} {H : Hp} {Q : VK} {use : Option (Value → Sem Unit)} {Qf : Value → Shared → Prop} {pos2 : Pos} (hc : X.calm = true) (hN : X.N.Nodup) (hi : PI X tg iter wi) (ok : BlkOk X.N X.env.scope scope own) (hv : ∀ i ∈ vs1, i ∈ own.map (·.2))
    (hg : ∀ (s : Shared) (H : Hp) (a : Addr) (cl : List (Str × Addr)) (us : List Addr), PG (X.blk s H scope (compEnvC scope cl a X.env) us) tg g)
    (ht : ∀ (s : Shared) (H : Hp) (a : Addr) (cl : List (Str × Addr)) (us : List Addr), PTs (X.blk s H scope (compEnvC scope cl a X.env) us) ifs tt)
    (nI : ∀ (s : Shared) (H : Hp) (a : Addr) (cl : List (Str × Addr)) (us : List Addr), PI (X.blk s H scope (compEnvC scope cl a X.env) us) tg1 iter1 wi1)
    (nG : ∀ (s : Shared) (H : Hp) (a : Addr) (cl : List (Str × Addr)) (us : List Addr), PG (X.blk s H scope (compEnvC scope cl a X.env) us) tg1 g1)
    (nT : ∀ (s : Shared) (H : Hp) (a : Addr) (cl : List (Str × Addr)) (us : List Addr), PTs (X.blk s H scope (compEnvC scope cl a X.env) us) ifs1 tt1)
    (nK : ∀ (s : Shared) (H : Hp) (a : Addr) (cl : List (Str × Addr)) (us : List Addr), PE (X.blk s H scope (compEnvC scope cl a X.env) us) kx tk)
    (he : ∀ (s : Shared) (H : Hp) (a : Addr) (cl : List (Str × Addr)) (us : List Addr), PE (X.blk s H scope (compEnvC scope cl a X.env) us) vx tv)
    (hs : ∀ x, foldedSetIterable iter X.env x = pure x) (hs1 : ∀ env x, foldedSetIterable iter1 env x = pure x) (I : Inv X pins σ H s) (h : tDc2 wi g tt wi1 g1 tt1 tk tv (own.map (·.2)) vs1 σ H Q)
    (then_ : ∀ D C s' m H', Inv X pins σ H' s' → Q (.ref D) H' → s'.heap.Ns C m → FpOk X pins H' C → compPost (model X.prog X.w) X.A X.xe use Qf (.ref D) C (.ok .next) s') :
    wpAny (model X.prog X.w) X.A (comprehension (dc2 kx vx tg iter ifs tg1 iter1 ifs1 scope pos) scope X.env pos2 newDict false (eval iter X.env) use) Qf X.xe s := by
  have outer : ∀ y ∈ scope.names, y.2 = .free → ∃ c, X.env.cells.lookup y.1 = some c := fun y hy e => (ok.free y hy e).elim (fun k => I.ok.has _ (.inl k)) fun k => I.ok.has _ (.inr k)
  refine wpAny_comprehension_free (use := use) rfl hs (closure_ok outer) ok.kind (fun y hy e => by rw [ok.uniq y hy, e]) (thn (hi.run pins s σ H _ I h) fun xv s1 z => thn z fun itv s2 z2 => ?_)
  obtain ⟨it, fp, tn, J, H2, rfl, I2, T, st2, f2, q⟩ := z2
  refine wpAny_newObj_type (newEnv_comp ?_); -- the new dict
  obtain ⟨D, hD⟩ : ∃ D, D = s2.heap.objs.size := ⟨_, rfl⟩
  rw [← hD]
  have rounds := q D (I2.hok.fresh (Nat.le_of_eq hD.symm))
  obtain ⟨sN, eN⟩ : ∃ sN : Shared, sN = { s2 with heap := s2.heap.push { cls := .type "dict", data := .dict #[] } } := ⟨_, rfl⟩
  have eH : sN.heap = s2.heap.push { cls := .type "dict", data := .dict #[] } := by rw [eN]
  have IN : Inv X pins σ (upd H2 D (.dK [])) sN := by
    rw [eN, hD]
    exact I2.laid (t' := s2.toks) (fun b o e => Heap.get?_push_of_some _ e) (Nat.le_refl _) (dk_empty s2.heap I2.big)
  have young : ∀ b ∈ fp, FpOk X pins (upd H2 D (.dK [])) b ∧ b < sN.heap.objs.size := fun b hb => by
    obtain ⟨o, eo, _⟩ := T.obj _ _ st2 b hb
    have lt := Heap.lt_size eo
    obtain ⟨n0, rest⟩ := f2 b hb
    refine ⟨⟨(upd_ne (by rw [hD]; exact Nat.ne_of_lt lt)).trans n0, rest⟩, ?_⟩
    rw [eH, Heap.size_push]
    exact Nat.lt_succ_of_lt lt
  have stN : tn 0 sN.heap := T.keep _ _ _ st2 fun b _ o e => by rw [eH]; exact Heap.get?_push_of_some _ e
  have IB := block_start IN ok hN young
  rw [← eN]
  generalize hcl : cellsFrom (sN.heap.objs.size + 1) scope.names (cloFrom X.env.cells scope.names []) = cl at IB ⊢
  have pg := hg sN (upd H2 D (.dK [])) sN.heap.objs.size cl fp
  have pt := ht sN (upd H2 D (.dK [])) sN.heap.objs.size cl fp
  have pi1 := nI sN (upd H2 D (.dK [])) sN.heap.objs.size cl fp
  have pg1 := nG sN (upd H2 D (.dK [])) sN.heap.objs.size cl fp
  have pt1 := nT sN (upd H2 D (.dK [])) sN.heap.objs.size cl fp
  have pk := nK sN (upd H2 D (.dK [])) sN.heap.objs.size cl fp
  have pv := he sN (upd H2 D (.dK [])) sN.heap.objs.size cl fp
  show codeAny _ _ (.compStart (dc2 kx vx tg iter ifs tg1 iter1 ifs1 scope pos) 0 (.ref it) (.ref D) (compEnvC scope cl sN.heap.objs.size X.env)) (compPost (model X.prog X.w) X.A X.xe use Qf (.ref D) sN.heap.objs.size) { sN with heap := pushCells (sN.heap.push { cls := .type "dict", data := .dict #[] }) scope.names }
  have ye : (X.blk sN (upd H2 D (.dK [])) scope (compEnvC scope cl sN.heap.objs.size X.env) fp).env = compEnvC scope cl sN.heap.objs.size X.env := rfl
  generalize hce : compEnvC scope cl sN.heap.objs.size X.env = ce at IB pg pt pi1 pg1 pt1 pk pv ye ⊢
  have cL : ce.locals = sN.heap.objs.size := by rw [← hce]; rfl
  generalize hB : ({ sN with heap := pushCells (sN.heap.push { cls := .type "dict", data := .dict #[] }) scope.names } : Shared) = sB at IB ⊢
  have stB : tn 0 sB.heap := T.keep _ _ _ stN fun b _ o e => by rw [← hB]; exact pushCells_keeps _ _ _ _ (Heap.get?_push_of_some _ e)
  have none4 : ∀ b ∈ fp, upd H2 D (.dK []) b = none := fun b hb => (young b hb).1.1
  have free : ∀ {pl : List (Addr × Obj)} {σ' : L2.St} {H' : Hp} {s' : Shared}, pl = [] → Inv (X.blk sN (upd H2 D (.dK [])) scope ce fp) pl σ' H' s' → (∀ b ∈ fp, H' b = none) → ∀ b ∈ fp, FpOk (X.blk sN (upd H2 D (.dK [])) scope ce fp) pl H' b := fun {pl σ' H' s'} hp I' hn b hb => by
    subst hp
    exact ⟨hn b hb, (I'.ok.exf b hb).1, I'.ok.exfs b hb, .inl hb, fun x c e => (I'.ok.exf b hb).2 x c e, fun p hp => absurd (show p ∈ ([] : List (Addr × Obj)) ++ [] from hp) (by simp)⟩
  have loop : codeAny (model X.prog X.w) X.A (.compLoop (dc2 kx vx tg iter ifs tg1 iter1 ifs1 scope pos) 0 (.ref it) (.ref D) ce) (compPost (model X.prog X.w) X.A X.xe use Qf (.ref D) sN.heap.objs.size) sB := by
    refine laps_ok (Y := X.blk sN (upd H2 D (.dK [])) scope ce fp) (pins := []) (c := dc2 kx vx tg iter ifs tg1 iter1 ifs1 scope pos) rfl hc (fun _ _ _ h => h) (shape0 (.ref it) D ce) T pg pt (fun I' hn => free rfl I' hn) ?inner ?done IB stB none4 rounds
    case done =>
      intro H' s' d I'
      have back : Inv X pins σ H' s' := IN.call' (ch := fp) I'.os I'.base I'.hok I'.bare fun b hb => ⟨(young b hb).1.2.2.2.1, (young b hb).1.2.1, (young b hb).1.2.2.2.2.1, (young b hb).1.2.2.2.2.2⟩
      have gone : H' sN.heap.objs.size = none := by
        have z : H' ce.locals = none := I'.free
        rwa [cL] at z
      obtain ⟨m, hn, _⟩ := I'.loc
      have hn : s'.heap.Ns ce.locals m := hn
      rw [cL] at hn
      exact then_ D _ s' m H' back d hn (IN.fpOk (Nat.le_refl _) gone)
    case inner =>
      intro pl s' σ2 H3 Nx I' b
      refine wpAny_bind (thnF (pi1.run _ s' σ2 H3 _ I' b) fun xv s5 z => ?_)
      refine wpAny_bind (wpAny_standAt (wpAny_bind (wpAny_of_eq (hs1 ce xv) (wpAny_bind (wpAny_holding (thnF z fun itv s6 z6 => ?_))))))
      obtain ⟨it1, fp1, tn1, J1, H6, rfl, I6, T1, st6, f6, laps1⟩ := z6
      refine wpAny_bind (wpAny_runOwn ?_); rw [Around.mark_none]
      have loop1 : codeAny (model X.prog X.w) X.A (.compLoop (dc2 kx vx tg iter ifs tg1 iter1 ifs1 scope pos) 1 (.ref it1) (.ref D) ce) (fun r s' => match r with
          | .ok _ => ∃ σ' H', Inv (X.blk sN (upd H2 D (.dK [])) scope ce fp) ([] ++ pl) σ' H' s' ∧ Knows (own.map (·.2)) σ2 σ' ∧ Nx H'
          | .error _ => False) s6 := by
        refine laps_ok (Y := X.blk sN (upd H2 D (.dK [])) scope ce fp) (pins := [] ++ pl) (c := dc2 kx vx tg iter ifs tg1 iter1 ifs1 scope pos) rfl hc (fun _ _ _ h => h) (shape1 (.ref it1) D ce) T1 pg1 pt1 (fun {_ H' _} _ hn b hb => ⟨hn b hb, (f6 b hb).2⟩) ?leaf ?over (I6.weak (wipe_length _ _) fun j v e => (L2.wipe_some e).1) st6 (fun b hb => (f6 b hb).1) laps1
        case over =>
          intro H' s7 nx I7
          refine ⟨_, H', I7, ⟨by rw [wipe_length, wipe_length], fun j v e => ?_⟩, nx⟩
          rw [← wipe_in hv] at e
          exact (L2.wipe_some e).1
        case leaf =>
          intro pl2 s7 σ3 H7 Nx1 I7 e
          refine wpAny_bind (thnF (ent_ok (vs := vs1) (Y := X.blk sN (upd H2 D (.dK [])) scope ce fp) rfl pk pv I7 e) fun _ s8 z8 => ?_)
          exact wpAny_pure ⟨rfl, z8⟩
      refine codeAny_mono (start1 (fun s7 e => e ▸ loop1) fun q => T1.self X.A 0 _ _ _ st6 q) fun r s7 hr => ?_
      cases r with
      | ok f => first
          | exact wpAny_pure ⟨rfl, hr⟩
          | (refine wpAny_bind (wpAny_pure ?_); exact wpAny_pure ⟨rfl, hr⟩)
      | error e => exact hr.elim
  exact codeAny_compStart_dict loop (T.self _ 0 sB _ _ stB loop)
/-- as a value -/
theorem pe_dc2 [TabName] (hc : X.calm = true) (hN : X.N.Nodup) (hi : PI X tg iter wi) (ok : BlkOk X.N X.env.scope scope own) (hv : ∀ i ∈ vs1, i ∈ own.map (·.2))
    (hg : ∀ (s : Shared) (H : Hp) (a : Addr) (cl : List (Str × Addr)) (us : List Addr), PG (X.blk s H scope (compEnvC scope cl a X.env) us) tg g)
    (ht : ∀ (s : Shared) (H : Hp) (a : Addr) (cl : List (Str × Addr)) (us : List Addr), PTs (X.blk s H scope (compEnvC scope cl a X.env) us) ifs tt)
    (nI : ∀ (s : Shared) (H : Hp) (a : Addr) (cl : List (Str × Addr)) (us : List Addr), PI (X.blk s H scope (compEnvC scope cl a X.env) us) tg1 iter1 wi1)
    (nG : ∀ (s : Shared) (H : Hp) (a : Addr) (cl : List (Str × Addr)) (us : List Addr), PG (X.blk s H scope (compEnvC scope cl a X.env) us) tg1 g1)
    (nT : ∀ (s : Shared) (H : Hp) (a : Addr) (cl : List (Str × Addr)) (us : List Addr), PTs (X.blk s H scope (compEnvC scope cl a X.env) us) ifs1 tt1)
    (nK : ∀ (s : Shared) (H : Hp) (a : Addr) (cl : List (Str × Addr)) (us : List Addr), PE (X.blk s H scope (compEnvC scope cl a X.env) us) kx tk)
    (he : ∀ (s : Shared) (H : Hp) (a : Addr) (cl : List (Str × Addr)) (us : List Addr), PE (X.blk s H scope (compEnvC scope cl a X.env) us) vx tv)
    (hs : ∀ x, foldedSetIterable iter X.env x = pure x) (hs1 : ∀ env x, foldedSetIterable iter1 env x = pure x) :
    PE X (dc2 kx vx tg iter ifs tg1 iter1 ifs1 scope pos) (tDc2 wi g tt wi1 g1 tt1 tk tv (own.map (·.2)) vs1) := by
  constructor
  intro pins s σ H Q I h
  rw [arm_eval_DictComp]
  refine dc2_core hc hN hi ok hv hg ht nI nG nT nK he hs hs1 I h fun D C s' m H' I' q hn f => ⟨m, hn, fun h2 sb => ?_⟩
  obtain ⟨a0, a1, a2, a3, a4, a5⟩ := f
  exact ⟨.ref D, H', I'.turned (t' := s'.toks) (fun b o hb e => (sb.2 b hb).trans e) a0 a1 a3 a4 a5, rfl, q⟩
/-- a dict that its block stores at once -/
theorem ps_setD {t : TE} {i : Nat} {y : Str} {py spos : Pos} {gens : List Comprehension} {first : Sem Value} (hN : X.N.Nodup) (hy : X.N[i]? = some y) (hyl : X.env.scope.names.lookup y = some .local)
    (hsw : swapsWith (.DictComp kx vx gens scope pos) (some (.Name y py)) spos.line X.env = pure true)
    (shape : ∀ u : Value → Sem Unit, evalThenUse (.DictComp kx vx gens scope pos) X.env u = (do let _ ← comprehension (.DictComp kx vx gens scope pos) scope X.env (firstIterPos gens pos) newDict false first (some u)))
    (core : ∀ {pins : List (Addr × Obj)} {s : Shared} {σ : L2.St} {H : Hp} {Q : VK} {use : Option (Value → Sem Unit)} {Qf : Value → Shared → Prop}, Inv X pins σ H s → t σ H Q →
      (∀ D C s' m H', Inv X pins σ H' s' → Q (.ref D) H' → s'.heap.Ns C m → FpOk X pins H' C → compPost (model X.prog X.w) X.A X.xe use Qf (.ref D) C (.ok .next) s') →
      wpAny (model X.prog X.w) X.A (comprehension (.DictComp kx vx gens scope pos) scope X.env (firstIterPos gens pos) newDict false first use) Qf X.xe s) :
    PS X (.Assign [.Name y py] (.DictComp kx vx gens scope pos) spos) (tAsg t (gName i)) := by
  constructor
  intro pins s σ H D I h
  rw [exec_Assign_Name_used _ _ _ _ hsw]
  refine wpAny_bind (wpAny_standAt (wpAny_bind ?_))
  rw [shape]
  have h : t σ H fun x H1 => gName i x σ H1 D.nx := h
  refine wpAny_bind (thn (core (Qf := fun _ s' => SP X pins D .next s') I h fun L C s' m H' I' q hn f => ?_) fun _ s' z => wpAny_pure (wpAny_pure z))
  obtain ⟨a0, a1, a2, a3, a4, a5⟩ := f
  show wpAny _ _ (assign (.Name y py) X.env (.ref L)) _ _ _
  refine wpAny_assign_Name (store_ok2 (v := V.ref L) I' hN hy (.inl hyl) rfl (fun s2 I2 ⟨b, sb, hb⟩ => ⟨m, hn.sameBut sb ?_, fun h3 sb3 => ?_⟩) (.inr hyl))
  · rcases hb with z | z
    · rw [z]; exact a1
    · exact fun e => a4 y b z e.symm
  · exact ⟨_, H', I2.turned (t' := s2.toks) (fun b o hb e => (sb3.2 b hb).trans e) a0 a1 a3 a4 a5, q⟩
/-- of one for -/
theorem ps_setDc {i : Nat} {y : Str} {py spos : Pos} (hc : X.calm = true) (hN : X.N.Nodup) (hy : X.N[i]? = some y) (hyl : X.env.scope.names.lookup y = some .local) (hsw : swapsWith (.DictComp kx vx [⟨tg, iter, ifs, 0⟩] scope pos) (some (.Name y py)) spos.line X.env = pure true)
    (hi : PI X tg iter wi) (ok : BlkOk X.N X.env.scope scope own)
    (hg : ∀ (s : Shared) (H : Hp) (a : Addr) (cl : List (Str × Addr)) (us : List Addr), PG (X.blk s H scope (compEnvC scope cl a X.env) us) tg g)
    (ht : ∀ (s : Shared) (H : Hp) (a : Addr) (cl : List (Str × Addr)) (us : List Addr), PTs (X.blk s H scope (compEnvC scope cl a X.env) us) ifs tt)
    (nK : ∀ (s : Shared) (H : Hp) (a : Addr) (cl : List (Str × Addr)) (us : List Addr), PE (X.blk s H scope (compEnvC scope cl a X.env) us) kx tk)
    (he : ∀ (s : Shared) (H : Hp) (a : Addr) (cl : List (Str × Addr)) (us : List Addr), PE (X.blk s H scope (compEnvC scope cl a X.env) us) vx tv) (hs : ∀ x, foldedSetIterable iter X.env x = pure x) :
    PS X (.Assign [.Name y py] (.DictComp kx vx [⟨tg, iter, ifs, 0⟩] scope pos) spos) (tAsg (tDc wi g tt tk tv (own.map (·.2))) (gName i)) :=
  ps_setD (first := eval iter X.env) hN hy hyl hsw (fun u => rfl) fun I h k => dc_core hc hN I hi ok hg ht nK he hs h k
/-- of two fors -/
theorem ps_setDc2 [TabName] {i : Nat} {y : Str} {py spos : Pos} (hc : X.calm = true) (hN : X.N.Nodup) (hy : X.N[i]? = some y) (hyl : X.env.scope.names.lookup y = some .local) (hsw : swapsWith (dc2 kx vx tg iter ifs tg1 iter1 ifs1 scope pos) (some (.Name y py)) spos.line X.env = pure true)
    (hi : PI X tg iter wi) (ok : BlkOk X.N X.env.scope scope own) (hv : ∀ i ∈ vs1, i ∈ own.map (·.2))
    (hg : ∀ (s : Shared) (H : Hp) (a : Addr) (cl : List (Str × Addr)) (us : List Addr), PG (X.blk s H scope (compEnvC scope cl a X.env) us) tg g)
    (ht : ∀ (s : Shared) (H : Hp) (a : Addr) (cl : List (Str × Addr)) (us : List Addr), PTs (X.blk s H scope (compEnvC scope cl a X.env) us) ifs tt)
    (nI : ∀ (s : Shared) (H : Hp) (a : Addr) (cl : List (Str × Addr)) (us : List Addr), PI (X.blk s H scope (compEnvC scope cl a X.env) us) tg1 iter1 wi1)
    (nG : ∀ (s : Shared) (H : Hp) (a : Addr) (cl : List (Str × Addr)) (us : List Addr), PG (X.blk s H scope (compEnvC scope cl a X.env) us) tg1 g1)
    (nT : ∀ (s : Shared) (H : Hp) (a : Addr) (cl : List (Str × Addr)) (us : List Addr), PTs (X.blk s H scope (compEnvC scope cl a X.env) us) ifs1 tt1)
    (nK : ∀ (s : Shared) (H : Hp) (a : Addr) (cl : List (Str × Addr)) (us : List Addr), PE (X.blk s H scope (compEnvC scope cl a X.env) us) kx tk)
    (he : ∀ (s : Shared) (H : Hp) (a : Addr) (cl : List (Str × Addr)) (us : List Addr), PE (X.blk s H scope (compEnvC scope cl a X.env) us) vx tv) (hs : ∀ x, foldedSetIterable iter X.env x = pure x) (hs1 : ∀ env x, foldedSetIterable iter1 env x = pure x) :
    PS X (.Assign [.Name y py] (dc2 kx vx tg iter ifs tg1 iter1 ifs1 scope pos) spos) (tAsg (tDc2 wi g tt wi1 g1 tt1 tk tv (own.map (·.2)) vs1) (gName i)) :=
  ps_setD (first := eval iter X.env) hN hy hyl hsw (fun u => rfl) fun I h k => dc2_core hc hN hi ok hv hg ht nI nG nT nK he hs hs1 I h k
end
end Ded
end

section
set_option Elab.async false
set_option linter.all false
set_option maxRecDepth 100000
/-! Comprehensions of a dict with two fors, over the evaluator. -/
namespace Ded
open PySem L2
variable [TabName]
section
variable {X : Cx} {xc : Xc} {en : Entry xc.T} {Wi : XK} {e : Expr} {pos : Pos} {g g1 : D → M Unit}
theorem dlc2_den {σ : L2.St} {H : Hp} {Q : VK} {mk mv : M Val} {w w1 : M (List D)} {c c1 : M Bool} {vs vs1 ts ts1 : List Nat} (hts : ∀ j ∈ ts, j ∈ vs) (hts1 : ∀ j ∈ ts1, j ∈ vs1) (hv : ∀ j ∈ vs1, j ∈ vs) (h : TE' X.K xc en Wi (mDlc2 mk mv g w c g1 w1 c1 vs vs1) σ H Q) :
    tDc2 (TI' X.K xc en Wi w) (gAny X.K xc.T ts g) (tAny X.K xc c) (iAny X.K xc w1) (gAny X.K xc.T ts1 g1) (tAny X.K xc c1) (eAny X.K xc mk) (eAny X.K xc mv) vs vs1 σ H Q := by
  obtain ⟨F, ex, s, r, fr, h⟩ := h
  refine ⟨F, ex, s, r, fr, (Ends_.bind (m := w) h).imp fun F1 ex1 H1 s1 ds e1 r1 st1 q J hJ Dd hD => ?_⟩
  unfold tLaps
  cases e2 : lcLoop (lc2Turn g c w1 (dcTurn g1 c1 mk mv vs1) vs vs1) ds { s1 with ρ := wipe s1.ρ vs } with
  | exc c fs t => simp only [e2] at q; exact q.elim
  | bad => simp only [e2] at q; exact q.elim
  | ok all tf =>
    simp only [e2] at q
    split at q
    rotate_left
    · exact q.elim
    rename_i hz
    obtain ⟨hz, ok⟩ := hz
    have nF1 : ¬ F1 Dd := fun f => by obtain ⟨o, e⟩ := r1.fdom _ f; rw [hD] at e; cases e
    have nM1 : ¬ Mu s1.ρ σ ex1 Dd := fun f => by obtain ⟨o, e⟩ := r1.mdom f; rw [hD] at e; cases e
    have nB1 : ¬ Bo s1.ρ σ Dd := fun f => by obtain ⟨o, e⟩ := r1.bo f; rw [hD] at e; cases e
    let en' : Entry xc.T := blkEn F1 H1 ex1 s1 σ Dd (.dK [])
    have hne : ∀ {a : Addr} {o : HO}, H1 a = some o → upd H1 Dd (.dK []) a = some o := fun {a o} e => by
      rw [upd_ne (fun q => by rw [q, hD] at e; cases e)]; exact e
    have hno : ∀ {a : Addr}, upd H1 Dd (.dK []) a = none → H1 a = none := fun {a} e => by
      cases z : H1 a with
      | none => rfl
      | some o => rw [hne z] at e; cases e
    let LcI : Nat → Hp → Prop := fun i H => ∃ F ex s acc ys zs, Rel X.K F ex s (L2.wipe σ vs) H ∧ FromL en' ⟨F1, H1⟩ F ex s (L2.wipe σ vs) H ∧ NB s1 s ∧ H Dd = some (.dK acc) ∧ RfK X.K F H acc (dictOf ys) ∧ ¬ F Dd ∧ ¬ Mu s.ρ (L2.wipe σ vs) ex Dd ∧
      lcLoop (lc2Turn g c w1 (dcTurn g1 c1 mk mv vs1) vs vs1) (ds.drop i) s = .ok zs tf ∧ ys ++ zs.flatten = all.flatten
    refine ⟨fun i n H => n = ds.length - i ∧ LcI i H, ⟨ds.length - 0, rfl, F1, ex1, s1.wiped vs, [], [], all, ?_, ?_, .wiped, upd_same, .nil, nF1, fun z => nM1 (mu_wiped z), e2, rfl⟩, ?_⟩
    · exact (r1.wiped vs).other nF1 (fun z => nM1 (mu_wiped z)) (fun z => nB1 (NB.wiped.bo (let ⟨i, d, a, b⟩ := z; ⟨i, d, a, (wipe_some b).1⟩))) (fun q u z => by rw [hD] at z; cases z) (fun t => t.ext fun b o e => hne e)
    · exact ⟨⟨⟨fun _ _ _ e _ => .inl e, fun _ o e => ⟨o, e⟩, fun _ f => f, fun _ f => .inl f, fun a z => .inl (.inl (mu_wiped z)), fun t => t⟩, List.prefix_refl _, (fr.step st1).tb.ext fun b o e => hne e⟩, fun _ f => f, fun a o _ _ e => .inl (hne e)⟩
    rintro i n H ⟨rfl, F, ex, s, acc, ys, zs, r, fl, nb, hacc, ra, nF, nM, hl, hall⟩
    by_cases hlt : i < ds.length
    rotate_left
    · have e3 : ds.drop i = [] := List.drop_eq_nil_of_le (by omega)
      rw [e3] at hl
      cases hl
      rw [List.flatten_nil, List.append_nil] at hall
      subst hall
      have rb := r.back r1 ok fl.lm fl.lk
      have nbb : NB s1 (tf.back s1 vs) := nb.back ok
      have mub : ∀ a, Mu (putBack s1.ρ tf.ρ vs) σ ex a → Mu tf.ρ (L2.wipe σ vs) ex a := fun a z => z.imp_right (ow_back ok)
      have stp : Step F1 ex1 s1 σ H1 F ex (tf.back s1 vs) H := by
        refine ⟨⟨fun a o nt e n => fl.fr.grow.keep a o nt (hne e) (fun z => z.elim n fun z => by rw [z, hD] at e; cases e), fun a o e => fl.fr.grow.dom a o (hne e), fl.fr.grow.fmono, fun a f => ?_, fun a z => ?_, fun t => fl.fr.grow.tab (t.ext fun b o e => hne e)⟩, fl.fr.pre, nbb⟩
        · rcases fl.fr.grow.fnew a f with f | (z | z) | z
          · exact .inl f
          · exact .inr (.inl z)
          · exact absurd (by rw [← z]; exact f) nF
          · exact .inr (.inr (hno z))
        · rcases fl.fr.grow.mnew a (mub a z) with (z | z) | z
          · exact .inl z
          · rw [z]; exact .inr hD
          · exact .inr (hno z)
      refine .inl ⟨hJ.stop H i fl.lk (by omega), q F ex H rb (st1.trans stp) _ ?_⟩
      exact ⟨Dd, rfl, ⟨acc, hacc, ra⟩, nF, fun z => nM (mub _ z), fun z => nB1 (nbb.bo z), st1.grow.none hD⟩
    refine .inr ⟨hJ.go H i fl.lk hlt, LcI (i + 1), fun H' w => ⟨ds.length - (i + 1), by omega, rfl, w⟩, fun x H3 y => ?_⟩
    obtain ⟨F3, nw, rf⟩ := hJ.yld H F i x H3 fl.lk fl.lm r.fdom y ds[i] (List.getElem?_eq_getElem hlt)
    have r3 := r.new nw
    have st3 : Step F ex s (L2.wipe σ vs) H F3 ex s H3 := ⟨nw.grow _, List.prefix_refl _, .refl⟩
    have fl3 := fl.step r st3
    have e3 : ds.drop i = ds[i] :: ds.drop (i + 1) := List.drop_eq_getElem_cons hlt
    rw [e3] at hl
    obtain ⟨o, s9, zs', ht, hl', rfl⟩ := lcLoop_cons hl
    obtain ⟨_, sg, eg, ht⟩ := bind_ok (m := g ds[i]) ht
    obtain ⟨b, sc, ec, ht⟩ := bind_ok (m := c) ht
    obtain ⟨hacc3, nM3, nF3⟩ := st3.stays nM nF nt_dK hacc
    refine ⟨en', F3, ex, s, ds[i], r3, fl3.fr, rf, ?_⟩
    rw [eg]
    intro σ2 tg r4 f4
    have wp : L2.wipe σ2 vs = L2.wipe σ vs := (swipe_ext (σ := L2.wipe σ vs) tg.len fun j hj => tg.off j fun z => hj (hts j z)).trans wipe_two
    have nM4 : ¬ Mu sg.ρ σ2 ex Dd := fun z => nM3 (z.imp_right (tg.ow _))
    have fl4 := fl3.with f4
    refine ⟨wp, en', F3, ex, sg, r4, f4, ?_⟩
    rw [ec]
    intro F5 ex5 H5 r5 st5
    have fl5 := fl4.step r4 st5
    obtain ⟨hacc5, nM5, nF5⟩ := st5.stays nM4 nF3 nt_dK hacc3
    have ra5 : RfK X.K F5 H5 acc (dictOf ys) := RfK.mono (fun a f => st5.grow.fmono a (nw.fmono a f)) (nw.kp.then nw.fmono (st5.grow.kp r4.dj)) _ ra
    have nb5 : NB s1 sc := nb.trans (tg.bo.trans st5.bo)
    -- behind a turn
    have fin : ∀ {F ex s H acc ys}, Rel X.K F ex s (L2.wipe σ2 vs) H → FromL en' ⟨F1, H1⟩ F ex s (L2.wipe σ2 vs) H → NB s1 s → H Dd = some (.dK acc) → RfK X.K F H acc (dictOf ys) → ¬ F Dd → ¬ Mu s.ρ (L2.wipe σ2 vs) ex Dd →
        lcLoop (lc2Turn g c w1 (dcTurn g1 c1 mk mv vs1) vs vs1) (ds.drop (i + 1)) s = .ok zs' tf → ys ++ zs'.flatten = all.flatten → LcI (i + 1) H := fun {F ex s H acc ys} r fl nb ha ra nf nm hl hall => by
      rw [wp] at r fl nm
      exact ⟨F, ex, s, acc, ys, zs', r, fl, nb, ha, ra, nf, nm, hl, hall⟩
    have wiped : ∀ {F ex s σ0 H} (us : List Nat), Rel X.K F ex s σ0 H → FromL en' ⟨F1, H1⟩ F ex s σ0 H → Rel X.K F ex (s.wiped us) (L2.wipe σ0 us) H ∧ FromL en' ⟨F1, H1⟩ F ex (s.wiped us) (L2.wipe σ0 us) H := fun {F ex s σ0 H} us r fl =>
      ⟨r.wiped us, ⟨fl.fr.grow.weakM fun a z => mu_wiped z, fl.fr.pre, fl.fr.tb⟩, fl.lm, fl.lk⟩
    cases b with
    | false =>
      rw [if_neg Bool.false_ne_true] at ht
      cases ht
      obtain ⟨r6, fl6⟩ := wiped vs r5 fl5
      exact fin r6 fl6 (nb5.trans .wiped) hacc5 ra5 nF5 (fun z => nM5 (mu_wiped z)) hl' hall
    | true =>
      rw [if_pos rfl] at ht
      obtain ⟨ds1, sw, ew, ht⟩ := bind_ok (m := w1) ht
      obtain ⟨ys1, si, ei, ht⟩ := bind_ok (m := lc2In (dcTurn g1 c1 mk mv vs1) vs1 ds1) ht
      cases ht
      have ei : lcLoop (dcTurn g1 c1 mk mv vs1) ds1 (sw.wiped vs1) = .ok ys1 si := ei
      show iAny X.K xc w1 σ2 H5 _
      refine ⟨en', F5, ex5, sc, r5, fl5.fr, ?_⟩
      rw [ew]
      intro F6 ex6 H6 r6 st6 J1 hJ1
      have fl6 := fl5.step r5 st6
      obtain ⟨hacc6, nM6, nF6⟩ := st6.stays nM5 nF5 nt_dK hacc5
      have ra6 : RfK X.K F6 H6 acc (dictOf ys) := RfK.mono st6.grow.fmono (st6.grow.kp r5.dj) _ ra5
      have nb6 : NB s1 sw := nb5.trans st6.bo
      let LcJ : Nat → Hp → Prop := fun j H => ∃ F ex s acc us zs, Rel X.K F ex s (L2.wipe σ2 vs1) H ∧ FromL en' ⟨F1, H1⟩ F ex s (L2.wipe σ2 vs1) H ∧ (∀ a, F6 a → F a) ∧ Kp F6 H6 H ∧ NB s1 s ∧ H Dd = some (.dK acc) ∧ RfK X.K F H acc (dictOf (ys ++ us)) ∧ ¬ F Dd ∧ ¬ Mu s.ρ (L2.wipe σ2 vs1) ex Dd ∧
        lcLoop (dcTurn g1 c1 mk mv vs1) (ds1.drop j) s = .ok zs si ∧ us ++ zs = ys1
      obtain ⟨r7, fl7⟩ := wiped vs1 r6 fl6
      refine ⟨fun j n H => n = ds1.length - j ∧ LcJ j H, ⟨ds1.length - 0, rfl, F6, ex6, sw.wiped vs1, acc, [], ys1, r7, fl7, fun _ z => z, .of fun _ _ _ _ z => z, nb6.trans .wiped, hacc6, by rw [List.append_nil]; exact ra6, nF6, fun z => nM6 (mu_wiped z), ei, rfl⟩, ?_⟩
      rintro j n H ⟨rfl, F, ex, s, acc, us, zs, r, fl, jm, jk, nb, hacc, ra, nF, nM, hl1, hus⟩
      by_cases hlt1 : j < ds1.length
      rotate_left
      · have e4 : ds1.drop j = [] := List.drop_eq_nil_of_le (by omega)
        rw [e4] at hl1
        cases hl1
        rw [List.append_nil] at hus
        subst hus
        refine .inl ⟨hJ1.stop H j jk (by omega), ?_⟩
        obtain ⟨r8, fl8⟩ := wiped vs r fl
        rw [wipe_in hv] at r8 fl8
        refine fin r8 fl8 (nb.trans .wiped) hacc ra nF (fun z => nM ?_) hl' (by rw [List.append_assoc]; exact hall)
        rw [← wipe_in hv] at z
        exact mu_wiped z
      refine .inr ⟨hJ1.go H j jk hlt1, LcJ (j + 1), fun H' w => ⟨ds1.length - (j + 1), by omega, rfl, w⟩, fun x1 H8 y1 => ?_⟩
      obtain ⟨F8, nw1, rf1⟩ := hJ1.yld H F j x1 H8 jk jm r.fdom y1 ds1[j] (List.getElem?_eq_getElem hlt1)
      have r8 := r.new nw1
      have st8 : Step F ex s (L2.wipe σ2 vs1) H F8 ex s H8 := ⟨nw1.grow _, List.prefix_refl _, .refl⟩
      have fl8 := fl.step r st8
      have e4 : ds1.drop j = ds1[j] :: ds1.drop (j + 1) := List.drop_eq_getElem_cons hlt1
      rw [e4] at hl1
      obtain ⟨o1, s19, zs1, ht1, hl2, rfl⟩ := lcLoop_cons hl1
      obtain ⟨_, sg1, eg1, ht1⟩ := bind_ok (m := g1 ds1[j]) ht1
      obtain ⟨b1, sc1, ec1, ht1⟩ := bind_ok (m := c1) ht1
      obtain ⟨hacc8, nM8, nF8⟩ := st8.stays nM nF nt_dK hacc
      refine ⟨en', F8, ex, s, ds1[j], r8, fl8.fr, rf1, ?_⟩
      rw [eg1]
      intro σ3 tg1 r9 f9
      have wp1 : L2.wipe σ3 vs1 = L2.wipe σ2 vs1 := (swipe_ext (σ := L2.wipe σ2 vs1) tg1.len fun j hj => tg1.off j fun z => hj (hts1 j z)).trans wipe_two
      have nM9 : ¬ Mu sg1.ρ σ3 ex Dd := fun z => nM8 (z.imp_right (tg1.ow _))
      have fl9 := fl8.with f9
      refine ⟨wp1, en', F8, ex, sg1, r9, f9, ?_⟩
      rw [ec1]
      intro Fa exa Ha rla sta
      have fla := fl9.step r9 sta
      obtain ⟨hacca, nMa, nFa⟩ := sta.stays nM9 nF8 nt_dK hacc8
      have kpa : Kp F H Ha := nw1.kp.then nw1.fmono (sta.grow.kp r9.dj)
      have fma : ∀ a, F a → Fa a := fun a f => sta.grow.fmono a (nw1.fmono a f)
      have raa : RfK X.K Fa Ha acc (dictOf (ys ++ us)) := RfK.mono fma kpa _ ra
      have nba : NB s1 sc1 := nb.trans (tg1.bo.trans sta.bo)
      have jka : Kp F6 H6 Ha := jk.then jm kpa
      have jma : ∀ a, F6 a → Fa a := fun a f => fma a (jm a f)
      cases b1 with
      | false =>
        rw [if_neg Bool.false_ne_true] at ht1
        cases ht1
        obtain ⟨rb, flb⟩ := wiped vs1 rla fla
        rw [wp1] at rb flb
        exact ⟨Fa, exa, sc1.wiped vs1, acc, us, zs1, rb, flb, jma, jka, nba.trans .wiped, hacca, raa, nFa, fun z => nMa (by rw [← wp1] at z; exact mu_wiped z), hl2, hus⟩
      | true =>
        rw [if_pos rfl] at ht1
        show eAny X.K xc mk σ3 Ha _
        obtain ⟨kx, sk, ek, ht1⟩ := bind_ok (m := mFrz mk) ht1
        obtain ⟨y, sm, em, ht1⟩ := bind_ok (m := mFrz mv) ht1
        cases hik : isKey kx with
        | false => rw [hik, if_neg Bool.false_ne_true] at ht1; cases ht1
        | true =>
        rw [hik, if_pos rfl] at ht1
        cases ht1
        refine ⟨en', Fa, exa, sc1, rla, fla.fr, ?_⟩
        rw [ek]
        intro Fk exk Hk rk stk xv rx
        have rx : Rf X.K Fk Hk xv kx := rx
        have flk := fla.step rla stk
        obtain ⟨hacck, nMk, nFk⟩ := stk.stays nMa nFa nt_dK hacca
        have rak : RfK X.K Fk Hk acc (dictOf (ys ++ us)) := RfK.mono stk.grow.fmono (stk.grow.kp rla.dj) _ raa
        have nbk : NB s1 sk := nba.trans stk.bo
        obtain ⟨kk, rfl, rfl⟩ := key_of' hik rx
        show eAny X.K xc mv σ3 Hk _
        refine ⟨en', Fk, exk, sk, rk, flk.fr, ?_⟩
        rw [em]
        intro Fb exb Hb rb stb zv rz
        have rz : Rf X.K Fb Hb zv y := rz
        have flb := flk.step rk stb
        obtain ⟨haccb, nMb, nFb⟩ := stb.stays nMk nFk nt_dK hacck
        have rab : RfK X.K Fb Hb acc (dictOf (ys ++ us)) := RfK.mono stb.grow.fmono (stb.grow.kp rk.dj) _ rak
        have nbb : NB s1 sm := nbk.trans stb.bo
        have la : acc.length + 1 ≤ sizeLine := by
          rw [ra.length]
          have h0 := dictOf_len (ys ++ us)
          have h1 := congrArg List.length hall
          have h2 := congrArg List.length hus
          simp only [List.length_append, List.length_cons, List.flatten_cons] at h0 h1 h2 ⊢
          omega
        have kpb : Kp Fb Hb (upd Hb Dd (.dK (putK acc kk zv))) := .of fun a u f _ z => by
          rw [upd_ne (fun q => nFb (by rw [← q]; exact f))]; exact z
        obtain ⟨rc, flc⟩ := wiped vs1 rb flb
        rw [wp1] at rc flc
        have nMc : ¬ Mu (wipe sm.ρ vs1) (L2.wipe σ2 vs1) exb Dd := fun z => nMb (by rw [← wp1] at z; exact mu_wiped z)
        have nbc : NB s1 (sm.wiped vs1) := nbb.trans .wiped
        have nBc : ¬ Bo (wipe sm.ρ vs1) (L2.wipe σ2 vs1) Dd := fun z => by
          obtain ⟨k, d, ek, eσ⟩ := z
          obtain ⟨d', e'⟩ := nbc k d ek
          have hk : k ∉ vs := fun hm => by
            have := List.all_eq_true.mp ok k hm
            rw [e'] at this
            cases this
          have eσ := (wipe_some eσ).1
          rw [← wipe_out (σ := σ2) hk, wp, wipe_out hk] at eσ
          exact nB1 ⟨k, d', e', eσ⟩
        have rd := rc.other (p := Dd) (o := .dK (putK acc kk zv)) nFb nMc nBc (fun q u z => by rw [haccb] at z; cases z) (fun t => tabs_at haccb nt_dK (fun f z => nomatch z) t)
        have jkb : Kp F6 H6 Hb := (jka.then jma (stk.grow.kp rla.dj)).then (fun a f => stk.grow.fmono a (jma a f)) (stb.grow.kp rk.dj)
        have jmb : ∀ a, F6 a → Fb a := fun a f => stb.grow.fmono a (stk.grow.fmono a (jma a f))
        refine ⟨acc, kk, rfl, haccb, la, Fb, exb, sm.wiped vs1, putK acc kk zv, us ++ [(kd kk, y)], zs1, rd, ⟨⟨⟨fun a o nt e n => ?_, fun a o e => ?_, flc.fr.grow.fmono, flc.fr.grow.fnew, flc.fr.grow.mnew, fun t => tabs_at haccb nt_dK (fun f z => nomatch z) (flc.fr.grow.tab t)⟩, flc.fr.pre, tabs_at haccb nt_dK (fun f z => nomatch z) flc.fr.tb⟩, flc.lm, fun a o f nt e => ?_⟩, jmb, jkb.then jmb kpb, nbc, upd_same, ?_, nFb, nMc, hl2, ?_⟩
        · exact (flc.fr.grow.keep a o nt e n).upd fun q => n (.inr q)
        · obtain ⟨o', e'⟩ := flc.fr.grow.dom a o e
          by_cases q : a = Dd
          · exact ⟨_, by rw [q]; exact upd_same⟩
          · exact ⟨o', by rw [upd_ne q]; exact e'⟩
        · exact (flc.lk a o f nt e).upd fun q => nF1 (by rw [← q]; exact f)
        · rw [← List.append_assoc, dictOf_snoc]
          exact RfK.put kk (RfK.mono (fun _ f => f) kpb _ rab) (Rf.mono (fun _ f => f) kpb _ rz)
        · rw [List.append_assoc]; exact hus
theorem d_dlc2 {kx vx tg iter tg1 iter1 : Expr} {ifs ifs1 : List Expr} {scope : Scope} {own : List (Str × Nat)} {ts ts1 vs1 : List Nat} {mk mv : M Val} {w w1 : M (List D)} {c c1 : M Bool} (hc : X.calm = true) (hN : X.N.Nodup) (hi : PI X tg iter (TI' X.K xc en Wi w)) (ok : BlkOk X.N X.env.scope scope own)
    (hts : ∀ j ∈ ts, j ∈ own.map (·.2)) (hts1 : ∀ j ∈ ts1, j ∈ vs1) (hv : ∀ j ∈ vs1, j ∈ own.map (·.2))
    (hg : ∀ (s : Shared) (H : Hp) (C : Addr) (cl : List (Str × Addr)) (fp : List Addr), PG (X.blk s H scope (compEnvC scope cl C X.env) fp) tg (gAny X.K xc.T ts g))
    (ht : ∀ (s : Shared) (H : Hp) (C : Addr) (cl : List (Str × Addr)) (fp : List Addr), PTs (X.blk s H scope (compEnvC scope cl C X.env) fp) ifs (tAny X.K xc c))
    (hi1 : ∀ (s : Shared) (H : Hp) (C : Addr) (cl : List (Str × Addr)) (fp : List Addr), PI (X.blk s H scope (compEnvC scope cl C X.env) fp) tg1 iter1 (iAny X.K xc w1))
    (hg1 : ∀ (s : Shared) (H : Hp) (C : Addr) (cl : List (Str × Addr)) (fp : List Addr), PG (X.blk s H scope (compEnvC scope cl C X.env) fp) tg1 (gAny X.K xc.T ts1 g1))
    (ht1 : ∀ (s : Shared) (H : Hp) (C : Addr) (cl : List (Str × Addr)) (fp : List Addr), PTs (X.blk s H scope (compEnvC scope cl C X.env) fp) ifs1 (tAny X.K xc c1))
    (hk : ∀ (s : Shared) (H : Hp) (C : Addr) (cl : List (Str × Addr)) (fp : List Addr), PE (X.blk s H scope (compEnvC scope cl C X.env) fp) kx (eAny X.K xc mk))
    (he : ∀ (s : Shared) (H : Hp) (C : Addr) (cl : List (Str × Addr)) (fp : List Addr), PE (X.blk s H scope (compEnvC scope cl C X.env) fp) vx (eAny X.K xc mv)) (hs : ∀ x, foldedSetIterable iter X.env x = pure x) (hs1 : ∀ env x, foldedSetIterable iter1 env x = pure x) :
    PEd X xc en Wi (dc2 kx vx tg iter ifs tg1 iter1 ifs1 scope pos) (mDlc2 mk mv g w c g1 w1 c1 (own.map (·.2)) vs1) :=
  PE.imp (pe_dc2 hc hN hi ok hv hg ht hi1 hg1 ht1 hk he hs hs1) fun σ H Q h => dlc2_den hts hts1 hv h
theorem k_setDlc2 {i : Nat} {y : Str} {py spos : Pos} {kx vx tg iter tg1 iter1 : Expr} {ifs ifs1 : List Expr} {scope : Scope} {own : List (Str × Nat)} {ts ts1 vs1 : List Nat} {mk mv : M Val} {w w1 : M (List D)} {c c1 : M Bool} (hc : X.calm = true) (hN : X.N.Nodup) (hy : X.N[i]? = some y) (hyl : X.env.scope.names.lookup y = some .local) (hsw : swapsWith (dc2 kx vx tg iter ifs tg1 iter1 ifs1 scope pos) (some (.Name y py)) spos.line X.env = pure true) (hi : PI X tg iter (TI' X.K xc en Wi w)) (ok : BlkOk X.N X.env.scope scope own)
    (hts : ∀ j ∈ ts, j ∈ own.map (·.2)) (hts1 : ∀ j ∈ ts1, j ∈ vs1) (hv : ∀ j ∈ vs1, j ∈ own.map (·.2))
    (hg : ∀ (s : Shared) (H : Hp) (C : Addr) (cl : List (Str × Addr)) (fp : List Addr), PG (X.blk s H scope (compEnvC scope cl C X.env) fp) tg (gAny X.K xc.T ts g))
    (ht : ∀ (s : Shared) (H : Hp) (C : Addr) (cl : List (Str × Addr)) (fp : List Addr), PTs (X.blk s H scope (compEnvC scope cl C X.env) fp) ifs (tAny X.K xc c))
    (hi1 : ∀ (s : Shared) (H : Hp) (C : Addr) (cl : List (Str × Addr)) (fp : List Addr), PI (X.blk s H scope (compEnvC scope cl C X.env) fp) tg1 iter1 (iAny X.K xc w1))
    (hg1 : ∀ (s : Shared) (H : Hp) (C : Addr) (cl : List (Str × Addr)) (fp : List Addr), PG (X.blk s H scope (compEnvC scope cl C X.env) fp) tg1 (gAny X.K xc.T ts1 g1))
    (ht1 : ∀ (s : Shared) (H : Hp) (C : Addr) (cl : List (Str × Addr)) (fp : List Addr), PTs (X.blk s H scope (compEnvC scope cl C X.env) fp) ifs1 (tAny X.K xc c1))
    (hk : ∀ (s : Shared) (H : Hp) (C : Addr) (cl : List (Str × Addr)) (fp : List Addr), PE (X.blk s H scope (compEnvC scope cl C X.env) fp) kx (eAny X.K xc mk))
    (he : ∀ (s : Shared) (H : Hp) (C : Addr) (cl : List (Str × Addr)) (fp : List Addr), PE (X.blk s H scope (compEnvC scope cl C X.env) fp) vx (eAny X.K xc mv)) (hs : ∀ x, foldedSetIterable iter X.env x = pure x) (hs1 : ∀ env x, foldedSetIterable iter1 env x = pure x) :
    PS X (.Assign [.Name y py] (dc2 kx vx tg iter ifs tg1 iter1 ifs1 scope pos) spos) (TS' X.K xc en Wi (kSet i (mDlc2 mk mv g w c g1 w1 c1 (own.map (·.2)) vs1))) :=
  PS.imp (ps_setDc2 hc hN hy hyl hsw hi ok hv hg ht hi1 hg1 ht1 hk he hs hs1) fun D σ H h => dlc2_den hts hts1 hv (set_core h)
theorem k_setDlc {i : Nat} {y : Str} {py spos : Pos} {kx vx tg iter : Expr} {ifs : List Expr} {scope : Scope} {own : List (Str × Nat)} {ts : List Nat} {mk mv : M Val} {w : M (List D)} {c : M Bool} (hc : X.calm = true) (hN : X.N.Nodup) (hy : X.N[i]? = some y) (hyl : X.env.scope.names.lookup y = some .local) (hsw : swapsWith (.DictComp kx vx [⟨tg, iter, ifs, 0⟩] scope pos) (some (.Name y py)) spos.line X.env = pure true) (hi : PI X tg iter (TI' X.K xc en Wi w)) (ok : BlkOk X.N X.env.scope scope own)
    (hts : ∀ j ∈ ts, j ∈ own.map (·.2))
    (hg : ∀ (s : Shared) (H : Hp) (C : Addr) (cl : List (Str × Addr)) (fp : List Addr), PG (X.blk s H scope (compEnvC scope cl C X.env) fp) tg (gAny X.K xc.T ts g))
    (ht : ∀ (s : Shared) (H : Hp) (C : Addr) (cl : List (Str × Addr)) (fp : List Addr), PTs (X.blk s H scope (compEnvC scope cl C X.env) fp) ifs (tAny X.K xc c))
    (hk : ∀ (s : Shared) (H : Hp) (C : Addr) (cl : List (Str × Addr)) (fp : List Addr), PE (X.blk s H scope (compEnvC scope cl C X.env) fp) kx (eAny X.K xc mk))
    (he : ∀ (s : Shared) (H : Hp) (C : Addr) (cl : List (Str × Addr)) (fp : List Addr), PE (X.blk s H scope (compEnvC scope cl C X.env) fp) vx (eAny X.K xc mv)) (hs : ∀ x, foldedSetIterable iter X.env x = pure x) :
    PS X (.Assign [.Name y py] (.DictComp kx vx [⟨tg, iter, ifs, 0⟩] scope pos) spos) (TS' X.K xc en Wi (kSet i (mDlc mk mv g w c (own.map (·.2))))) :=
  PS.imp (ps_setDc hc hN hy hyl hsw hi ok hg ht hk he hs) fun D σ H h => dlc_den hts (set_core h)
end
end Ded
end

section
set_option Elab.async false
set_option linter.all false
set_option maxRecDepth 100000
/-! The whole of a tuple, from its end. -/
namespace Ded
open PySem PyProof.Rows L2
section
variable {prog : Program} {w : World} {A : Around} {E : Value → Shared → Prop} {s : Shared}
theorem places_rev (n : Nat) : Builtin.Slice.slicePlaces ((n : Int) - 1) (-1) (-1) = n := by
  unfold Builtin.Slice.slicePlaces
  rw [if_neg (by decide)]
  cases n with
  | zero => rfl
  | succ n =>
    rw [if_pos (by omega)]
    have e1 : (((n + 1 : Nat) : Int) - 1 - -1 - 1) = (n : Int) := by omega
    have e2 : (- -1 : Int) = 1 := rfl
    rw [e1, e2, Int.ediv_one]
    rfl
theorem range_fm {α : Type} (xs : List α) : ∀ (n : Nat) (f : Nat → Option α), n ≤ xs.length → (∀ m, m < n → f m = xs[m]?) → (List.range n).filterMap f = xs.take n
  | 0, _, _, _ => by simp
  | n + 1, f, hn, h => by
    rw [List.range_succ, List.filterMap_append, range_fm xs n f (by omega) fun m hm => h m (by omega)]
    have e := h n (by omega)
    rw [List.getElem?_eq_getElem (by omega)] at e
    rw [List.filterMap_cons, e, List.filterMap_nil, List.take_add_one, List.getElem?_eq_getElem (by omega)]
    rfl
theorem pick_rev (xs : Array Value) : ((List.range xs.size).filterMap fun (m : Nat) => xs[((xs.size : Int) - 1 + (m : Int) * -1).toNat]?) = xs.toList.reverse := by
  have hl : xs.toList.reverse.length = xs.size := by rw [List.length_reverse, Array.length_toList]
  rw [range_fm xs.toList.reverse xs.size _ (by omega) fun m hm => ?_]
  · exact List.take_of_length_le (by omega)
  · have e : ((xs.size : Int) - 1 + (m : Int) * -1).toNat = xs.size - 1 - m := by omega
    rw [e, List.getElem?_reverse (by rw [Array.length_toList]; exact hm), Array.length_toList, Array.getElem?_toList]
theorem applied_rev {sl : Addr} {vs : Value} {n : Nat} {Q : Int × Int × Nat → Shared → Prop} (hs : s.heap.IsSliceOf sl .none .none vs) (ps : IsPart vs (some (-1)))
    (h : Q ((n : Int) - 1, -1, n) s) : wpAny (model prog w) A (Builtin.Slice.sliceApplied (.ref sl) (pure (n : Int))) Q E s := by
  obtain ⟨os, hos, hcs, hds⟩ := id hs
  unfold Builtin.Slice.sliceApplied Builtin.Slice.sliceFields
  refine wpAny_bind (wpAny_bind (wpAny_field hos hds (x := .none) rfl (wpAny_bind (wpAny_field hos hds (x := .none) rfl (wpAny_bind (wpAny_field hos hds (x := vs) rfl (wpAny_pure ?_)))))))
  refine wpAny_bind (HT.slicePart_ ps ?_)
  show wpAny _ _ (if ((-1 : Int) == 0) = true then _ else _) _ _ s
  rw [if_neg (by decide)]
  refine wpAny_bind (slicePart_none (wpAny_bind (slicePart_none (wpAny_bind (wpAny_pure ?_)))))
  show wpAny _ _ (pure ((n : Int) - 1, (-1 : Int), Builtin.Slice.slicePlaces ((n : Int) - 1) (-1) (-1))) _ _ s
  rw [places_rev]
  exact wpAny_pure h
theorem getItem_tup_rev {t sl : Addr} {items : Array Value} {vs : Value} {Q : Value → Shared → Prop} (ht : IsTup s.heap t items) (hs : s.heap.IsSliceOf sl .none .none vs) (ps : IsPart vs (some (-1)))
    (h : Q (.ref s.heap.objs.size) { s with heap := s.heap.push { cls := .type "tuple", data := .seq items.toList.reverse.toArray } }) (hsz : items.size ≤ sizeLine) : wpAny (model prog w) A (getItem (.ref t) (.ref sl)) Q E s := by
  have hz : sizeOk (.seq items.toList.reverse.toArray) := by
    show items.toList.reverse.toArray.size ≤ sizeLine
    rw [List.size_toArray, List.length_reverse, Array.length_toList]
    exact hsz
  obtain ⟨os, hos, hcs, hds⟩ := id hs
  have hTs : s.TypeIs (.ref sl) "slice" := ⟨os, hos, hcs⟩
  unfold getItem
  try with_reducible refine wpAny_holding ?_
  first | refine wpAny_bind (wpAny_pure ?_) | skip
  refine wpAny_bind (wpAny_sequenceKey ht.typeIs (by decide) ?_)
  refine wpAny_bind (wpAny_callSpecial?_slot (name := Str.ofString "__getitem__") ht.typeIs PyProof.Rows.slot_tuple_getitem (wpAny_call_entry PyProof.Rows.slot_tuple_getitem ht.typeIs entry_tuple_getitem ?_ (args_tuple_getitem _ _)))
  show wpAny _ _ (Builtin.Tuple.tupleItemsOf (.ref t) >>= _) _ _ s
  refine wpAny_bind (tupleItemsOf_ ht (wpAny_bind (wpAny_typeOf hTs ?_)))
  rw [if_pos (by decide)]
  refine wpAny_bind (applied_rev hs ps ?_)
  show wpAny _ _ (if (((items.size : Int) - 1 == 0) && (-1 : Int) == 1 && items.size == items.size) = true then _ else _) _ _ s
  rw [if_neg (by simp), pick_rev]
  first
    | exact wpAny_bind (m := Builtin.Tuple.tupleExact _) (wpAny_newObj_type (wpAny_pure ⟨_, rfl, wpAny_pure h⟩) hz)
    | exact wpAny_bind (m := Builtin.Tuple.tupleExact _) (wpAny_newObj_type (wpAny_bind (wpAny_pure (wpAny_pure ⟨_, rfl, wpAny_pure h⟩))) hz)
end
end Ded
end

section
set_option Elab.async false
set_option linter.all false
set_option maxRecDepth 100000
/-! What a call is given; calls; displays of dicts; reversal. -/
namespace Ded
open PySem PyProof.Rows L2
variable [TabName]
section
variable {K : PySem.W.Frag} {F : Fz} {ex : List Addr} {s : S} {σ : L2.St} {H : Hp} {i : Nat} {d : D} {a : Addr}
/-- one's own list is lent: from now on others hold it too -/
theorem Rel.lend (r : Rel K F ex s σ H) (e : s.ρ[i]? = some (some (.own d))) (hx : σ[i]? = some (some (.ref a))) :
    Rel K F (ex ++ [a]) { ρ := s.ρ.set i (some (.ext s.μ.length)), μ := s.μ ++ [d] } σ H ∧ Step F ex s σ H F (ex ++ [a]) { ρ := s.ρ.set i (some (.ext s.μ.length)), μ := s.μ ++ [d] } H ∧ a ∉ ex := by
  have ho : Ow s.ρ σ a := ⟨i, d, e, hx⟩
  obtain ⟨nf, nx, _⟩ := r.ow ho
  obtain ⟨y, e1, b, rfl, c, _, _⟩ := r.slot i _ e
  rw [hx] at e1; cases e1
  have ow : ∀ b, Ow (s.ρ.set i (some (.ext s.μ.length))) σ b → Ow s.ρ σ b := fun b ⟨j, d1, e3, e4⟩ => by
    rcases get_set e3 with ⟨_, z⟩ | ⟨_, z⟩
    · cases z
    · exact ⟨j, d1, z, e4⟩
  have hi : i < s.ρ.length := (List.getElem?_eq_some_iff.mp e).1
  refine ⟨⟨by simp [r.len], fun j v e3 => ?_, fun j k d1 d2 b e3 e4 => ?_, fun j d1 b e3 e4 o => ?_, by simp [r.exl], ?_, fun k d1 e3 => ?_, r.fdom⟩, ⟨⟨fun _ _ _ e _ => .inl e, fun _ o e => ⟨o, e⟩, fun _ f => f, fun _ f => .inl f, fun b m => ?_, fun t => t⟩, List.prefix_append _ _, fun j d1 e3 => ?_⟩, nx⟩
  · by_cases hj : i = j
    · subst hj
      rw [List.getElem?_set_self hi] at e3
      cases e3
      refine ⟨_, hx, a, ?_, rfl⟩
      rw [r.exl, List.getElem?_append_right (Nat.le_refl _), Nat.sub_self]; rfl
    · rw [List.getElem?_set_ne hj] at e3
      obtain ⟨x, e4, h⟩ := r.slot j v e3
      refine ⟨x, e4, ?_⟩
      cases v with
      | dat d => exact h
      | own d' =>
        obtain ⟨b, rfl, c, nf, nx⟩ := h
        refine ⟨b, rfl, c, nf, fun m => ?_⟩
        rcases List.mem_append.mp m with m | m
        · exact nx m
        · have := List.mem_singleton.mp m
          subst this
          exact hj (r.sep i j d d' b e e3 hx e4)
      | ext k =>
        obtain ⟨b, e5, rfl⟩ := h
        exact ⟨b, pre_get (List.prefix_append _ _) e5, rfl⟩
      | bor d' =>
        obtain ⟨b, rfl, c, nf, nx⟩ := h
        refine ⟨b, rfl, c, nf, fun m => ?_⟩
        rcases List.mem_append.mp m with m | m
        · exact nx m
        · have := List.mem_singleton.mp m
          subst this
          exact r.lent j d' b e3 e4 ho
      | loc _ => exact h
      | scr ns => exact h
  · rcases get_set e3 with ⟨_, z⟩ | ⟨_, z⟩
    · cases z
    · rcases get_set e4 with ⟨_, z'⟩ | ⟨_, z'⟩
      · cases z'
      · exact r.sep j k d1 d2 b z z'
  · rcases get_set e3 with ⟨_, z⟩ | ⟨_, z⟩
    · cases z
    · exact r.lent j d1 b z e4 (ow b o)
  · exact List.nodup_append.mpr ⟨r.exd, by simp, fun x hm y hy => by
      have := List.mem_singleton.mp hy
      subst this
      exact fun q => nx (by rw [← q]; exact hm)⟩
  · rcases Nat.lt_or_ge k s.μ.length with hk | hk
    · have e3 : (s.μ ++ [d])[k]? = some d1 := e3
      rw [List.getElem?_append_left hk] at e3
      obtain ⟨b, e5, z⟩ := r.cel k d1 e3
      exact ⟨b, pre_get (List.prefix_append _ _) e5, z⟩
    · have e3 : (s.μ ++ [d])[k]? = some d1 := e3
      rw [List.getElem?_append_right hk] at e3
      have hk0 : k - s.μ.length = 0 := by
        rcases Nat.eq_zero_or_pos (k - s.μ.length) with z | z
        · exact z
        · rw [List.getElem?_eq_none (by simp; omega)] at e3; cases e3
      rw [hk0] at e3
      cases e3
      refine ⟨a, ?_, nf, c⟩
      rw [List.getElem?_append_right (by rw [← r.exl]; exact hk), ← r.exl, hk0]; rfl
  · rcases m with m | m
    · rcases List.mem_append.mp m with m | m
      · exact .inl (.inl m)
      · have := List.mem_singleton.mp m
        subst this
        exact .inl (.inr ho)
    · exact .inl (.inr (ow b m))
  · rcases get_set e3 with ⟨_, z⟩ | ⟨_, z⟩
    · cases z
    · exact ⟨d1, z⟩
end
section
variable {X : Cx} {xc : Xc} {en : Entry xc.T} {Wi : XK} {e e2 e3 : Expr} {es : List Expr} {pos p apos : Pos} {m n l : M Val} {i : Nat} {x : Str}
theorem a_lend (hN : X.N[i]? = some x) (hv : Vis X.env.scope x) (hd : (x == ("__debug__" : Str)) = false) (hcd : (x == ("__classdict__" : Str)) = false) : PE X (.Name x pos) (T1 X.K xc en Wi (RAr X.K) (mLend i)) := by
  refine PE.imp (pe_var hN hv hd hcd) fun σ H Q ⟨F, ex, s, r, f, h⟩ => ?_
  unfold mLend at h
  cases e : slot s i with
  | none => rw [e] at h; exact h.elim
  | some v =>
    rw [e] at h
    have e' := slot_eq.mp e
    obtain ⟨y, e1, so⟩ := r.slot i v e'
    refine ⟨y, e1, ?_⟩
    cases v with
    | own d =>
      obtain ⟨a, rfl, c, nf, nx⟩ := so
      obtain ⟨r2, st, _⟩ := r.lend e' e1
      refine h F _ H r2 st _ ⟨a, ?_, rfl⟩
      rw [r.exl, List.getElem?_append_right (Nat.le_refl _), Nat.sub_self]; rfl
    | ext k => exact h F ex H r .refl _ so
    | scr ns => exact h F ex H r .refl _ so
    | dat _ => exact h.elim
    | bor _ => exact h.elim
    | loc _ => exact h.elim
theorem a_borw (hN : X.N[i]? = some x) (hv : Vis X.env.scope x) (hd : (x == ("__debug__" : Str)) = false) (hcd : (x == ("__classdict__" : Str)) = false) : PE X (.Name x pos) (T1 X.K xc en Wi (RAr X.K) (mBor i)) := by
  refine PE.imp (pe_var hN hv hd hcd) fun σ H Q ⟨F, ex, s, r, f, h⟩ => ?_
  unfold mBor at h
  cases e : slot s i with
  | none => rw [e] at h; exact h.elim
  | some v =>
    rw [e] at h
    obtain ⟨y, e1, so⟩ := r.slot i v (slot_eq.mp e)
    refine ⟨y, e1, ?_⟩
    cases v with
    | own d => exact h F ex H r .refl _ e1
    | bor d => exact h F ex H r .refl _ e1
    | dat d => exact h F ex H r .refl _ so
    | ext _ => exact h.elim
    | scr _ => exact h.elim
    | loc _ => exact h.elim
/-- calls -/
theorem d_call {cd : Nat → List Val → List D → R Val} {k g : Nat} {f : Addr} {fd : FuncData} {ps : List Str} {la : M (List Val)} (Fn : FnG X.prog X.w X.K X.mg X.base k f fd ps (spD X.K xc (cd g) ps.length)) (hr : Room k X.A) (hgd : X.A.guards = some []) (hg : Gl X x) (hm : X.mg x = some (.ref f))
    (hk : PySem.W.keepIn X.K (.ref f) = true) (hb : Binds X.K fd ps []) (hx : Passes (L2N.CX X.prog X.w) X Wi) (hn : ∀ us μ, us.length ≠ ps.length → cd g us μ = .bad) (ha : PA X (e :: es) (TL X.K xc en Wi (RAr X.K) la)) (hdb : (x == ("__debug__" : Str)) = false)
    (he : starEach (e :: es) X.env = (false, eval e X.env) :: starEach es X.env) (hpl : (backTo pos (starEach es X.env)).any (·.1) = false) : PEd X xc en Wi (.Call (.Name x p) (e :: es) [] pos) (mCall cd g la) :=
  PE.imp (g_call Fn hr hgd hg hm hk hb hx ha hdb he hpl) fun _ _ _ h => call_core hn h
theorem d_call0 {cd : Nat → List Val → List D → R Val} {k g : Nat} {f : Addr} {fd : FuncData} {ps : List Str} (Fn : FnG X.prog X.w X.K X.mg X.base k f fd ps (spD X.K xc (cd g) ps.length)) (hr : Room k X.A) (hgd : X.A.guards = some []) (hg : Gl X x) (hm : X.mg x = some (.ref f))
    (hk : PySem.W.keepIn X.K (.ref f) = true) (hb : Binds X.K fd ps []) (hx : Passes (L2N.CX X.prog X.w) X Wi) (hn : ∀ us μ, us.length ≠ ps.length → cd g us μ = .bad) (hdb : (x == ("__debug__" : Str)) = false) : PEd X xc en Wi (.Call (.Name x p) [] [] pos) (mCall cd g lNil) :=
  PE.imp (g_call0 Fn hr hgd hg hm hk hb hx hdb) fun _ H _ h => by
    obtain ⟨F, ex, s, r, f, h⟩ := call_core hn h
    exact h F ex H r .refl [] .nil
theorem d_callk {cd : Nat → List Val → List D → R Val} {k g : Nat} {f : Addr} {fd : FuncData} {ps : List Str} {kws : List Keyword} {la : M (List Val)} (Fn : FnG X.prog X.w X.K X.mg X.base k f fd ps (spD X.K xc (cd g) ps.length)) (hr : Room k X.A) (hgd : X.A.guards = some []) (hg : Gl X x) (hm : X.mg x = some (.ref f))
    (hk : PySem.W.keepIn X.K (.ref f) = true) (hb : ∀ (s : Shared) (us : List Value), X.K.In s.heap → us.length = ps.length → BindsTo s fd ⟨[], ps.zip us⟩ (ps.zip us)) (hx : Passes (L2N.CX X.prog X.w) X Wi) (hn : ∀ us μ, us.length ≠ ps.length → cd g us μ = .bad)
    (ha : PK X kws (TL X.K xc en Wi (RAr X.K) la)) (hdb : (x == ("__debug__" : Str)) = false)
    (hall : (backToKw pos (keywordEach kws X.env)).all (·.1.isSome) = true) (hks : (backToKw pos (keywordEach kws X.env)).filterMap (·.1) = ps) (hnn : (backToKw pos (keywordEach kws X.env)).any (·.1.isNone) = false) : PEd X xc en Wi (.Call (.Name x p) [] kws pos) (mCall cd g la) :=
  PE.imp (g_callk Fn hr hgd hg hm hk hb hx ha hdb hall hks hnn) fun _ _ _ h => call_core hn h
theorem all2_get' {α : Type} {R : V → α → Prop} : ∀ {xs : List V} {as : List α} (i : Nat), All2 R xs as → (∃ x a, xs[i]? = some x ∧ as[i]? = some a ∧ R x a) ∨ (xs[i]? = none ∧ as[i]? = none)
  | _, _, _, .nil => .inr ⟨by simp, by simp⟩
  | _, _, 0, .cons a _ => .inl ⟨_, _, rfl, rfl, a⟩
  | _, _, i + 1, .cons _ r => by
    rcases all2_get' i r with ⟨v, u, h1, h2, h3⟩ | ⟨h1, h2⟩
    · exact .inl ⟨v, u, by simpa using h1, by simpa using h2, h3⟩
    · exact .inr ⟨by simpa using h1, by simpa using h2⟩
theorem all2_rearr {α : Type} {R : V → α → Prop} {xs : List V} {as : List α} (r : All2 R xs as) : ∀ ix : List Nat, All2 R (rearr ix xs) (rearr ix as)
  | [] => .nil
  | i :: ix => by
    have ih := all2_rearr r ix
    unfold rearr at ih ⊢
    rw [List.filterMap_cons, List.filterMap_cons]
    rcases all2_get' i r with ⟨v, u, h1, h2, h3⟩ | ⟨h1, h2⟩
    · rw [h1, h2]; exact .cons h3 ih
    · rw [h1, h2]; exact ih
theorem tl_rearr {α : Type} {R : RVx α} {l : M (List α)} {ix : List Nat} {n : Nat} (hn : nLen l n) {σ : L2.St} {H : Hp} {Q : List V → Hp → Prop} (h : TL X.K xc en Wi R (M.bind l fun vs => M.ret (rearr ix vs)) σ H Q) : TL X.K xc en Wi R l σ H fun xs H1 => xs.length = n ∧ Q (rearr ix xs) H1 := by
  refine TL.len hn ?_
  obtain ⟨F, ex, s, r, fr, h⟩ := h
  exact ⟨F, ex, s, r, fr, (Ends_.bind (m := l) h).imp fun F1 ex1 H1 s1 as e1 r1 st1 q xs rs => q F1 ex1 H1 r1 st1 (rearr ix xs) (all2_rearr rs ix)⟩
theorem d_callp {cd : Nat → List Val → List D → R Val} {k g n : Nat} {f : Addr} {fd : FuncData} {ps ks : List Str} {ix : List Nat} {kws : List Keyword} {la : M (List Val)} (Fn : FnG X.prog X.w X.K X.mg X.base k f fd ps (spD X.K xc (cd g) ps.length)) (hr : Room k X.A) (hgd : X.A.guards = some []) (hg : Gl X x) (hm : X.mg x = some (.ref f))
    (hk : PySem.W.keepIn X.K (.ref f) = true) (hb : ∀ (s : Shared) (us : List Value), X.K.In s.heap → us.length = n → BindsTo s fd ⟨[], ks.zip us⟩ (ps.zip (rearr ix us))) (hx : Passes (L2N.CX X.prog X.w) X Wi) (hn : ∀ us μ, us.length ≠ ps.length → cd g us μ = .bad)
    (ha : PK X kws (TL X.K xc en Wi (RAr X.K) la)) (hla : nLen la n) (hdb : (x == ("__debug__" : Str)) = false)
    (hall : (backToKw pos (keywordEach kws X.env)).all (·.1.isSome) = true) (hks : (backToKw pos (keywordEach kws X.env)).filterMap (·.1) = ks) (hnn : (backToKw pos (keywordEach kws X.env)).any (·.1.isNone) = false) : PEd X xc en Wi (.Call (.Name x p) [] kws pos) (mCall cd g (M.bind la fun vs => M.ret (rearr ix vs))) :=
  PE.imp (g_callp Fn hr hgd hg hm hk hb hx ha hdb hall hks hnn) fun _ _ _ h => tl_rearr hla (call_core hn h)
theorem PK.imp {kws : List Keyword} {t t' : TA} (h : PK X kws t) (q : ∀ σ H Q, t' σ H Q → t σ H Q) : PK X kws t' := ⟨fun p pins s σ H Q I z => h.run p pins s σ H Q I (q σ H Q z)⟩
theorem kw_nil {α : Type} {Rr : RVx α} : PK X [] (TL X.K xc en Wi Rr lNil) := PK.imp pk_nil fun σ H Q ⟨F, ex, s, r, fr, h⟩ => h F ex H r Step.refl [] .nil
theorem kw_cons {α : Type} {Rr : RVx α} {kws : List Keyword} {nm : Option Str} {kpos : Pos} {m : M α} {l : M (List α)} (hR : Stable X.K Rr) (ha : PE X e (T1 X.K xc en Wi Rr m)) (hl : PK X kws (TL X.K xc en Wi Rr l)) : PK X (⟨nm, e, kpos⟩ :: kws) (TL X.K xc en Wi Rr (lCons m l)) := by
  refine PK.imp (pk_cons ha hl) fun σ H Q ⟨F, ex, s, r, fr, h⟩ => ?_
  refine ⟨F, ex, s, r, fr, (Ends_.bind (m := m) h).imp fun F1 ex1 H1 s1 a e1 r1 st1 q x rx => ?_⟩
  refine ⟨F1, ex1, s1, r1, fr.step st1, ((Ends_.bind (m := l) q).later st1).imp fun F2 ex2 H2 s2 as e2 r2 st2 q xs rs => ?_⟩
  exact q F2 ex2 H2 r2 (st1.trans st2) (x :: xs) (.cons (hR r1 st2 rx) rs)
/-! ### dicts -/
def TKv (K : PySem.W.Frag) (xc : Xc) (en : Entry xc.T) (Wi : XK) (l : M (List (D × D))) (σ : L2.St) (H : Hp) (Q : List (V × V) → Hp → Prop) : Prop :=
  ∃ F ex s, Rel K F ex s σ H ∧ From en F ex s σ H ∧ Ends_ K xc en Wi (l s) F ex s σ H fun F' ex' H' s' ps => ∀ kvs, RfK K F' H' kvs ps → Q (kvs.map fun kv => (kV kv.1, kv.2)) H'
structure PKv (X : Cx) (xc : Xc) (en : Entry xc.T) (Wi : XK) (pos : Pos) (ks : List (Option Expr)) (vs : List Expr) (l : M (List (D × D))) : Prop where
  ex : ∃ trs, PPs X pos ks vs trs ∧ ∀ σ H Q, TKv X.K xc en Wi l σ H Q → tPairs trs σ H Q
  all : ks.all (·.isSome) = true
  len : ks.length = vs.length
theorem kv_nil : PKv X xc en Wi pos [] [] lNil := ⟨⟨[], pps_nil, fun σ H Q ⟨F, ex, s, r, fr, h⟩ => h F ex H r .refl [] .nil⟩, rfl, rfl⟩
theorem kv_cons {ks : List (Option Expr)} {vs : List Expr} {ml : M (List (D × D))} (hk : PEd X xc en Wi e m) (hv : PEd X xc en Wi e2 n) (h : PKv X xc en Wi pos ks vs ml) : PKv X xc en Wi pos (some e :: ks) (e2 :: vs) (lKv m n ml) := by
  obtain ⟨trs, hp, hq⟩ := h.ex
  refine ⟨⟨_, pps_cons (d_frz hk) (d_frz hv) hp, fun σ H Q ⟨F, ex, s, r, fr, h⟩ => ?_⟩, by rw [List.all_cons, h.all]; rfl, by rw [List.length_cons, List.length_cons, h.len]⟩
  refine ⟨F, ex, s, r, fr, (Ends_.bind (m := mFrz m) h).imp fun F1 ex1 H1 s1 dk e1 r1 st1 q x rx => ?_⟩
  refine ⟨F1, ex1, s1, r1, fr.step st1, ((Ends_.bind (m := mFrz n) q).later st1).imp fun F2 ex2 H2 s2 dv e2 r2 st2 q y ry => ?_⟩
  refine hq σ H2 _ ⟨F2, ex2, s2, r2, (fr.step st1).step st2, ((Ends_.bind (m := ml) q).later (st1.trans st2)).imp fun F3 ex3 H3 s3 ps e3 r3 st3 q kvs rk => ?_⟩
  have rx : Rf X.K F1 H1 x dk := rx
  have ry : Rf X.K F2 H2 y dv := ry
  split at q
  · rename_i hkey
    obtain ⟨key, rfl, rfl⟩ := key_of hkey (.inl rx)
    exact q F3 ex3 H3 r3 ((st1.trans st2).trans st3) ((key, y) :: kvs) (.cons (ry.mono st3.grow.fmono (st3.grow.kp r2.dj)) rk)
  · exact q.elim
theorem d_dct {ks : List (Option Expr)} {vs : List Expr} {ml : M (List (D × D))} (h : PKv X xc en Wi pos ks vs ml) (h0 : ks ≠ []) (h15 : ks.length ≤ 15) : PEd X xc en Wi (.Dict ks vs pos) (mDct ml) := by
  obtain ⟨trs, hp, hq⟩ := h.ex
  refine PE.imp (pe_disp hp h.all h.len h0 h15) fun σ H Q ⟨F, ex, s, r, fr, hh⟩ p hpn => hq _ _ _ ?_
  have nw := New.own (F := F) r.fdom hpn (.dK [])
  have st0 : Step F ex s σ H F ex s (upd H p (.dK [])) := ⟨nw.grow _, List.prefix_refl _, .refl⟩
  have nF : ¬ F p := fun f => by obtain ⟨o, e⟩ := r.fdom _ f; rw [hpn] at e; cases e
  have nM : ¬ Mu s.ρ σ ex p := fun f => by obtain ⟨o, e⟩ := r.mdom f; rw [hpn] at e; cases e
  have nB : ¬ Bo s.ρ σ p := fun f => by obtain ⟨o, e⟩ := r.bo f; rw [hpn] at e; cases e
  refine ⟨F, ex, s, r.new nw, fr.step st0, ((Ends_.bind (m := ml) hh).later st0).imp fun F1 ex1 H1 s1 ps e1 r1 st1 q kvs rk => ?_⟩
  have nF1 : ¬ F1 p := fun f => by
    rcases st1.grow.fnew _ f with z | z | z
    · exact nF z
    · exact nM z
    · rw [upd_same] at z; cases z
  have hp1 : H1 p = some (.dK []) := (st1.grow.keep _ _ nt_dK upd_same nM).off nF1
  have nM1 : ¬ Mu s1.ρ σ ex1 p := fun f => by
    rcases st1.grow.mnew _ f with z | z
    · exact nM z
    · rw [upd_same] at z; cases z
  have nB1 : ¬ Bo s1.ρ σ p := fun f => nB (st1.bo.bo f)
  split at q
  · rename_i hz
    refine ⟨hp1, kvs, rfl, by rw [rk.length]; exact hz, ?_⟩
    have kp : Kp F1 H1 (upd H1 p (.dK (mergeK [] kvs))) := .of fun b u f _ z => by
      rw [upd_ne (fun q => nF1 (by rw [← q]; exact f))]; exact z
    have r2 := r1.other (p := p) (o := .dK (mergeK [] kvs)) nF1 nM1 nB1 (fun a u z => by rw [hp1] at z; cases z) (fun t => tabs_at hp1 nt_dK (fun f z => nomatch z) t)
    have st2 : Step F ex s σ H F1 ex1 s1 (upd H1 p (.dK (mergeK [] kvs))) := by
      refine ⟨⟨fun a o nt e n => ?_, fun a o e => ?_, st1.grow.fmono, fun a f => ?_, fun a f => ?_, fun t => tabs_at hp1 nt_dK (fun f z => nomatch z) (st1.grow.tab (t.ext fun b o e => by rw [upd_ne (fun q => by rw [q, hpn] at e; cases e)]; exact e))⟩, st1.pre, st1.bo⟩
      · have hne : a ≠ p := fun q => by rw [q, hpn] at e; cases e
        rw [upd_ne hne]
        exact st1.grow.keep a o nt (by rw [upd_ne hne]; exact e) n
      · have hne : a ≠ p := fun q => by rw [q, hpn] at e; cases e
        rw [upd_ne hne]
        exact st1.grow.dom a o (by rw [upd_ne hne]; exact e)
      · rcases st1.grow.fnew a f with z | z | z
        · exact .inl z
        · exact .inr (.inl z)
        · refine .inr (.inr ?_)
          by_cases hne : a = p
          · rw [hne]; exact hpn
          · rw [upd_ne hne] at z; exact z
      · rcases st1.grow.mnew a f with z | z
        · exact .inl z
        · refine .inr ?_
          by_cases hne : a = p
          · rw [hne]; exact hpn
          · rw [upd_ne hne] at z; exact z
    refine q F1 ex1 _ r2 st2 _ ⟨p, rfl, ⟨_, upd_same, ?_⟩, nF1, nM1, nB1, hpn⟩
    exact RfK.mono (fun _ f => f) kp _ (merge_rf rk .nil)
  · exact q.elim
/-- {} -/
theorem d_dct0 : PEd X xc en Wi (.Dict [] [] pos) (mDct lNil) := by
  refine PE.imp pe_dnewK fun σ H Q ⟨F, ex, s, r, fr, hh⟩ p hpn => ?_
  have nw := New.own (F := F) r.fdom hpn (.dK [])
  have st0 : Step F ex s σ H F ex s (upd H p (.dK [])) := ⟨nw.grow _, List.prefix_refl _, .refl⟩
  have nF : ¬ F p := fun f => by obtain ⟨o, e⟩ := r.fdom _ f; rw [hpn] at e; cases e
  have nM : ¬ Mu s.ρ σ ex p := fun f => by obtain ⟨o, e⟩ := r.mdom f; rw [hpn] at e; cases e
  have nB : ¬ Bo s.ρ σ p := fun f => by obtain ⟨o, e⟩ := r.bo f; rw [hpn] at e; cases e
  exact hh F ex (upd H p (.dK [])) (r.new nw) st0 _ ⟨p, rfl, ⟨[], upd_same, .nil⟩, nF, nM, nB, hpn⟩
/-! ### reversal -/
def tRevD (K : PySem.W.Frag) (te : TE) : TE := fun σ H Q => te σ H fun x H1 => ∃ a xs, x = .ref a ∧ ((SqL K H1 a xs ∧ ∀ p, H1 p = none → Q (.ref p) (upd H1 p (.lst xs.reverse))) ∨ (SqT K H1 a xs ∧ PlQ H1 xs.reverse Q))
theorem pe_revD {te : TE} {k : Nat} {p1 p2 p3 : Pos} (he : PE X e te) : PE X (.Subscript e (.Slice none none (some (.UnaryOp .USub (.Constant (.int 1) k p1) p2)) p3) pos) (tRevD X.K te) := by
  refine ⟨fun pins s σ H Q I h => Subscript_ (thn (he.run pins s σ H _ I h) fun v s1 ⟨x, H1, I1, r1, a, xs, ex, q⟩ => ?_)⟩
  subst ex
  cases r1
  have step : PO X (some (.UnaryOp .USub (.Constant (.int 1) k p1) p2)) (tPart (tUn (rU fun i => .int (-i)) (tC (.int 1)))) := po_some (pe_un un_neg pe_int)
  refine wpAny_Slice (thn (po_none.run pins s1 σ H1 (fun o H' => o = none ∧ H' = H1) I1 ⟨rfl, rfl⟩) fun u1 s2 ⟨o1, H2, I2, w1, y1, z1⟩ => ?_)
  subst y1 z1
  refine thn (po_none.run pins s2 σ H2 (fun o H' => o = none ∧ H' = H2) I2 ⟨rfl, rfl⟩) fun u2 s3 ⟨o2, H3, I3, w2, y2, z2⟩ => ?_
  subst y2 z2
  refine thn (step.run pins s3 σ H3 (fun o H' => o = some (-1) ∧ H' = H3) I3 ⟨1, rfl, -1, rfl, rfl, rfl⟩) fun u3 s4 ⟨o3, H4, I4, w3, y3, z3⟩ => ?_
  subst y3 z3
  generalize hsl : ({ s4 with heap := s4.heap.push { cls := .type "slice", data := .fields #[u1, u2, u3] } } : Shared) = s5
  have I5 : Inv X pins σ H4 s5 := by rw [← hsl]; exact I4.kept (t' := s4.toks) fun b ob q => Heap.get?_push_of_some _ q
  have sl : s5.heap.IsSliceOf s4.heap.objs.size u1 u2 u3 := by rw [← hsl]; exact Heap.IsSliceOf.new _ u1 u2 u3
  rcases q with ⟨hx, q⟩ | ⟨hx, q⟩
  · obtain ⟨its, r, ht, hz⟩ := I5.list hx
    have hlen := r.length
    refine PyProof.Rows.tail_any (ops := [.ref a, .ref s4.heap.objs.size]) ht.isList.typeIs (PySem.slot_list_getitem.lookup) ?_ (by with_unfolding_all rfl)
    refine wpAny_getItem_list_slice ht.isList sl w1 w2 w3 (by decide) ?_ (by rw [List.size_toArray]; omega)
    rw [PySem.W.krv_pick]
    exact ⟨.ref _, _, I5.laid (t' := s5.toks) (o := .lst xs.reverse) (fun b ob q => Heap.get?_push_of_some _ q) (Nat.le_refl _) ⟨by rw [List.length_reverse]; exact hz, _, 0, r.reverse, Heap.get?_push_size _ rfl⟩, rfl, q _ (I5.hok.fresh (Nat.le_refl _))⟩
  · obtain ⟨its, r, ht, hz⟩ := I5.tuple hx
    have hlen := r.length
    cases w1
    cases w2
    refine PyProof.Rows.tail_any (ops := [.ref a, .ref s4.heap.objs.size]) ht.typeIs PyProof.Rows.slot_tuple_getitem.lookup ?_ (by with_unfolding_all rfl)
    refine getItem_tup_rev ht sl w3 ?_ (by rw [List.size_toArray]; omega)
    exact plain_end I5 r.reverse (by rw [List.length_reverse]; exact hz) (tk := s5.toks) q
theorem d_rev {k : Nat} {p1 p2 p3 : Pos} (he : PEd X xc en Wi e m) : PEd X xc en Wi (.Subscript e (.Slice none none (some (.UnaryOp .USub (.Constant (.int 1) k p1) p2)) p3) pos) (mRev m) := by
  refine PE.imp (pe_revD he) fun σ H Q h => ?_
  obtain ⟨F, ex, s, r, fr, h⟩ := h.one
  refine ⟨F, ex, s, r, fr, h.imp fun F1 ex1 H1 s1 v e1 r1 st1 q x rv => ?_⟩
  obtain ⟨F2, d, res, hF, rx, er, q⟩ := q x rv
  unfold revD at er
  split at er
  · obtain ⟨a, xs, rfl, ea, z, ra⟩ := rt_list rx
    cases er
    exact ⟨a, xs, rfl, .inl ⟨SqL.of ea, fun p hp => q _ _ _ (ResOk.lst hF hp (by rw [List.length_reverse]; exact z) ra.reverse)⟩⟩
  · obtain ⟨a, xs, rfl, fa, ea, z, ra⟩ := rt_tup rx
    cases er
    exact ⟨a, xs, rfl, .inr ⟨ea.sq, fun p o hp hd => q _ _ _ (ResOk.tup hF hp hd (by rw [List.length_reverse]; exact z) ra.reverse)⟩⟩
  · cases er
end
end Ded
end

section
set_option Elab.async false
set_option linter.all false
set_option maxRecDepth 100000
/-! A lambda without parameters, handed to a def that calls it at once. -/
namespace Ded
open PySem L2
open PySem.Spec PyProof.Rows
open LamX (CodeO TabS Tabs TabB LamS lamEnv)
variable [TabName]
/-- all but tables stay as they are, nothing goes -/
structure Ext2 (H H1 : Hp) : Prop where
  same : ∀ b o, NT o → H b = some o → H1 b = some o
  dom : ∀ b o, H b = some o → ∃ o', H1 b = some o'
theorem Ext2.refl (H : Hp) : Ext2 H H := ⟨fun _ _ _ e => e, fun _ o e => ⟨o, e⟩⟩
section
variable {X : Cx} {pins : List (Addr × Obj)} {σ : L2.St} {H : Hp} {s : Shared}
theorem mk_lam {c P : Addr} {params : Arguments} {body : Expr} {scope : Scope} {pos : Pos} {E : Value → Shared → Prop} {Q : Value → Shared → Prop} {nm : Str} (hnm : nm = X.env.qual ++ "<lambda>") (I : L2.Inv X pins σ H s) (TB : TabB X.base X.mg c P) (hcode : X.env.code = .ref c)
    (hm : (P, nm) ∈ TabName.T) (hu : ∀ p ∈ TabName.T, p.1 = P → p.2 = nm) (hT : Tabs TabName.T H) (hdef : defaultsOf params X.env = ([], [])) (hfree : ∀ y ∈ scope.names, y.2 = .free → ∃ c, X.env.cells.lookup y.1 = some c)
    (k : ∀ (f c' : Addr) (pm ctv : Value) (H1 : Hp) (t : Shared), L2.Inv X pins σ H1 t → Ext2 H H1 → Tabs TabName.T H1 →
      t.heap.get? f = some (PySem.W.kla_obj "<lambda>" nm params body scope (cloFrom X.env.cells scope.names []) pm c' ctv) → H1 f = none → f ∉ frs X.stack → H1 c' = some (CodeO c' nm) → Q (.ref f) t) :
    wpAny (model X.prog X.w) X.A (eval (.Lambda params body scope pos) X.env) Q E s := by
  subst hnm
  obtain ⟨ps, eP, triples, among⟩ := hT _ hm
  have atP : s.heap.get? P = some { cls := .none, data := .fields ps } := I.hok P _ eP
  have bltP : s.heap.BuiltinsAt X.mg P := TB.bm.keeps I.bk
  have out : ∀ a, s.heap.objs.size ≤ a → a ∉ frs X.stack := fun a ha m => (List.mem_cons.mp (I.stkSub _ m)).elim (fun e => Nat.lt_irrefl _ (Nat.lt_of_lt_of_le (e ▸ I.lt) ha)) fun e => I.nofs ha e
  refine PySem.W.kla_eval hdef ?_
  cases known : codeAmong pos ps.toList with
  | some cv =>
    obtain ⟨c', rfl, isC⟩ := among pos cv known
    refine PySem.W.kla_makeFunctionHit (ps := ps) (P := P) (c := c) (mg := X.mg) (closure_ok hfree) I.ok.glob (I.mod.glob.keeps I.bk) hcode (TB.code.keeps I.bk) atP triples known bltP fun ctv g tk old size => ?_
    exact k g.objs.size c' ((X.mg "__name__").getD .none) ctv H _ (I.kept (t' := tk) fun b o e => Heap.get?_push_of_some _ (old b o e)) (Ext2.refl H) hT (Heap.get?_push_size _ rfl) (I.hok.fresh size) (out _ size) isC
  | none =>
    refine PySem.W.kla_makeFunction (ps := ps) (P := P) (c := c) (mg := X.mg) (closure_ok hfree) I.ok.glob (I.mod.glob.keeps I.bk) hcode (TB.code.keeps I.bk) atP triples known TB.gP bltP fun c' ctv g tk old ge lt rec tab => ?_
    obtain ⟨_, oc, vs, t, e0, goc, gd, gv⟩ := rec
    cases e0
    have sizes : s.heap.objs.size ≤ g.objs.size := Nat.le_trans ge (Nat.le_of_lt lt)
    have freshC : H c' = none := I.hok.fresh ge
    have PneC : P ≠ c' := fun z => by rw [z, freshC] at eP; cases eP
    let more : Array Value := #[rawInt pos.line, rawInt pos.col, .ref c']
    let H1 : Hp := upd (upd H P (.tbl (ps ++ more))) c' (CodeO c' (X.env.qual ++ "<lambda>"))
    have at1 : ∀ {b : Addr}, b ≠ P → b ≠ c' → H1 b = H b := fun n1 n2 => (upd_ne n2).trans (upd_ne n1)
    have atTab : H1 P = some (.tbl (ps ++ more)) := (upd_ne PneC).trans upd_same
    have atC : H1 c' = some (CodeO c' (X.env.qual ++ "<lambda>")) := upd_same
    have neC : ∀ {b : Addr} {o : HO}, H b = some o → b ≠ c' := fun e z => by rw [z, freshC] at e; cases e
    have ext : Ext2 H H1 := ⟨fun b o nt e => (at1 (fun z => by rw [z, eP] at e; exact nt ps (Option.some.inj e).symm) (neC e)).trans e, fun b o e => by
      by_cases z : b = P
      · exact ⟨_, z ▸ atTab⟩
      · exact ⟨o, (at1 z (neC e)).trans e⟩⟩
    have inv := LamX.inv_table (t' := tk) (more := more) (c := c') (q := X.env.qual ++ "<lambda>") (h' := g.push (PySem.W.kla_obj "<lambda>" (X.env.qual ++ "<lambda>") params body scope (cloFrom X.env.cells scope.names []) ((X.mg "__name__").getD .none) c' ctv)) I eP
      (fun b o n e => Heap.get?_push_of_some _ (old b o n e)) (Heap.get?_push_of_some _ tab) ge ⟨oc, vs, t, Heap.get?_push_of_some _ goc, gd, gv⟩
    have ntC : ∀ {c0 : Addr} {q0 : Str}, NT (CodeO c0 q0) := fun ps => LamX.codeO_ne ps
    refine k g.objs.size c' ((X.mg "__name__").getD .none) ctv H1 _ inv ext (fun p hp => ?_) (Heap.get?_push_size _ rfl) ?_ (out _ sizes) atC
    · by_cases z : p.1 = P
      · rw [hu p hp z, z]
        have lst : (ps ++ more).toList = ps.toList ++ [rawInt pos.line, rawInt pos.col, .ref c'] := by simp [more]
        refine ⟨ps ++ more, atTab, by rw [lst]; exact PySem.TriplesOk_snoc _ _ _ _ triples, fun p' cv found => ?_⟩
        rw [lst] at found
        rcases LamX.among_app _ triples found with q | q
        · obtain ⟨c0, e1, e2⟩ := among p' cv q
          exact ⟨c0, e1, ext.same _ _ ntC e2⟩
        · exact ⟨c', q, atC⟩
      · obtain ⟨qs, a1, a2, a3⟩ := hT p hp
        refine ⟨qs, (at1 z (neC a1)).trans a1, a2, fun p' cv found => ?_⟩
        obtain ⟨c0, e1, e2⟩ := a3 p' cv found
        exact ⟨c0, e1, ext.same _ _ ntC e2⟩
    · exact (at1 (Nat.ne_of_gt (Nat.lt_of_lt_of_le (Heap.lt_size atP) sizes)) (Nat.ne_of_gt lt)).trans (I.hok.fresh sizes)
end
/-- where a lambda's body runs, entered at s from the frames outer -/
def lamX (X : Cx) (A : Around) (outer : List Env) (s : Shared) (H : Hp) (E : XK) (scope : Scope) (f c' : Addr) : Cx :=
  (LamX.lamCx X A outer s H E scope f c').wish fun e t => wpAny (model X.prog X.w) (A.deeper (lamEnv X scope s.heap.objs.size f c')) (leaving (lamEnv X scope s.heap.objs.size f c') e) (fun _ r => L2N.CX X.prog X.w outer H s E e r) (fun e' r => L2N.CX X.prog X.w outer H s E e' r) t
section
variable {X : Cx} {pins : List (Addr × Obj)} {σ : L2.St} {H : Hp} {s : Shared}
/-- q(), in the def that got the lambda -/
theorem act_lam {CXg : CXT} {Eg : XK} {Ng : List Str} {qg nm : Str} {sg scope : Scope} {g f c' : Addr} {cdg pm ctv : Value} {params : Arguments} {body : Expr} {k i : Nat} {q : Str} {pn : List (Addr × Obj)} {xe : Value → Shared → Prop} {W : WX} {E : XK} {tb : TE} {p1 p2 : Pos}
    (hnm : nm = X.env.qual ++ "<lambda>") (I : L2.Inv X pins σ H s) (L : LamS X.env.scope scope) (hf : s.heap.get? f = some (PySem.W.kla_obj "<lambda>" nm params body scope (cloFrom X.env.cells scope.names []) pm c' ctv)) (hfn : H f = none) (hfr : f ∉ frs X.stack)
    (bind0 : bindArgs (PySem.W.kla_fn "<lambda>" nm params body scope (cloFrom X.env.cells scope.names []) pm (.ref c') ctv) ⟨[], []⟩ = pure [])
    (tk : L2N.Takes ((cxOf CXg X.prog X.w X.K X.mg X.base Ng qg sg g cdg X.A X.stack s H Eg).tr pn xe) W) (hW : ∀ cls d σ' H', E cls d H' → W cls d σ' H') (room : Room (k + 1) (X.A.deeper (envOfC qg sg s.heap.objs.size g cdg)))
    (hbody : ∀ (outer : List Env) (s1 : Shared) (H1 : Hp), Room k ((X.A.deeper (envOfC qg sg s.heap.objs.size g cdg)).deeper (lamEnv X scope s1.heap.objs.size f c')) → PE (lamX X (X.A.deeper (envOfC qg sg s.heap.objs.size g cdg)) outer s1 H1 E scope f c') body tb)
    (hN : Ng[i]? = some q) (hv : Vis sg q) (hd : (q == ("__debug__" : Str)) = false) (hcd : (q == ("__classdict__" : Str)) = false) :
    PE ((cxOf CXg X.prog X.w X.K X.mg X.base Ng qg sg g cdg X.A X.stack s H Eg).tr pn xe) (.Call (.Name q p1) [] [] p2)
      (fun σZ HZ Q => σZ[i]? = some (some (.ref f)) ∧ HZ c' = some (CodeO c' nm) ∧ tb σ HZ Q) := by
  subst hnm
  constructor
  rintro pinsZ sZ σZ HZ Q IZ ⟨slotF, codeC, ask⟩
  have var := (pe_var (X := (cxOf CXg X.prog X.w X.K X.mg X.base Ng qg sg g cdg X.A X.stack s H Eg).tr pn xe) (pos := p1) (i := i) hN hv hd hcd).run pinsZ sZ σZ HZ (fun v H1 => v = .ref f ∧ H1 = HZ) IZ ⟨.ref f, slotF, rfl, rfl⟩
  refine wpAny_Call_Name_kw (thn var ?_)
  rintro u s1 ⟨v, H1, I1, rel, rfl, rfl⟩
  obtain rfl : u = Value.ref f := rel
  have stays : s1.heap.get? f = some (PySem.W.kla_obj "<lambda>" (X.env.qual ++ "<lambda>") params body scope (cloFrom X.env.cells scope.names []) pm c' ctv) :=
    I1.base.keep f _ hf hfn hfr fun z => nomatch (show f ∈ ([] : List Addr) from z)
  refine PySem.W.callWith_F0 ⟨_, _, _, _, stays⟩ ?_
  have since : Un (frs X.stack) [] H H1 s.heap s1.heap := I1.base
  obtain ⟨⟨oc, vs, t, atC, dC, nC⟩, _, _⟩ := I1.hok c' _ codeC
  have pass : Passes (L2N.CX X.prog X.w) ((cxOf CXg X.prog X.w X.K X.mg X.base Ng qg sg g cdg X.A X.stack s H Eg).tr pn xe) E := L2N.passes_call tk hW
  have called : codeAny (model X.prog X.w) (X.A.deeper (envOfC qg sg s.heap.objs.size g cdg)) (.call (.ref f) ⟨[], []⟩) (CR (L2N.CX X.prog X.w) (envOfC qg sg s.heap.objs.size g cdg :: X.stack) X.prog X.w H1 s1 Q E) s1 := by
    refine PySem.W.kla_callFunE room.depth stays rfl L.co L.gen rfl ⟨c', oc, vs, t, rfl, atC, dC, nC⟩ ?_
    rw [bind0]
    refine wpAny_pure (wpAny_newFunctionEnv (fun y m => (L.own y m).2) (fun y m => nomatch m) (fun h1 ns new => ⟨I1.nolimit.fresh _ new, ?_⟩) L.kind)
    have older : ∀ b o, s1.heap.get? b = some o → h1.get? b = some o := fun b o e => new.extBut b o (Nat.ne_of_lt (Heap.lt_size e)) (Heap.get?_push_of_some _ e)
    have start := LamX.lam_start2 (c' := c') (f := f) (E := E) (tk := s1.toks + ([] : List (Str × Value)).length) I L I1.env0 room.hd since ns older
    have startX : L2.Inv (lamX X (X.A.deeper (envOfC qg sg s.heap.objs.size g cdg)) (envOfC qg sg s.heap.objs.size g cdg :: X.stack) s1 H1 E scope f c') [] σ H1 { s1 with heap := h1, toks := s1.toks + ([] : List (Str × Value)).length } := start.wish _
    have ran := (hbody (envOfC qg sg s.heap.objs.size g cdg :: X.stack) s1 H1 (room.deeper _)).run [] _ _ H1 Q startX ask
    refine PySem.W.kla_codeExpr (wpAny_mono ran ?_ fun e s' z => z)
    rintro v s' ⟨w, H', J, rv, z⟩
    exact ⟨w, H', J.os, J.bare, J.base, J.hok, rv, z⟩
  refine wpAny_call (codeAny_mono called fun r s' z => ?_)
  rcases r with e | fl
  · exact pass pinsZ σZ H1 s1 e s' I1 z
  · cases fl <;> first | exact I1.after z | exact False.elim z
end
/-! ### told: what a lambda says -/
theorem mask_get {ρ : List (Option Val)} {i : Nat} {v : Val} (e : (ρ.map maskV)[i]? = some (some v)) : ρ[i]? = some (some v) ∧ (∀ d, v ≠ .own d) ∧ ∀ d, v ≠ .bor d := by
  rw [List.getElem?_map] at e
  obtain ⟨o, e1, e2⟩ := Option.map_eq_some_iff.mp e
  cases o with
  | none => cases e2
  | some w =>
    cases w <;> first | (cases e2; done) | skip
    all_goals
      cases e2
      exact ⟨e1, (fun _ z => nomatch z), (fun _ z => nomatch z)⟩
section
variable {K : PySem.W.Frag} {F : Fz} {ex : List Addr} {s : S} {σ : L2.St} {H H1 : Hp}
theorem Rel.mask (r : Rel K F ex s σ H) : Rel K F ex ⟨s.ρ.map maskV, s.μ⟩ σ H where
  len := by rw [← r.len]; exact List.length_map _
  slot := fun i v e => r.slot i v (mask_get e).1
  sep := fun i j d d' a e => absurd rfl ((mask_get e).2.1 d)
  lent := fun i d a e => absurd rfl ((mask_get e).2.2 d)
  exl := r.exl
  exd := r.exd
  cel := r.cel
  fdom := r.fdom
theorem mu_mask {a : Addr} (m : Mu (s.ρ.map maskV) σ ex a) : a ∈ ex := by
  rcases m with m | ⟨i, d, e, _⟩
  · exact m
  · exact absurd rfl ((mask_get e).2.1 d)
theorem Ext2.grow (e : Ext2 H H1) (t : Tabs TabName.T H1) (F M : Fz) : Grow F M H F M H1 :=
  ⟨fun a o nt z _ => .inl (e.same a o nt z), e.dom, fun _ f => f, fun _ f => .inl f, fun _ m => .inl m, fun _ => t⟩
theorem Rel.ext2 (r : Rel K F ex s σ H) (e : Ext2 H H1) (t : Tabs TabName.T H1) : Rel K F ex s σ H1 where
  len := r.len
  slot := fun i v z => by
    obtain ⟨x, e1, h⟩ := r.slot i v z
    exact ⟨x, e1, h.grow (e.grow t F fun _ => False) (fun _ _ z => z) (fun _ _ _ z => z.elim) (fun _ _ e => e) (fun a m => .inl m) fun _ _ _ _ z => z⟩
  sep := r.sep
  lent := r.lent
  exl := r.exl
  exd := r.exd
  cel := fun k d z => by
    obtain ⟨a, e1, nf, c⟩ := r.cel k d z
    exact ⟨a, e1, nf, c.mono (fun _ f => f) (fun b o _ nt z => .inl (e.same b o nt z)) fun o nt z => e.same a o nt z⟩
  fdom := fun a f => by
    obtain ⟨o, z⟩ := r.fdom a f
    exact e.dom a o z
end
/-- what the def that got the lambda makes of what it says -/
def TTs (exr : Value → Option Addr → Hp → List V → Prop) : (XK → Hp → VK → Prop) → Hp → VK → Prop := fun tl H Q =>
  tl (fun cls d H' => ∃ ws, exr cls d H' ws ∧ ∀ H2 p, (∀ b o, H' b = some o → H2 b = some o) → Pl H2 p ws → H' p = none → Q (.ref p) H2) H fun v H' => [V.str (Str.ofString "told"), v].length ≤ sizeLine ∧ PlQ H' [.str (Str.ofString "told"), v] Q
/-- the def that calls what it got: its text keeps TT -/
def Gives (X : Cx) (Ng : List Str) (qg : Str) (sg : Scope) (g : Addr) (cdg : Value) (bg : List Stmt) (a nm : Str) (TT : (XK → Hp → VK → Prop) → Hp → VK → Prop) : Prop :=
  ∀ (f c' : Addr) (s : Shared) (H : Hp) (Q : VK) (tl : XK → Hp → VK → Prop), Room 1 (X.A.deeper (envOfC qg sg s.heap.objs.size g cdg)) →
    (∀ (W : WX) (pn : List (Addr × Obj)) (xe : Value → Shared → Prop) (E : XK) (p1 p2 : Pos), L2N.Takes ((cxOf C8.CX0 X.prog X.w X.K X.mg X.base Ng qg sg g cdg X.A X.stack s H C8.E0).tr pn xe) W → (∀ cls d σ' H', E cls d H' → W cls d σ' H') →
      PE ((cxOf C8.CX0 X.prog X.w X.K X.mg X.base Ng qg sg g cdg X.A X.stack s H C8.E0).tr pn xe) (.Call (.Name a p1) [] [] p2) (fun σZ HZ Q => σZ[0]? = some (some (.ref f)) ∧ HZ c' = some (CodeO c' nm) ∧ tl E HZ Q)) →
    H c' = some (CodeO c' nm) → TT tl H Q →
    ∃ t, PSs (cxOf C8.CX0 X.prog X.w X.K X.mg X.base Ng qg sg g cdg X.A X.stack s H C8.E0).nox bg t ∧ t { nx := fun _ H' => Q .non H', rt := Q } (L2.start Ng [.ref f]) H
section
variable {X : Cx} {xc : Xc} {en : Entry xc.T} {Wi : XK} {m : M Val} {σ : L2.St} {H H1 : Hp} {Q : VK} {rf : Nat → List D → Option D} {exr : Value → Option Addr → Hp → List V → Prop}
/-- what the lambda's body says, whatever the entry -/
def tLamB (K : PySem.W.Frag) (xc : Xc) (m : M Val) (E : XK) : TE := fun σ H Q => ∃ en : Entry xc.T, T1 K xc en E (RFz K) (mFrz m) σ H Q
theorem said_core (hx : ∀ c fs F ex μ H cls od d, rf c fs = some d → xc.x c fs F ex μ H cls od → ∃ ws ds, d = .tuple ds ∧ exr cls od H ws ∧ RfA X.K F H ws ds ∧ ws.length ≤ sizeLine) (h : TE' X.K xc en Wi (mSaid rf m) σ H Q) (eN : Ext2 H H1) (hT : Tabs TabName.T H1) :
    TTs exr (fun E H' Q' => tLamB X.K xc m E σ H' Q') H1 Q := by
  obtain ⟨F, ex, s, r, fr, h⟩ := h
  have r1 := r.ext2 eN hT
  have rm := r1.mask
  have g0 : Step F ex s σ H F ex s H1 := ⟨eN.grow hT _ _, List.prefix_refl _, .refl⟩
  have f0 : From (entryOf xc.T F ex H1) F ex ⟨s.ρ.map maskV, s.μ⟩ σ H1 := ⟨⟨fun _ _ _ e _ => .inl e, fun _ o e => ⟨o, e⟩, fun _ f => f, fun _ f => .inl f, fun a z => .inl (mu_mask z), fun t => t⟩, List.prefix_refl _, hT⟩
  refine ⟨entryOf xc.T F ex H1, F, ex, _, rm, f0, ?_⟩
  have lay : ∀ {F' : Fz} {ex' : List Addr} {μ' : List D} {H' H2 : Hp} {p : Addr} {ws : List V} {ds : List D}, XRel X.K (entryOf xc.T F ex H1) F' ex' μ' H' → (∀ b o, H' b = some o → H2 b = some o) → Pl H2 p ws → H' p = none → ws.length ≤ sizeLine → RfA X.K F' H' ws ds →
      ∃ F2, Rel X.K F2 ex' { s with μ := μ' } σ H2 ∧ Step F ex s σ H F2 ex' { s with μ := μ' } H2 ∧ Rf X.K F2 H2 (.ref p) (.tuple ds) := fun {F' ex' μ' H' H2 p ws ds} xr ext pl hp hl ra => by
    obtain ⟨r2, st2⟩ := after_call r1 xr
    have nw : New F' H' (fun a => F' a ∨ a = p) H2 := ⟨ext, fun a f => .inl f, fun a f => f.elim .inl fun z => .inr (z ▸ hp), fun a f => by
      rcases f with f | z
      · obtain ⟨o, e⟩ := r2.fdom a f
        exact ⟨o, ext a o e⟩
      · subst z
        obtain ⟨o, e, _⟩ := pl
        exact ⟨_, e⟩⟩
    exact ⟨_, r2.new nw, g0.trans (st2.trans ⟨nw.grow _, List.prefix_refl _, .refl⟩), .tup (.inr rfl) pl hl (ra.mono nw.fmono nw.kp)⟩
  unfold mSaid at h
  cases em : mFrz m ⟨s.ρ.map maskV, s.μ⟩ with
  | ok d t =>
    simp only [em] at h
    refine fun F' ex' H' r' st' x rx => ⟨show 2 ≤ sizeLine by decide, fun p o hp ho => ?_⟩
    obtain ⟨F2, a, b, c⟩ := lay (p := p) (ds := [.str (Str.ofString "told"), d]) (xrel_of r' (f0.step st')) (fun b u e => (upd_ne (fun z => by rw [z, hp] at e; cases e)).trans e) (Pl.new (xs := [.str (Str.ofString "told"), x]) ho) hp (show 2 ≤ sizeLine by decide) (.cons (.str _) (.cons rx .nil))
    exact h F2 ex' _ a b _ c
  | exc c fs t =>
    simp only [em] at h
    intro F' ex' H' cls od xr hc
    cases er : rf c fs with
    | none => simp only [er] at h; exact h.elim
    | some d =>
      simp only [er] at h
      obtain ⟨ws, ds, rfl, q, ra, hl⟩ := hx _ _ _ _ _ _ _ _ _ er hc
      refine ⟨ws, q, fun H2 p ext pl hp => ?_⟩
      obtain ⟨F2, a, b, c⟩ := lay xr ext pl hp hl ra
      exact h F2 ex' _ a b _ c
  | bad => simp only [em] at h; exact h.elim
/-- x(lambda: body) -/
theorem d_said {x a nm qg : Str} {g c P : Addr} {k : Nat} {pg : Arguments} {bg : List Stmt} {sg : Scope} {dV kV doc pm cdv ct oc : Value} {an od : Option Addr} {osl : Array (Option Value)} {Ng : List Str} {params : Arguments} {body : Expr} {scope : Scope} {p lpos pos : Pos}
    (hnm : nm = X.env.qual ++ "<lambda>") (hg : Gl X x) (hm : X.mg x = some (.ref g)) (hk : PySem.W.keepIn X.K (.ref g) = true) (lk : X.K.lookup g = some ⟨oc, od, .func (PySem.W.fnOf x qg pg bg sg dV kV doc pm an cdv ct), osl⟩) (hcg : PySem.W.codeIn X.K cdv qg = true)
    (hb : L2.Binds X.K (PySem.W.fnOf x qg pg bg sg dV kV doc pm an cdv ct) [a] []) (Sg : FnScope Ng [a] sg) (hNg : Ng[0]? = some a) (hva : Vis sg a) (hG : Gives X Ng qg sg g cdv bg a nm (TTs exr))
    (TB : TabB X.base X.mg c P) (hcode : X.env.code = .ref c) (hmT : (P, nm) ∈ TabName.T) (hu : ∀ p ∈ TabName.T, p.1 = P → p.2 = nm) (room : Room (k + 2) X.A) (L : LamS X.env.scope scope) (hdef : defaultsOf params X.env = ([], []))
    (hbind : ∀ (q : Str) (cl : List (Str × Addr)) (pm cv ctv : Value), bindArgs (PySem.W.kla_fn "<lambda>" q params body scope cl pm cv ctv) ⟨[], []⟩ = pure [])
    (hx : ∀ c fs F ex μ H cls od d, rf c fs = some d → xc.x c fs F ex μ H cls od → ∃ ws ds, d = .tuple ds ∧ exr cls od H ws ∧ RfA X.K F H ws ds ∧ ws.length ≤ sizeLine)
    (hbody : ∀ (A : Around) (outer : List Env) (s : Shared) (H : Hp) (E : XK) (f c' : Addr), A.guards = X.A.guards → Room k (A.deeper (lamEnv X scope s.heap.objs.size f c')) → ∀ en : Entry xc.T, PEd (lamX X A outer s H E scope f c') xc en E body m)
    (hdb : (x == ("__debug__" : Str)) = false) (hd : (a == ("__debug__" : Str)) = false) (hcd : (a == ("__classdict__" : Str)) = false) :
    PEd X xc en Wi (.Call (.Name x p) [.Lambda params body scope lpos] [] pos) (mSaid rf m) := by
  constructor
  intro pins s σ H Q I h
  have tb0 : Tabs TabName.T H := by
    obtain ⟨F, ex, st, r, fr, _⟩ := h
    exact fr.tb
  refine wpAny_Call_Name_kw (ld_glob I hg hm ?_ hdb)
  refine PySem.W.callWith_K (h₀ := X.base) I.ok.mod.kin hk ?_ (by rfl) (by rfl)
  show wpAny _ _ (spliced ((false, eval (.Lambda params body scope lpos) X.env) :: backTo pos (starEach [] X.env))) _ _ s
  refine Calls.spliced_cons (mk_lam hnm I TB hcode hmT hu tb0 hdef (L.has I.ok) fun f c' pm' ctv H1 s' I1 eN T1 atF noF outF atC => ?_)
  refine Calls.spliced_nil ⟨I1.kIn, ?_⟩
  have made := said_core (H1 := H1) (Q := Q) (σ := σ) hx h eN T1
  have went : codeAny (model X.prog X.w) X.A (.call (.ref g) ⟨[.ref f], []⟩) (CR C8.CX0 X.stack X.prog X.w H1 s' Q C8.E0) s' := by
    refine LamX.run_ofS (us := [.ref f]) (vs := [.ref f]) (ps := [a]) (N := Ng) lk hcg Sg room I1.env0 (hb s' [.ref f] I1.kIn rfl) (.cons rfl .nil) rfl fun room' => ?_
    obtain ⟨t, ht, q⟩ := hG f c' s' H1 Q _ (room'.mono (Nat.le_add_left 1 k)) (fun W pn xe E p1 p2 tk hW => act_lam (i := 0) hnm I1 L atF noF outF (hbind _ _ _ _ _) tk hW room' (fun outer s1 H2 hr2 => ⟨fun pins s2 σ2 H3 Q2 J ⟨en, z⟩ =>
      (d_frz (hbody (X.A.deeper (envOfC qg sg s'.heap.objs.size g cdv)) outer s1 H2 E f c' rfl hr2 en)).run pins s2 σ2 H3 Q2 J z⟩) hNg hva hd hcd) atC made
    exact ⟨t, ht.nox, q⟩
  refine wpAny_call (codeAny_mono went fun r t z => ?_)
  rcases r with e | fl
  · exact False.elim (show False from z)
  · cases fl <;> first | exact I1.after z | exact False.elim z
end
end Ded
end

section
set_option Elab.async false
set_option linter.all false
set_option maxRecDepth 100000
/-! raise C(e, ..), C a class of the program over ValueError whose own __init__ keeps what it is given. -/
namespace Ded
open PySem L2
open PySem.Spec PyProof.Rows
variable [TabName]
section
variable {X : Cx} {ta : TA} {e : Expr} {es : List Expr} {p pos : Pos}
theorem pmk_n {CX : CXT} {x : Str} {C f0 : Addr} {k : Nat} {fd : FuncData} {ps : List Str} {sp : Sp} (T : OexC X.K C) (hi : PySem.W.findIn X.K (.ref C) "__init__" = some (some (.ref f0))) (ht : PySem.W.typeIn X.K (.ref f0) = some (.type "function"))
    (Fn : FnOk X.prog X.w X.K X.mg X.base CX k f0 fd ps sp) (room : Room (k + 1) X.A) (hb : Binds X.K fd ps []) (nox : Passes CX X (fun _ _ _ => False)) (hg : Gl X x) (hm : X.mg x = some (.ref C)) (ha : PA X (e :: es) ta)
    (hdb : (x == ("__debug__" : Str)) = false) (he : starEach (e :: es) X.env = (false, eval e X.env) :: starEach es X.env) (hpl : (backTo pos (starEach es X.env)).any (·.1) = false) : L2N.PMk X (.Call (.Name x p) (e :: es) [] pos) (tMkO C sp [] ta) := by
  intro pins s σ H Q I ask
  obtain ⟨nm, q, N, bs, bm, sn, sub, ab, col, dd, k0, k1, k2, k3, k5, atC, refs⟩ := T.cls
  refine wpAny_Call_Name_kw (ld_glob I hg hm ?_ hdb)
  refine PySem.W.callWith_K (h₀ := X.base) I.ok.mod.kin T.kC (thn (ha.run pos pins s σ H _ I ask) ?_) he hpl
  rintro us s1 ⟨vs, H1, I1, rel, small, ask1⟩
  refine ⟨I1.kIn, ?_⟩
  show wpAny _ _ (call (.ref C) us) _ _ _
  obtain ⟨hp, gs, dr, tk, os⟩ := s1
  have above : hp.objs.size ≤ hp.objs.size + 1 := Nat.le_succ _
  have asked := ask1 (hp.objs.size + 1) (I1.hok.fresh above)
  rw [List.append_nil] at asked
  have older : ∀ b o, hp.get? b = some o → ((hp.push (PySem.W.kdv_tup us)).push (PySem.HandSPX.excO C hp.objs.size)).get? b = some o := fun b o z => Heap.get?_push_of_some _ (Heap.get?_push_of_some _ z)
  have newest : ((hp.push (PySem.W.kdv_tup us)).push (PySem.HandSPX.excO C hp.objs.size)).get? (hp.objs.size + 1) = some (PySem.HandSPX.excO C hp.objs.size) := by heap_get
  have I2 : L2.Inv X pins σ (upd H1 (hp.objs.size + 1) (exo (hp.objs.size + 1) C none)) ⟨(hp.push (PySem.W.kdv_tup us)).push (PySem.HandSPX.excO C hp.objs.size), gs, dr, tk, os⟩ := I1.laid (t' := tk) older above (exo_ok newest)
  have vals : Vals (V.ref (hp.objs.size + 1) :: vs) (Value.ref (hp.objs.size + 1) :: us) := .cons rfl rel
  have lens : (Value.ref (hp.objs.size + 1) :: us).length = ps.length := vals.length.symm.trans (Fn.len _ _ _ _ asked)
  have fits : us.length ≤ sizeLine := by
    rw [← Paired.length rel, sizeLine_eq]
    omega
  have binds := hb _ (Value.ref (hp.objs.size + 1) :: us) I2.kIn (by rw [List.append_nil]; exact lens)
  rw [List.append_nil] at binds
  have ran := Fn.run _ X.stack _ _ ⟨Value.ref (hp.objs.size + 1) :: us, []⟩ (Value.ref (hp.objs.size + 1) :: us) _ _ (fun _ _ _ => False) (room.make C us []) (I2.env0.make C us []) binds vals asked
  refine wpAny_call (PySem.HandSPX.call_own F.excBase_ValueError (fun Y => PySem.HandSPX.refsVE_contains Y bm refs) (I1.kIn _ _ atC) (PySem.W.looks_findIn I1.kIn hi) (fun self => PySem.W.bind_fn I1.kIn self ht) fits (codeAny_mono ran fun r s' z => ?_))
  rcases r with er | fl
  · exact nox pins σ _ _ er s' I2 z
  · cases fl <;> first | exact False.elim z | skip
    rename_i u
    obtain ⟨v, H2, os2, bare2, un2, hok2, rv, rfl, d, fs, atE, atD, newD, wish⟩ := z
    obtain ⟨h2, g2, d2, t2, os'⟩ := s'
    obtain ⟨t0, G, J, old2, gone, stands, noE⟩ := mk_end0 (d2 := d2) (t2 := t2) I1 above older un2 hok2 os2 bare2 atE atD newD
    exact ⟨rv, hp.objs.size + 1, _, _, ⟨G, g2, d2, t2, os'⟩, _, .ref C, some d, rfl, J, old2, gone, stands, ⟨rfl, rfl, fun vs z => by cases z; rfl⟩, rfl, rfl, noE, rfl, bare2, raises_own T.exC T.tyC, wish⟩
end
/-- the promise of an __init__ that keeps two things -/
def spI2 (C : Addr) (f1 f2 : Str) : Sp := fun xs H Q _ => ∃ a v1 v2, xs = [.ref a, v1, v2] ∧ H a = some (exo a C none) ∧ ∀ d, H d = none → d ≠ a → Q .non (upd (upd (upd H d (exd d [(f1, v1)])) a (exo a C (some d))) d (exd d [(f2, v2), (f1, v1)]))
theorem init2 {P : Program} {w : World} {K : PySem.W.Frag} {mg : Str → Option Value} {base : Heap} {x qual self p1 p2 f1 f2 : Str} {st : Stmt} {C f0 : Addr} {fd : FuncData} {q1 q2 q3 q4 q5 q6 q7 q8 : Pos} (Fu : Fun K x qual st f0 fd) (S : FnScope [self, p1, p2] [self, p1, p2] (defScope st))
    (hb : defBody st = [.Assign [.Attribute (.Name self q1) f1 q2] (.Name p1 q3) q4, .Assign [.Attribute (.Name self q5) f2 q6] (.Name p2 q7) q8]) (T : OexC K C) (n1 : PySem.W.findIn K (.ref C) f1 = some none) (n2 : PySem.W.findIn K (.ref C) f2 = some none)
    (o1 : (self == ("__debug__" : Str)) = false ∧ (self == ("__classdict__" : Str)) = false) (o2 : (p1 == ("__debug__" : Str)) = false ∧ (p1 == ("__classdict__" : Str)) = false) (o3 : (p2 == ("__debug__" : Str)) = false ∧ (p2 == ("__classdict__" : Str)) = false) :
    FnOk P w K mg base C8.CX0 1 f0 fd [self, p1, p2] (spI2 C f1 f2) := by
  obtain ⟨oc, od, kV, doc, pm, an, cdv, ct, osl, rfl, lk, hcd⟩ := Fu.ex
  have vis : ∀ y ∈ [self, p1, p2], Vis (defScope st) y := fun y hy => (S.par y hy).elim .inl fun z => .inr (.inl z)
  refine fn_of lk hcd S (fun vs H Q E ⟨a, v1, v2, e, _⟩ => by rw [e]; rfl) fun A outer s H vs Q E room hs => ?_
  obtain ⟨a, v1, v2, rfl, ha, ask⟩ := hs
  let X := cxOf C8.CX0 P w K mg base [self, p1, p2] qual (defScope st) f0 cdv A outer s H E
  have e0 : ∀ q, PE X (.Name self q) _ := fun q => pe_var (i := 0) rfl (vis self (by simp)) o1.1 o1.2
  have e1 : ∀ q, PE X (.Name p1 q) _ := fun q => pe_var (i := 1) rfl (vis p1 (by simp)) o2.1 o2.2
  have e2 : ∀ q, PE X (.Name p2 q) _ := fun q => pe_var (i := 2) rfl (vis p2 (by simp)) o3.1 o3.2
  rw [hb]
  refine ⟨_, pss_cons (ps_ost (f := f1) (e0 q1) (e1 q3)) (pss_one (ps_ost (f := f2) (e0 q5) (e2 q7))), ?_⟩
  refine ⟨v1, rfl, .ref a, rfl, a, C, rfl, T, n1, .inl ⟨ha, fun d nd ne => ?_⟩⟩
  refine ⟨v2, rfl, .ref a, rfl, a, C, rfl, T, n2, .inr ⟨d, [(f1, v1)], upd_same, (upd_ne ne).trans upd_same, show 1 ≤ 900 by decide, ask d nd ne⟩⟩
/-- what is written of a class that keeps two things -/
structure Cls2 (P : Program) (w : World) (K : PySem.W.Frag) (mg : Str → Option Value) (base : Heap) (x : Str) (C : Addr) (f1 f2 : Str) : Prop where
  oex : OexC K C
  gl : mg x = some (.ref C)
  ini : ∃ (f0 : Addr) (fd : FuncData) (ps : List Str), PySem.W.findIn K (.ref C) "__init__" = some (some (.ref f0)) ∧ PySem.W.typeIn K (.ref f0) = some (.type "function") ∧ Binds K fd ps [] ∧ FnOk P w K mg base C8.CX0 1 f0 fd ps (spI2 C f1 f2)
section
variable {X : Cx} {xc : Xc} {en : Entry xc.T} {Wi : XK} {e : Expr} {es : List Expr} {x f1 f2 : Str} {C : Addr} {c : Nat} {p pos pos' : Pos} {l : M (List D)}
theorem k_rai (hc : X.calm = true) (tk : L2N.Takes X fun cls d _ H => Wi cls d H) (T : Cls2 X.prog X.w X.K X.mg X.base x C f1 f2) (odd : c % 2 = 1) (room : Room 2 X.A) (hg : Gl X x) (ha : PA X (e :: es) (TL X.K xc en Wi (RFz X.K) l))
    (hx : ∀ F ex μ H d v1 v2 d1 d2, H d = some (.xd [(f2, v2), (f1, v1)]) → Rf X.K F H v1 d1 → Rf X.K F H v2 d2 → xc.x c [d1, d2] F ex μ H (.ref C) (some d))
    (hdb : (x == ("__debug__" : Str)) = false) (he : starEach (e :: es) X.env = (false, eval e X.env) :: starEach es X.env) (hpl : (backTo pos (starEach es X.env)).any (·.1) = false) :
    PS X (.Raise (some (.Call (.Name x p) (e :: es) [] pos)) none pos') (TS' X.K xc en Wi (kRai c l)) := by
  obtain ⟨f0, fd, ps, i1, i2, i3, i4⟩ := T.ini
  refine PS.imp (L2N.ps_raise hc tk (pmk_n T.oex i1 i2 i4 room i3 (show Passes C8.CX0 X (fun _ _ _ => False) from fun _ _ _ _ _ _ _ z => False.elim z) hg T.gl ha hdb he hpl)) fun D σ H ⟨F, ex, s, B, r, f, h⟩ => ?_
  refine ⟨F, ex, s, r, f.fr, (Ends_.flow (m := l) r f h).imp fun F1 ex1 H1 s1 ds e1 r1 st1 ⟨f1', q⟩ xs rs => ?_⟩
  have q : FEnds X.K xc en Wi B (if ds.length = 1 + c % 2 then .exc c ds s1 else .bad) D := q
  rw [odd] at q
  split at q
  rotate_left
  · exact q.elim
  rename_i hl
  obtain ⟨d1, d2, rfl⟩ : ∃ d1 d2, ds = [d1, d2] := by
    match ds, hl with
    | [d1, d2], _ => exact ⟨d1, d2, rfl⟩
  obtain ⟨v1, v2, rfl, g1, g2⟩ : ∃ v1 v2, xs = [v1, v2] ∧ Rf X.K F1 H1 v1 d1 ∧ Rf X.K F1 H1 v2 d2 := by
    cases rs with
    | cons a rs =>
      cases rs with
      | cons b rs =>
        cases rs
        exact ⟨_, _, rfl, a, b⟩
  refine ⟨show 2 ≤ 1000 by decide, fun a na => ⟨a, v1, v2, rfl, upd_same, fun d nd ne => ⟨rfl, d, [(f2, v2), (f1, v1)], ?_, upd_same, ?_, ?_⟩⟩⟩
  · rw [upd_ne (Ne.symm ne), upd_same]
  · rw [upd_ne ne] at nd; exact nd
  have nd' : H1 d = none := by rw [upd_ne ne] at nd; exact nd
  have e2 : upd (del (upd (upd (upd (upd H1 a (exo a C none)) d (exd d [(f1, v1)])) a (exo a C (some d))) d (exd d [(f2, v2), (f1, v1)])) a) d (.xd [(f2, v2), (f1, v1)]) = upd H1 d (.xd [(f2, v2), (f1, v1)]) := by
    funext b
    by_cases hbd : b = d
    · rw [hbd, upd_same, upd_same]
    · rw [upd_ne hbd, upd_ne hbd]
      by_cases hba : b = a
      · rw [hba, del_same, na]
      · rw [del_ne hba, upd_ne hbd, upd_ne hba, upd_ne hbd, upd_ne hba]
  rw [e2]
  have nw := New.own r1.fdom nd' (.xd [(f2, v2), (f1, v1)])
  have r2 := r1.new nw
  exact q F1 ex1 _ _ _ (xrel_of r2 (f1'.fr.step ⟨nw.grow _, List.prefix_refl _, .refl⟩)) (hx _ _ _ _ _ _ _ _ _ upd_same (Rf.mono nw.fmono nw.kp _ g1) (Rf.mono nw.fmono nw.kp _ g2))
end
/-- the promise of an __init__ that keeps one thing -/
def spI1 (C : Addr) (f1 : Str) : Sp := fun xs H Q _ => ∃ a v1, xs = [.ref a, v1] ∧ H a = some (exo a C none) ∧ ∀ d, H d = none → d ≠ a → Q .non (upd (upd H d (exd d [(f1, v1)])) a (exo a C (some d)))
theorem init1 {P : Program} {w : World} {K : PySem.W.Frag} {mg : Str → Option Value} {base : Heap} {x qual self p1 f1 : Str} {st : Stmt} {C f0 : Addr} {fd : FuncData} {q1 q2 q3 q4 : Pos} (Fu : Fun K x qual st f0 fd) (S : FnScope [self, p1] [self, p1] (defScope st))
    (hb : defBody st = [.Assign [.Attribute (.Name self q1) f1 q2] (.Name p1 q3) q4]) (T : OexC K C) (n1 : PySem.W.findIn K (.ref C) f1 = some none)
    (o1 : (self == ("__debug__" : Str)) = false ∧ (self == ("__classdict__" : Str)) = false) (o2 : (p1 == ("__debug__" : Str)) = false ∧ (p1 == ("__classdict__" : Str)) = false) : FnOk P w K mg base C8.CX0 1 f0 fd [self, p1] (spI1 C f1) := by
  obtain ⟨oc, od, kV, doc, pm, an, cdv, ct, osl, rfl, lk, hcd⟩ := Fu.ex
  have seen : ∀ y ∈ [self, p1], Vis (defScope st) y := fun y hy => (S.par y hy).elim .inl fun z => .inr (.inl z)
  refine fn_of lk hcd S (fun vs H Q E ⟨a, v1, e, _⟩ => by rw [e]; rfl) fun A outer s H vs Q E room given => ?_
  obtain ⟨a, v1, rfl, ha, ask⟩ := given
  let X := cxOf C8.CX0 P w K mg base [self, p1] qual (defScope st) f0 cdv A outer s H E
  have e0 : PE X (.Name self q1) _ := pe_var (i := 0) rfl (seen self (by simp)) o1.1 o1.2
  have e1 : PE X (.Name p1 q3) _ := pe_var (i := 1) rfl (seen p1 (by simp)) o2.1 o2.2
  rw [hb]
  exact ⟨_, pss_one (ps_ost (f := f1) e0 e1), v1, rfl, .ref a, rfl, a, C, rfl, T, n1, .inl ⟨ha, fun d nd ne => ask d nd ne⟩⟩
/-- what is written of a class that keeps one thing -/
structure Cls1 (P : Program) (w : World) (K : PySem.W.Frag) (mg : Str → Option Value) (base : Heap) (x : Str) (C : Addr) (f1 : Str) : Prop where
  oex : OexC K C
  gl : mg x = some (.ref C)
  ini : ∃ (f0 : Addr) (fd : FuncData) (ps : List Str), PySem.W.findIn K (.ref C) "__init__" = some (some (.ref f0)) ∧ PySem.W.typeIn K (.ref f0) = some (.type "function") ∧ Binds K fd ps [] ∧ FnOk P w K mg base C8.CX0 1 f0 fd ps (spI1 C f1)
section
variable {X : Cx} {xc : Xc} {en : Entry xc.T} {Wi : XK} {e : Expr} {es : List Expr} {x f1 : Str} {C : Addr} {c : Nat} {p pos pos' : Pos} {l : M (List D)}
theorem k_rai1 (hc : X.calm = true) (tk : L2N.Takes X fun cls d _ H => Wi cls d H) (T : Cls1 X.prog X.w X.K X.mg X.base x C f1) (even : c % 2 = 0) (room : Room 2 X.A) (hg : Gl X x) (ha : PA X (e :: es) (TL X.K xc en Wi (RFz X.K) l))
    (hx : ∀ F ex μ H d v1 d1, H d = some (.xd [(f1, v1)]) → Rf X.K F H v1 d1 → xc.x c [d1] F ex μ H (.ref C) (some d))
    (hdb : (x == ("__debug__" : Str)) = false) (he : starEach (e :: es) X.env = (false, eval e X.env) :: starEach es X.env) (hpl : (backTo pos (starEach es X.env)).any (·.1) = false) :
    PS X (.Raise (some (.Call (.Name x p) (e :: es) [] pos)) none pos') (TS' X.K xc en Wi (kRai c l)) := by
  obtain ⟨f0, fd, ps, i1, i2, i3, i4⟩ := T.ini
  have mk := pmk_n (p := p) T.oex i1 i2 i4 room i3 (show Passes C8.CX0 X (fun _ _ _ => False) from fun _ _ _ _ _ _ _ z => False.elim z) hg T.gl ha hdb he hpl
  refine PS.imp (L2N.ps_raise hc tk mk) fun D σ H ⟨F, ex, s, B, r, f, h⟩ => ⟨F, ex, s, r, f.fr, (Ends_.flow (m := l) r f h).imp fun F1 ex1 H1 s1 ds e1 r1 st1 ⟨f1', q⟩ xs rs => ?_⟩
  have q : FEnds X.K xc en Wi B (if ds.length = 1 + c % 2 then .exc c ds s1 else .bad) D := q
  rw [even] at q
  split at q
  rotate_left
  · exact q.elim
  rename_i hl
  obtain ⟨d1, rfl⟩ := List.length_eq_one_iff.mp hl
  obtain ⟨v1, rfl, g1⟩ : ∃ v1, xs = [v1] ∧ Rf X.K F1 H1 v1 d1 := by
    cases rs with
    | cons a rs =>
      cases rs
      exact ⟨_, rfl, a⟩
  refine ⟨show 1 ≤ 1000 by decide, fun a na => ⟨a, v1, rfl, upd_same, fun d nd ne => ⟨rfl, d, [(f1, v1)], upd_same, ?_, ?_, ?_⟩⟩⟩
  · rw [upd_ne ne]; exact upd_same
  · rw [upd_ne ne] at nd; exact nd
  have nd' : H1 d = none := by rw [upd_ne ne] at nd; exact nd
  have same : upd (del (upd (upd (upd H1 a (exo a C none)) d (exd d [(f1, v1)])) a (exo a C (some d))) a) d (.xd [(f1, v1)]) = upd H1 d (.xd [(f1, v1)]) := by
    funext b
    by_cases hbd : b = d
    · rw [hbd, upd_same, upd_same]
    · rw [upd_ne hbd, upd_ne hbd]
      by_cases hba : b = a
      · rw [hba, del_same, na]
      · rw [del_ne hba, upd_ne hba, upd_ne hbd, upd_ne hba]
  rw [same]
  have nw := New.own r1.fdom nd' (.xd [(f1, v1)])
  exact q F1 ex1 _ _ _ (xrel_of (r1.new nw) (f1'.fr.step ⟨nw.grow _, List.prefix_refl _, .refl⟩)) (hx _ _ _ _ _ _ _ upd_same (Rf.mono nw.fmono nw.kp _ g1))
end
/-- a class of the text whose instances are raised, and its number -/
def ClsOk (P : Program) (w : World) (K : PySem.W.Frag) (mg : Str → Option Value) (base : Heap) (xc : Xc) (x : Str) (n : Nat) : Prop :=
  (n % 2 = 1 ∧ ∃ C f1 f2, Cls2 P w K mg base x C f1 f2 ∧ ∀ F ex μ H d v1 v2 d1 d2, H d = some (.xd [(f2, v2), (f1, v1)]) → Rf K F H v1 d1 → Rf K F H v2 d2 → xc.x n [d1, d2] F ex μ H (.ref C) (some d)) ∨
  (n % 2 = 0 ∧ ∃ C f1, Cls1 P w K mg base x C f1 ∧ ∀ F ex μ H d v1 d1, H d = some (.xd [(f1, v1)]) → Rf K F H v1 d1 → xc.x n [d1] F ex μ H (.ref C) (some d))
section
variable {X : Cx} {xc : Xc} {en : Entry xc.T} {Wi : XK} {e : Expr} {es : List Expr} {x : Str} {c : Nat} {p pos pos' : Pos} {l : M (List D)}
theorem k_raiC (hc : X.calm = true) (tk : L2N.Takes X fun cls d _ H => Wi cls d H) (T : ClsOk X.prog X.w X.K X.mg X.base xc x c) (room : Room 2 X.A) (hg : Gl X x) (ha : PA X (e :: es) (TL X.K xc en Wi (RFz X.K) l))
    (hdb : (x == ("__debug__" : Str)) = false) (he : starEach (e :: es) X.env = (false, eval e X.env) :: starEach es X.env) (hpl : (backTo pos (starEach es X.env)).any (·.1) = false) :
    PS X (.Raise (some (.Call (.Name x p) (e :: es) [] pos)) none pos') (TS' X.K xc en Wi (kRai c l)) := by
  rcases T with ⟨odd, C, f1, f2, T, hx⟩ | ⟨even, C, f1, T, hx⟩
  · exact k_rai hc tk T odd room hg ha hx hdb he hpl
  · exact k_rai1 hc tk T even room hg ha hx hdb he hpl
end
end Ded
end

section
set_option Elab.async false
set_option linter.all false
set_option maxRecDepth 100000
/-! Asking a caught exception of a class of the program. -/
namespace Ded
open PySem L2
open PySem.Spec PyProof.Rows
/-- what is written of a class, so that its instances may be asked -/
structure XFacts (K : PySem.W.Frag) (C : Addr) : Prop where
  cl : (PySem.W.clsIn K C).isSome = true
  ga : PySem.W.findIn K (.ref C) "__getattribute__" = some (some (.builtin "BaseException.__getattribute__"))
  gg : PySem.W.findIn K (.ref C) "__getattr__" = some none
  sb : PySem.W.subIn K (.ref C) (.type "BaseException") = some true
  ca : PySem.W.findIn K (.ref C) "__class__" = some (some (.builtin "object.__class__"))
  sp : PySem.W.specialIn K (.builtin "object.__class__") "__get__" = some (some (.builtin "getset_descriptor.__get__"))
  tk : PySem.W.takesIn K (.builtin "object.__class__") = some true
  mr : PySem.W.mroIn K C (.type "object") = some true
  hd : PySem.W.hasDictIn K C = true
section
variable {X : Cx} {a C dd : Addr} {oe : Obj}
theorem inst_at {pins : List (Addr × Obj)} {σ : L2.St} {H : Hp} {s : Shared} {fs : List (Str × V)} (I : L2.Inv X pins σ H s) (hp : (a, oe) ∈ X.pn) (hz : Zc (.ref C) (some dd) oe) (hf : ∃ vs, oe.data = .fields vs) (hd : H dd = some (.xd fs)) :
    ∃ (od : Obj) (mA : Str → Option Value), PySem.W.InstAt s.heap a oe C (some od) ∧ s.heap.get? dd = some od ∧ (∀ f, PySem.W.lookIn f od = some (mA f)) ∧ ∀ f, RelO (fs.lookup f) (mA f) := by
  obtain ⟨got, _⟩ := I.pin (a, oe) (List.mem_append_left _ hp)
  obtain ⟨vs, hv⟩ := hf
  have kept : ObjOk X.prog X.w H s.heap dd (.xd fs) := I.hok dd _ hd
  obtain ⟨mA, ns, rel⟩ := kept
  obtain ⟨od, at_, look⟩ := lookIn_ns ns
  refine ⟨od, mA, ⟨got, hz.1, ?_, ?_⟩, at_, look, rel⟩
  · unfold PySem.W.notCls
    rw [hv] <;> rfl
  · rw [hz.2]
    exact at_
/-- isinstance(e, c) of the exception at hand -/
def rIsP (K : PySem.W.Frag) (a C dd : Addr) : List V → Hp → VK → Prop := fun xs H Q => ∃ (c : V) (cv : Value) (b : Bool) (fs : List (Str × V)), xs = [.ref a, c] ∧ H dd = some (.xd fs) ∧ (∀ u, RelV c u → u = cv) ∧ PySem.W.kitOne K (.ref C) cv = some b ∧ Q (.bl b) H
theorem call_isP (hp : (a, oe) ∈ X.pn) (T : XFacts X.K C) (hz : Zc (.ref C) (some dd) oe) (hf : ∃ vs, oe.data = .fields vs) : CallR X (.builtin "isinstance") (rIsP X.K a C dd) := by
  intro pins s σ H xs us Q I rel ask
  obtain ⟨c, cv, b, fs, rfl, hd, one, known, q⟩ := ask
  obtain ⟨u1, u2, rfl, r1, r2⟩ : ∃ u1 u2, us = [u1, u2] ∧ RelV (.ref a) u1 ∧ RelV c u2 := by
    cases rel with
    | cons r1 rel =>
      cases rel with
      | cons r2 rel =>
        cases rel
        exact ⟨_, _, rfl, r1, r2⟩
  obtain rfl : u1 = Value.ref a := r1
  obtain rfl := one _ r2
  obtain ⟨od, mA, J, _⟩ := inst_at I hp hz hf hd
  exact PySem.W.kia_one (PySem.W.kitx_exc (od := some od) (ox := oe) (x := a) T.cl T.ga T.gg T.sb T.ca T.sp T.tk T.mr) I.kIn J known (fun z => nomatch z) fun tk => ⟨.bl b, H, I.kept (t' := tk) fun _ _ z => z, rfl, q⟩
/-- e.f -/
theorem pe_xP {e : Expr} {te : TE} {pos : Pos} {n : Str} (hp : (a, oe) ∈ X.pn) (T : XFacts X.K C) (hno : PySem.W.findIn X.K (.ref C) n = some none) (hz : Zc (.ref C) (some dd) oe) (hf : ∃ vs, oe.data = .fields vs) (he : PE X e te) (hb : attributeBase e n X.env (eval e X.env) = eval e X.env) :
    PE X (.Attribute e n pos) (fun σ H Q => te σ H fun x H1 => x = .ref a ∧ ∃ fs v, H1 dd = some (.xd fs) ∧ fs.lookup n = some v ∧ Q v H1) := by
  constructor
  intro pins s σ H Q I ask
  refine attr_of hb (thn (he.run pins s σ H _ I ask) ?_)
  rintro u s1 ⟨x, H1, I1, rx, rfl, fs, v, hd, l, q⟩
  obtain rfl : u = Value.ref a := rx
  obtain ⟨od, mA, J, at_, look, rel⟩ := inst_at I1 hp hz hf hd
  obtain ⟨u, hu, ru⟩ := RelO.some_of (v := v) (o := mA n) (by rw [← l]; exact rel n)
  exact HandSPX.exc_get I1.kIn J T.ga T.gg T.sb (PySem.W.findObj_own T.hd hno rfl (by rw [look, hu])) (handed_of ru) ⟨v, H1, I1.tok _, ru, q⟩
end
/-- l.count(True) of a list of bools -/
theorem mt_countB {X : Cx} : MtR X "list.count" (fun x xs H Q => ∃ (p : Addr) (bs : List Bool) (k : Bool), x = .ref p ∧ xs = [.bl k] ∧ SqL X.K H p (bs.map V.bl) ∧ Q (.int (countIn (.bool k) (bs.map PyData.bool))) H) := by
  intro pins s σ H x xs v us Q I rx rxs ask
  obtain ⟨p, bs, k, rfl, rfl, sq, q⟩ := ask
  cases rx
  obtain ⟨u, rfl, ru⟩ := rxs.one
  cases ru
  obtain ⟨its, rel, pl, _⟩ := I.list sq
  have reads : ∀ {bs : List Bool} {its : List Value}, Vals (bs.map V.bl) its → ReadsAll s.heap its (bs.map PyData.bool) [] := by
    intro bs
    induction bs with
    | nil =>
      intro its r
      cases r
      exact .nil
    | cons b bs ih =>
      intro its r
      cases r with
      | cons r1 r2 =>
        cases r1
        exact .cons (as := []) (bs := []) (.bool b) (ih r2)
  refine count_list_bools (as := []) pl.isList (reads rel) ?_ ⟨.int _, H, I.tok _, ⟨s.toks, rfl⟩, q⟩
  rw [List.all_eq_true]
  intro d hd
  obtain ⟨b, _, rfl⟩ := List.mem_map.mp hd
  rfl
/-- in an except suite: f(e), e the exception that is handled -/
theorem pe_hot {X : Cx} {a f : Addr} {oe : Obj} {pn : List (Addr × Obj)} {x qual prm : Str} {st : Stmt} {fd : FuncData} {N : List Str} {k : Nat} {e : Expr} {te : TE} {p pos : Pos} {spR : Hp → VK → Prop} (Fu : Fun X.K x qual st f fd) (S : FnScope N [prm] (defScope st)) (room : Room (k + 1) X.A)
    (hg : Gl X x) (hm : X.mg x = some (.ref f)) (hb : Binds X.K fd [prm] [])
    (hbody : ∀ (cdv : Value) (A : Around) (outer : List Env) (s : Shared) (H : Hp) (Q : VK), L2H.RoomH k (A.deeper (envOfC qual (defScope st) s.heap.objs.size f cdv)) → spR H Q →
      ∃ t, PSs (L2H.cxH C8.CX0 X.prog X.w X.K X.mg X.base N qual (defScope st) f cdv A outer s H C8.E0 (a, oe)) (defBody st) t ∧ t { nx := fun _ H' => Q .non H', rt := Q } (L2.start N [.ref a]) H)
    (he : PE (X.suite a ((a, oe) :: pn)) e te) (hdb : (x == ("__debug__" : Str)) = false) (hst : starEach [e] (X.suite a ((a, oe) :: pn)).env = (false, eval e (X.suite a ((a, oe) :: pn)).env) :: starEach [] (X.suite a ((a, oe) :: pn)).env) :
    PE (X.suite a ((a, oe) :: pn)) (.Call (.Name x p) [e] [] pos) (fun σ H Q => te σ H fun v H1 => [v] = [V.ref a] ∧ spR H1 Q) := by
  have kp : PySem.W.keepIn X.K (.ref f) = true := Fu.kp
  obtain ⟨oc, od, kV, doc, pm, an, cdv, ct, osl, rfl, lk, hcd⟩ := Fu.ex
  constructor
  intro pins s σ H Q I ask
  refine wpAny_Call_Name_kw (ld_glob (X := X.suite a ((a, oe) :: pn)) I hg hm ?_ hdb)
  refine PySem.W.callWith_K (h₀ := X.base) I.ok.mod.kin kp (thn ((pa_cons he pa_nil hst).run pos pins s σ H (fun vs H1 => vs = [.ref a] ∧ spR H1 Q) I ask) ?_) hst rfl
  rintro us s1 ⟨vs, H1, I1, rel, rfl, q⟩
  refine ⟨I1.kIn, ?_⟩
  obtain ⟨got, free, nl, nf, nc⟩ := I1.pin (a, oe) (List.mem_append_left _ List.mem_cons_self)
  have pinned : L2H.PinOk (X.suite a ((a, oe) :: pn)).stack H1 s1 (a, oe) := ⟨got, free, fun m => (List.mem_cons.mp (I1.stkSub a m)).elim nl nf, nc⟩
  have e0 := I1.env0
  have inK : X.K.In s1.heap := e0.mod.kin.keeps fun b o z => (e0.bs b o z).1
  have nolim : s1.heap.NoLimit := e0.mod.nolimit.keeps fun b o z => (e0.bs b o z).1
  have hus : us.length = [prm].length := rel.length.symm
  have binds := hb s1 us I1.kIn (by rw [List.append_nil]; exact hus)
  rw [List.append_nil] at binds
  have went : codeAny (model X.prog X.w) (X.A.mark (some (.ref a))) (.call (.ref f) ⟨us, []⟩) (CR C8.CX0 (X.suite a ((a, oe) :: pn)).stack X.prog X.w H1 s1 Q C8.E0) s1 := by
    have roomM : L2H.RoomH (k + 1) (X.A.mark (some (.ref a))) := L2H.roomH_mark room _
    apply codeAny_call_function roomM.depth (inK _ _ lk) rfl S.co S.gen rfl (PySem.W.codeRec_of inK hcd)
    apply binds
    have kinds : ∀ y ∈ [prm].zip us, (defScope st).names.lookup y.1 = some .local ∨ ((defScope st).names.lookup y.1 = some .cell ∧ ((cellsFrom (s1.heap.objs.size + 1) (defScope st).names []).lookup y.1).isSome = true) := by
      rintro ⟨n, v⟩ hy
      exact (S.par n (List.of_mem_zip hy).1).elim .inl fun z => .inr ⟨z, PySem.W.cellsFrom_some _ _ _ (.inl z)⟩
    refine wpAny_newFunctionEnv_cells S.kind kinds fun env henv s2 x => ?_
    cases henv
    refine ⟨nolim.keeps x.toInCall.keep, codeAny_func ?_⟩
    obtain ⟨t, ht, hq⟩ := hbody cdv (X.A.mark (some (.ref a))) (X.suite a ((a, oe) :: pn)).stack s1 H1 Q (roomM.deeper _) q
    have start_ok := L2H.inv_startH (CX := C8.CX0) (E := C8.E0) S pinned e0 rfl rel x
    refine wpAny_mono (ht.run [] s2 (L2.start N [.ref a]) H1 _ start_ok hq) ?_ fun e s' z => z
    intro fl s' hs
    have done : ∀ {σ' : L2.St} {H' : Hp} {v : V} {u : Value}, L2.Inv (L2H.cxH C8.CX0 X.prog X.w X.K X.mg X.base N qual (defScope st) f cdv (X.A.mark (some (.ref a))) (X.suite a ((a, oe) :: pn)).stack s1 H1 C8.E0 (a, oe)) [] σ' H' s' → RelV v u → Q v H' →
        CE (X.suite a ((a, oe) :: pn)).stack X.prog X.w H1 s1 Q u s' := by
      intro σ' H' v u J rv z
      exact ⟨v, H', J.os, J.bare, J.base, J.hok, rv, z⟩
    cases fl with
    | ret u => exact let ⟨v, σ', H', J, rv, z⟩ := hs; done J rv z
    | next => exact let ⟨σ', H', J, z⟩ := hs; done (v := V.non) (u := Value.none) J rfl z
    | brk => exact let ⟨_, _, _, z⟩ := hs; z.elim
    | cont => exact let ⟨_, _, _, z⟩ := hs; z.elim
  refine wpAny_call (codeAny_mono went fun r t z => ?_)
  rcases r with er | fl
  · exact False.elim z
  · cases fl <;> first | exact I1.after z | exact False.elim z
/-- n is a class of the program; whether an instance of C is one of its -/
structure IsC (X : Cx) (C : Addr) (n : Str) (cn : Addr) (b : Bool) : Prop where
  gl : Gl X n
  mg : X.mg n = some (.ref cn)
  nd : (n == ("__debug__" : Str)) = false
  kit : PySem.W.kitOne X.K (.ref C) (.ref cn) = some b
section
variable [TabName]
variable {X : Cx} {a C dd : Addr} {oe : Obj} {ex fam n : Str} {cn : Addr} {b : Bool}
structure AskX (X : Cx) (a C dd : Addr) (oe : Obj) (ex : Str) : Prop where
  pin : (a, oe) ∈ X.pn
  fac : XFacts X.K C
  zc : Zc (.ref C) (some dd) oe
  fld : ∃ vs, oe.data = .fields vs
  n0 : X.N[0]? = some ex
  vis : Vis X.env.scope ex
  nd : (ex == ("__debug__" : Str)) = false
  nc : (ex == ("__classdict__" : Str)) = false
  gi : Gl X "isinstance"
  mi : X.mg "isinstance" = none
theorem star2 {p2 p3 : Pos} : starEach [.Name ex p2, .Name n p3] X.env = (false, eval (.Name ex p2) X.env) :: starEach [.Name n p3] X.env := rfl
theorem ask_is {p1 p2 p3 pos : Pos} (A : AskX X a C dd oe ex) (h : IsC X C n cn b) : PE X (.Call (.Name "isinstance" p1) [.Name ex p2, .Name n p3] [] pos) (fun σ H Q => σ[0]? = some (some (.ref a)) ∧ (∃ fs, H dd = some (.xd fs)) ∧ Q (.bl b) H) :=
  PE.imp (pe_callB (call_isP A.pin A.fac A.zc A.fld) A.gi A.mi (by decide +kernel) (pa_cons (pe_var A.n0 A.vis A.nd A.nc) (pa_cons (pe_glob h.gl h.mg (v := .ref cn) rfl h.nd) pa_nil) star2) (by decide +kernel) (by decide +kernel) star2 rfl) fun σ H Q ⟨h0, ⟨fs, hd⟩, q⟩ =>
    ⟨.ref a, h0, .ref cn, .ref cn, b, fs, rfl, hd, fun u r => r, h.kit, q⟩
theorem ask_ve {p1 p2 p3 pos : Pos} (A : AskX X a C dd oe ex) (hg : Gl X "ValueError") (hm : X.mg "ValueError" = none) (hk : PySem.W.kitOne X.K (.ref C) (.type "ValueError") = some b) :
    PE X (.Call (.Name "isinstance" p1) [.Name ex p2, .Name "ValueError" p3] [] pos) (fun σ H Q => σ[0]? = some (some (.ref a)) ∧ (∃ fs, H dd = some (.xd fs)) ∧ Q (.bl b) H) :=
  PE.imp (pe_callB (call_isP A.pin A.fac A.zc A.fld) A.gi A.mi (by decide +kernel) (pa_cons (pe_var A.n0 A.vis A.nd A.nc) (pa_cons (pe_bltn (v := .ty "ValueError") hg hm (u := .type "ValueError") PyProof.Rows.Boot.«ValueError» rfl (by decide +kernel) (by decide +kernel)) pa_nil) star2) (by decide +kernel) (by decide +kernel) star2 rfl) fun σ H Q ⟨h0, ⟨fs, hd⟩, q⟩ =>
    ⟨.ref a, h0, .ty "ValueError", .type "ValueError", b, fs, rfl, hd, fun u r => r, hk, q⟩
/-- one family's word: NotUsable -/
theorem refusal_use {cP cS cL cT cU : Addr} {p1 p2 p3 p4 p5 p6 p7 p8 p9 p10 p11 p12 p13 p14 p15 p16 p17 p18 p19 p20 p21 p22 p23 p24 p25 p26 p27 p28 p29 p30 p31 p32 p33 p34 p35 p36 p37 p38 p39 p40 p41 p42 p43 p44 p45 p46 p47 p48 p49 p50 p51 p52 : Pos} {st1 : List Stmt} {odd : Expr} {nP nS nL nT nU word at_ : Str} {k1 k2 k3 k4 kk : Nat}
    {c1 c2 c3 c4 c5 c6 : Expr} (e1 : c1 = .Call (.Name "isinstance" p1) [.Name ex p2, .Name nP p3] [] p4) (e2 : c2 = .Call (.Name "isinstance" p5) [.Name ex p6, .Name nS p7] [] p8) (e3 : c3 = .Call (.Name "isinstance" p9) [.Name ex p10, .Name nL p11] [] p12) (e4 : c4 = .Call (.Name "isinstance" p13) [.Name ex p14, .Name nT p15] [] p16)
    (e5 : c5 = .Call (.Name "isinstance" p17) [.Name ex p18, .Name "ValueError" p19] [] p20) (e6 : c6 = .Call (.Name "isinstance" p21) [.Name ex p22, .Name nU p23] [] p24) (A : AskX X a C dd oe ex) (n1 : X.N[1]? = some fam) (nd : X.N.Nodup) (fv : Vis X.env.scope fam) (fl : Loc X.env.scope fam) (ff : X.fn fam = true ∨ X.env.scope.names.lookup fam = some .local) (fd : (fam == ("__debug__" : Str)) = false) (fc : (fam == ("__classdict__" : Str)) = false)
    (iP : IsC X C nP cP false) (iS : IsC X C nS cS true) (iL : IsC X C nL cL false) (iT : IsC X C nT cT false) (iU : IsC X C nU cU true) (vG : Gl X "ValueError") (vM : X.mg "ValueError" = none) (vK : PySem.W.kitOne X.K (.ref C) (.type "ValueError") = some true)
    (w1 : PySem.W.findIn X.K (.ref C) word = some none) (w2 : PySem.W.findIn X.K (.ref C) at_ = some none) (hl1 : (p27.endLine == p28.line) = true) (hl2 : (p30.endLine == p31.line) = true) :
    ∃ t, PSs X [.Assign [.Name fam p25] (.List [c1, c2, c3] p26) p29,
        .Expr (.Call (.Attribute (.Name fam p32) "append" p27) [c4] [] p28) p33,
        .If (.BoolOp .Or [.Compare (.Call (.Attribute (.Name fam p34) "count" p30) [.Constant (.bool true) k1 p35] [] p31) [.NotEq] [.Constant (.int 1) k2 p36] p37, .UnaryOp .Not c5 p38] p39) st1 [] p40,
        .Return (some (.IfExp (.BoolOp .And [c6, .Subscript (.Name fam p41) (.Constant (.int 1) k3 p42) p43] p44) (.Tuple [.Constant (.str (Str.ofString "use")) k4 p45, .Attribute (.Name ex p46) word p47, .Attribute (.Name ex p48) at_ p49] kk p50) odd p51)) p52] t ∧
      ∀ (H : Hp) (Q : VK) (fs : List (Str × V)) (w z : V), H dd = some (.xd fs) → fs.lookup word = some w → fs.lookup at_ = some z → (∀ H2 p, (∀ b o, H b = some o → H2 b = some o) → Pl H2 p [.str (Str.ofString "use"), w, z] → H p = none → Q (.ref p) H2) →
        t { nx := fun _ H' => Q .non H', rt := Q } [some (.ref a), none] H := by
  subst e1 e2 e3 e4 e5 e6
  have fvar : ∀ p, PE X (.Name fam p) (tVar 1) := fun p => pe_var n1 fv fd fc
  have evar : ∀ p, PE X (.Name ex p) (tVar 0) := fun p => pe_var A.n0 A.vis A.nd A.nc
  have s1 := ps_set (pos' := p25) (pos := p29) nd n1 fl (pe_lst (pos := p26) (pa_cons (ask_is (p1 := p1) (p2 := p2) (p3 := p3) (pos := p4) A iP) (pa_cons (ask_is (p1 := p5) (p2 := p6) (p3 := p7) (pos := p8) A iS) (pa_cons (ask_is (p1 := p9) (p2 := p10) (p3 := p11) (pos := p12) A iL) pa_nil))))
  have s2 := ps_expr (pos := p33) (pe_bm (apos := p27) (cpos := p28) PySem.F.plainAttrs_list PySem.F.slot_list_append PySem.F.type_list_append mt_append (fvar p32) (pa_cons (ask_is (p1 := p13) (p2 := p14) (p3 := p15) (pos := p16) A iT) pa_nil) rfl rfl hl1)
  have cnt := pe_bm (apos := p30) (cpos := p31) PySem.F.plainAttrs_list PySem.F.slot_list_count PySem.F.type_list_count mt_countB (fvar p34) (pa_cons (pe_bl (b := true) (j := k1) (pos := p35)) pa_nil) rfl rfl hl2
  have s3 := ps_if (pos := p40) (pw_or (pos := p39) (pt_cmp (pos := p37) (pc_neI cnt (pe_int (i := 1) (j := k2) (pos := p36)))) (pw_or1 (pos := p39) (pt_not (pos := p38) (pt_val (ask_ve (p1 := p17) (p2 := p18) (p3 := p19) (pos := p20) A vG vM vK))))).pt (pss_never (X := X) (sts := st1)) (pss_nil (X := X))
  have never : PE X odd (fun _ _ _ => False) := ⟨fun _ _ _ _ _ _ z => z.elim⟩
  have test := (pw_and (pos := p44) (pt_val (ask_is (p1 := p21) (p2 := p22) (p3 := p23) (pos := p24) A iU)) (pw_and1 (pos := p44) (pt_val (pe_ix (pos := p43) ix_seq (fvar p41) (pe_int (i := 1) (j := k3) (pos := p42)) (fun _ _ => rfl))))).pt
  have told := pe_tupP (pos := p50) (k := kk) (pa_cons (pe_str (x := Str.ofString "use") (j := k4) (pos := p45)) (pa_cons (pe_xP (pos := p47) A.pin A.fac w1 A.zc A.fld (evar p46) rfl) (pa_cons (pe_xP (pos := p49) A.pin A.fac w2 A.zc A.fld (evar p48) rfl) pa_nil)))
  have s4 := ps_ret (pos := p52) (pe_ifExp (pos := p51) test told never)
  refine ⟨_, pss_cons s1 (pss_cons s2 (pss_cons s3 (pss_one s4))), ?_⟩
  intro H Q fs w z hd hw hz fin
  refine ⟨rfl, ⟨fs, hd⟩, rfl, ⟨fs, hd⟩, rfl, ⟨fs, hd⟩, show 3 ≤ sizeLine by decide, fun l hl => ?_⟩
  have ne : ∀ {b : Addr} {o : HO}, H b = some o → b ≠ l := fun e q => by rw [q, hl] at e; cases e
  have hd1 : upd H l (.lst [V.bl false, V.bl true, V.bl false]) dd = some (.xd fs) := (upd_ne (ne hd)).trans hd
  refine ⟨.ref l, rfl, .inl ⟨rfl, _, SqL.of upd_same⟩, rfl, ⟨fs, hd1⟩, l, _, _, rfl, rfl, upd_same, show 3 < sizeLine by decide, ?_⟩
  generalize hH2 : upd (upd H l (.lst [V.bl false, V.bl true, V.bl false])) l (.lst ([V.bl false, V.bl true, V.bl false] ++ [V.bl false])) = H2
  have at2 : H2 l = some (.lst ([false, true, false, false].map V.bl)) := by rw [← hH2]; exact upd_same
  have ext2 : ∀ {b : Addr} {o : HO}, H b = some o → H2 b = some o := fun e => by rw [← hH2, upd_ne (ne e), upd_ne (ne e)]; exact e
  have hd2 := ext2 hd
  refine ⟨.ref l, rfl, .inl ⟨rfl, _, SqL.of at2⟩, l, [false, true, false, false], true, rfl, rfl, SqL.of at2, ?_⟩
  refine ⟨1, 1, rfl, rfl, false, rfl, ?_⟩
  refine ⟨rfl, ⟨fs, hd2⟩, true, rfl, ?_⟩
  refine ⟨rfl, ⟨fs, hd2⟩, true, rfl, ?_⟩
  refine ⟨.ref l, rfl, .inl ⟨l, _, 1, .bl true, rfl, rfl, SqL.of at2, rfl, true, rfl, ?_⟩⟩
  refine ⟨.ref a, rfl, rfl, fs, w, hd2, hw, .ref a, rfl, rfl, fs, z, hd2, hz, show 3 ≤ sizeLine by decide, fun p o hp ho => ?_⟩
  refine fin _ p (fun b u e => ?_) (Pl.new ho) ?_
  · rw [upd_ne (fun q => by rw [q] at e; rw [ext2 e] at hp; cases hp)]
    exact ext2 e
  · cases e : H p with
    | none => rfl
    | some u => rw [ext2 e] at hp; cases hp
end
end Ded
end

section
set_option Elab.async false
set_option linter.all false
set_option maxRecDepth 100000
/-! try: return ("told", q()) except K as e: return refusal(e). -/
namespace Ded
open PySem L2
open PySem.Spec PyProof.Rows
open LamX (CodeO)
variable [TabName]
theorem no_takes {X : Cx} : L2N.Takes X (fun _ _ _ _ => False) := fun u s' x => by
  obtain ⟨_, _, _, _, _, _, _, _, _, _, _, _, _, _, _, _, z⟩ := x
  exact z.elim
/-- an exception of the class at C that keeps a word and a place -/
def exrUse (C : Addr) (word at_ : Str) : Value → Option Addr → Hp → List V → Prop := fun cls od H ws => ∃ dd fs w z, cls = .ref C ∧ od = some dd ∧ H dd = some (.xd fs) ∧ fs.lookup word = some w ∧ fs.lookup at_ = some z ∧ ws = [.str (Str.ofString "use"), w, z]
section
variable {X : Cx} {qg qr nm a n kx rx prm word at_ : Str} {sg : Scope} {g f0 C cK : Addr} {cdg : Value} {str : Stmt} {fdr : FuncData} {Nr : List Str} {kk k1 : Nat} {p1 p2 p3 p4 p5 p6 p7 p8 p9 p10 p11 p12 : Pos}
theorem said_gives (nd : [a, n].Nodup) (ln : sg.names.lookup n = some .local) (vn : (n == ("__debug__" : Str)) = false ∧ (n == ("__classdict__" : Str)) = false) (gk : sg.names.lookup kx = some .globalImplicit) (mk : X.mg kx = some (.ref cK)) (dk : (kx == ("__debug__" : Str)) = false)
    (gr : sg.names.lookup rx = some .globalImplicit) (mr : X.mg rx = some (.ref f0)) (dr : (rx == ("__debug__" : Str)) = false) (Fu : Fun X.K rx qr str f0 fdr) (Sr : FnScope Nr [prm] (defScope str)) (hb : Binds X.K fdr [prm] []) (exm : PySem.W.exmOne X.K (.ref C) (.ref cK) = some true)
    (refuses : ∀ (cdv : Value) (A : Around) (outer : List Env) (s : Shared) (H0 : Hp) (ae : Addr) (oe : Obj) (dd : Addr), Zc (.ref C) (some dd) oe → (∃ vs, oe.data = .fields vs) →
      ∃ t, PSs (L2H.cxH C8.CX0 X.prog X.w X.K X.mg X.base Nr qr (defScope str) f0 cdv A outer s H0 C8.E0 (ae, oe)) (defBody str) t ∧
        ∀ (H : Hp) (Q : VK) (fs : List (Str × V)) (w z : V), H dd = some (.xd fs) → fs.lookup word = some w → fs.lookup at_ = some z → (∀ H2 p, (∀ b o, H b = some o → H2 b = some o) → Pl H2 p [.str (Str.ofString "use"), w, z] → H p = none → Q (.ref p) H2) →
          t { nx := fun _ H' => Q .non H', rt := Q } (L2.start Nr [.ref ae]) H) :
    Gives X [a, n] qg sg g cdg [.Try [.Return (some (.Tuple [.Constant (.str (Str.ofString "told")) k1 p1, .Call (.Name a p2) [] [] p3] kk p4)) p5] [.ExceptHandler (some (.Name kx p6)) (some n) [.Return (some (.Call (.Name rx p7) [.Name n p8] [] p9)) p10] p11] [] [] p12] a nm (TTs (exrUse C word at_)) := by
  intro f c' s H Q tl room act hc h
  let X0 := (cxOf C8.CX0 X.prog X.w X.K X.mg X.base [a, n] qg sg g cdg X.A X.stack s H C8.E0).nox
  let tb : WX → TS := fun W D σ H => ∃ Ech : XK, (∀ cls d σ' H', Ech cls d H' → W cls d σ' H') ∧ σ[0]? = some (some (.ref f)) ∧ H c' = some (CodeO c' nm) ∧ tl Ech H fun v H' => [V.str (Str.ofString "told"), v].length ≤ sizeLine ∧ PlQ H' [.str (Str.ofString "told"), v] D.rt
  let ts : Addr → Value → Option Addr → TS := fun ae cls d D σ H => cls = .ref C ∧ (∃ σ0 : L2.St, σ = σ0.set 1 (some (.ref ae))) ∧ ∃ dd fs w z, d = some dd ∧ H dd = some (.xd fs) ∧ fs.lookup word = some w ∧ fs.lookup at_ = some z ∧
    ∀ H2 p, (∀ b o, H b = some o → H2 b = some o) → Pl H2 p [.str (Str.ofString "use"), w, z] → H p = none → D.rt (.ref p) H2
  have body : ∀ (W : WX) (pn : List (Addr × Obj)) (xe : Value → Shared → Prop), L2N.Takes (X0.tr pn xe) W → PassesOwn (model X0.prog X0.w) X0.A X0.env xe → PSs (X0.tr pn xe) [.Return (some (.Tuple [.Constant (.str (Str.ofString "told")) k1 p1, .Call (.Name a p2) [] [] p3] kk p4)) p5] (tb W) := fun W pn xe tk _ => by
    constructor
    rintro pins s' σ H' D I ⟨Ech, hW, h1, h2, h3⟩
    exact (pss_one (ps_ret (pos := p5) (pe_tupP (pos := p4) (k := kk) (pa_cons (pe_str (j := k1) (pos := p1)) (pa_cons (act W pn xe Ech p2 p3 tk hW) pa_nil))))).run pins s' σ H' D I ⟨h1, h2, h3⟩
  have suite : ∀ (ae : Addr) (oe : Obj) (cls : Value) (d : Option Addr) (pn : List (Addr × Obj)), L2N.Zn cls d oe → (∃ vs, oe.data = .fields vs) → PSs (X0.suite ae ((ae, oe) :: pn)) [.Return (some (.Call (.Name rx p7) [.Name n p8] [] p9)) p10] (ts ae cls d) := fun ae oe cls d pn zn fl => by
    constructor
    rintro pins s' σ H' D I ⟨rfl, ⟨σ0, hσ⟩, dd, fs, w, z, rfl, hd, hw, hz, fin⟩
    have len : σ.length = 2 := I.len
    have at1 : σ[1]? = some (some (V.ref ae)) := by
      rw [hσ, List.length_set] at len
      rw [hσ, List.getElem?_set_self (by omega)]
    have var : PE (X0.suite ae ((ae, oe) :: pn)) (.Name n p8) (tVar 1) := pe_var (i := 1) rfl (.inl ln) vn.1 vn.2
    have hot := pe_hot (X := X0) (pn := pn) (a := ae) (oe := oe) (p := p7) (pos := p9) (k := 0) (spR := fun H Q => ∃ fs w z, H dd = some (.xd fs) ∧ fs.lookup word = some w ∧ fs.lookup at_ = some z ∧ ∀ H2 p, (∀ b o, H b = some o → H2 b = some o) → Pl H2 p [.str (Str.ofString "use"), w, z] → H p = none → Q (.ref p) H2)
      Fu Sr room gr mr hb (fun cdv A outer s1 H1 Q1 _ hs => by
        obtain ⟨t, ht, z⟩ := refuses cdv A outer s1 H1 ae oe dd zn.zc fl
        obtain ⟨fs, w, z0, a1, a2, a3, a4⟩ := hs
        exact ⟨t, ht, z _ _ _ _ _ a1 a2 a3 a4⟩) var dr rfl
    exact (pss_one (ps_ret (pos := p10) hot)).run pins s' σ H' D I ⟨.ref ae, at1, rfl, fs, w, z, hd, hw, hz, fin⟩
  refine ⟨_, pss_one (L2N.ps_try_as (X := X0) (n := n) (i := 1) (c := .ref cK) (Wout := fun _ _ _ _ => False) (tb := tb) (ts := ts) rfl rfl nd rfl ln ⟨gk, dk, .inl mk⟩ no_takes body suite), ?_⟩
  refine ⟨_, ?_, rfl, hc, h⟩
  rintro cls d σ' H' ⟨ws, ⟨dd, fs, w, z, rfl, rfl, hd, hw, hz, rfl⟩, fin⟩
  exact ⟨true, exm, fun _ ae _ => ⟨rfl, ⟨σ', rfl⟩, dd, fs, w, z, rfl, hd, hw, hz, fin⟩, fun q => nomatch q⟩
end
end Ded
end

section
set_option Elab.async false
set_option linter.all false
set_option maxRecDepth 100000
set_option maxHeartbeats 1000000
/-! A def that tells by itself: of what class an error is, and its fields. -/
namespace Ded
open PySem L2
open PySem.Spec PyProof.Rows
open LamX (CodeO)
variable [TabName]
section
variable {X : Cx} {a C dd : Addr} {oe : Obj} {n : Str} {cn : Addr} {b : Bool} {i : Nat}
/-- the exception stands in slot i -/
structure AskI (X : Cx) (a C dd : Addr) (oe : Obj) (i : Nat) (ex : Str) : Prop where
  pin : (a, oe) ∈ X.pn
  fac : XFacts X.K C
  zc : Zc (.ref C) (some dd) oe
  fld : ∃ vs, oe.data = .fields vs
  n0 : X.N[i]? = some ex
  vis : Vis X.env.scope ex
  nd : (ex == ("__debug__" : Str)) = false
  nc : (ex == ("__classdict__" : Str)) = false
  gi : Gl X "isinstance"
  mi : X.mg "isinstance" = none
variable {ex : Str}
def tAsk (i : Nat) (a dd : Addr) (b : Bool) : TE := fun σ H Q => σ[i]? = some (some (.ref a)) ∧ (∃ fs, H dd = some (.xd fs)) ∧ Q (.bl b) H
theorem is_of {p1 p2 p3 pos : Pos} (A : AskI X a C dd oe i ex) (h : IsC X C n cn b) : PE X (.Call (.Name "isinstance" p1) [.Name ex p2, .Name n p3] [] pos) (tAsk i a dd b) := by
  have names : PA X [.Name ex p2, .Name n p3] _ := pa_cons (pe_var A.n0 A.vis A.nd A.nc) (pa_cons (pe_glob h.gl h.mg (v := .ref cn) rfl h.nd) pa_nil) star2
  refine PE.imp (pe_callB (call_isP A.pin A.fac A.zc A.fld) A.gi A.mi (by decide +kernel) names (by decide +kernel) (by decide +kernel) star2 rfl) ?_
  rintro σ H Q ⟨h0, ⟨fs, hd⟩, q⟩
  exact ⟨.ref a, h0, .ref cn, .ref cn, b, fs, rfl, hd, fun u r => r, h.kit, q⟩
theorem is_ve {p1 p2 p3 pos : Pos} (A : AskI X a C dd oe i ex) (hg : Gl X "ValueError") (hm : X.mg "ValueError" = none) (hk : PySem.W.kitOne X.K (.ref C) (.type "ValueError") = some b) : PE X (.Call (.Name "isinstance" p1) [.Name ex p2, .Name "ValueError" p3] [] pos) (tAsk i a dd b) := by
  have known := pe_bltn (X := X) (pos := p3) (v := .ty "ValueError") hg hm (u := .type "ValueError") PyProof.Rows.Boot.«ValueError» rfl (by decide +kernel) (by decide +kernel)
  have names : PA X [.Name ex p2, .Name "ValueError" p3] _ := pa_cons (pe_var A.n0 A.vis A.nd A.nc) (pa_cons known pa_nil) star2
  refine PE.imp (pe_callB (call_isP A.pin A.fac A.zc A.fld) A.gi A.mi (by decide +kernel) names (by decide +kernel) (by decide +kernel) star2 rfl) ?_
  rintro σ H Q ⟨h0, ⟨fs, hd⟩, q⟩
  exact ⟨.ref a, h0, .ty "ValueError", .type "ValueError", b, fs, rfl, hd, fun u r => r, hk, q⟩
end
/-- the fields that are told, by the class's number -/
def fldH : Nat → List Str
  | 0 => [Str.ofString "short"]
  | 2 => [Str.ofString "at"]
  | _ => [Str.ofString "word", Str.ofString "at"]
def wordH : Nat → Str
  | 0 => Str.ofString "not held"
  | 1 => Str.ofString "use"
  | 2 => Str.ofString "not possible"
  | _ => Str.ofString "paper"
/-- what stands in the table of an error -/
def fldV (c : Nat) (fs : List (Str × V)) (ws : List V) : Prop := (fldH c).map (fun f => fs.lookup f) = ws.map some
theorem pair_some {x y : Option V} {ws : List V} (h : [x, y] = ws.map some) : ∃ w z, x = some w ∧ y = some z ∧ ws = [w, z] := by
  match ws, h with
  | [w, z], h => exact ⟨w, z, (List.cons.inj h).1, (List.cons.inj (List.cons.inj h).2).1, rfl⟩
theorem sole_some {x : Option V} {ws : List V} (h : [x] = ws.map some) : ∃ w, x = some w ∧ ws = [w] := by
  match ws, h with
  | [w], h => exact ⟨w, (List.cons.inj h).1, rfl⟩
/-- what the last statements of the telling def do, its list of four known -/
def HeardEnds (X : Cx) (a dd : Addr) (c : Nat) (sts : List Stmt) : Prop := ∃ t, PSs X sts t ∧ ∀ (H : Hp) (Q : VK) (fs : List (Str × V)) (ws : List V) (σ : L2.St) (l : Addr), σ[1]? = some (some (.ref a)) → σ[2]? = some (some (.ref l)) → SqL X.K H l [.bl (c == 1), .bl (c == 0), .bl (c == 2), .bl (c == 3)] → H dd = some (.xd fs) → fldV c fs ws →
  (∀ H2 p, (∀ b o, H b = some o → H2 b = some o) → Pl H2 p (.str (wordH c) :: ws) → H p = none → Q (.ref p) H2) → ∀ (D : Ends), D.rt = Q → t D σ H
section
variable {X : Cx} {a C dd : Addr} {oe : Obj} {ex own sorts : Str} {cU cH cP cI cS cE cL cT : Addr} {nU nH nP nI nS nE nL nT : Str}
  {p1 p2 p3 p4 p5 p6 p7 p8 p9 p10 p11 p12 p13 p14 p15 p16 p17 p18 p19 p20 p21 p22 p23 p24 p25 p26 p27 p28 p29 p30 p31 p32 p33 p34 p35 p36 p37 p38 p39 p40 : Pos}
  {q1 q2 q3 q4 q5 q6 q7 q8 q9 q10 q11 q12 q13 q14 q15 q16 q17 q18 q19 q20 q21 q22 q23 q24 q25 q26 q27 q28 q29 q30 q31 q32 q33 q34 q35 q36 q37 q38 q39 q40 q41 q42 q43 q44 q45 q46 q47 q48 q49 q50 q51 q52 q53 q54 q55 q56 q57 : Pos} {k1 k2 k3 k4 k5 k6 k7 k8 k9 k10 k11 k12 : Nat} {odd1 odd2 : List Stmt} {j1 j2 j3 : Nat}
theorem heard_ends {c : Nat} (hc : c < 4) (A : AskI X a C dd oe 1 ex) (n2 : X.N[2]? = some own) (fv : Vis X.env.scope own) (fd : (own == ("__debug__" : Str)) = false) (fc : (own == ("__classdict__" : Str)) = false) (noF : ∀ f ∈ fldH c, PySem.W.findIn X.K (.ref C) f = some none) :
    HeardEnds X a dd c [.If (.Subscript (.Name own q32) (.Constant (.int 1) k6 q33) q34) [.Return (some (.Tuple [.Constant (.str (Str.ofString "not held")) k7 q35, .Attribute (.Name ex q36) "short" q37] j1 q38)) q39] [] q40,
        .If (.Subscript (.Name own q41) (.Constant (.int 2) k8 q42) q43) [.Return (some (.Tuple [.Constant (.str (Str.ofString "not possible")) k9 q44, .Attribute (.Name ex q45) "at" q46] j2 q47)) q48] [] q49,
        .Return (some (.Tuple [.IfExp (.Subscript (.Name own q50) (.Constant (.int 3) k10 q51) q52) (.Constant (.str (Str.ofString "paper")) k11 q53) (.Constant (.str (Str.ofString "use")) k12 q54) q55, .Attribute (.Name ex p37) "word" p38, .Attribute (.Name ex p39) "at" p40] j3 q1)) q2] := by
  have ov : ∀ p, PE X (.Name own p) (tVar 2) := fun p => pe_var n2 fv fd fc
  have ev : ∀ p, PE X (.Name ex p) (tVar 1) := fun p => pe_var A.n0 A.vis A.nd A.nc
  have ask1 := pt_val (pe_ix (pos := q34) ix_seq (ov q32) (pe_int (i := 1) (j := k6) (pos := q33)) (fun _ _ => rfl))
  have ask2 := pt_val (pe_ix (pos := q43) ix_seq (ov q41) (pe_int (i := 2) (j := k8) (pos := q42)) (fun _ _ => rfl))
  have ask3 := pt_val (pe_ix (pos := q52) ix_seq (ov q50) (pe_int (i := 3) (j := k10) (pos := q51)) (fun _ _ => rfl))
  have said := pe_ifExp (pos := q55) ask3 (pe_str (x := Str.ofString "paper") (j := k11) (pos := q53)) (pe_str (x := Str.ofString "use") (j := k12) (pos := q54))
  have skip1 := ps_if (pos := q40) ask1 (pss_never (X := X) (sts := [.Return (some (.Tuple [.Constant (.str (Str.ofString "not held")) k7 q35, .Attribute (.Name ex q36) "short" q37] j1 q38)) q39])) (pss_nil (X := X))
  have skip2 := ps_if (pos := q49) ask2 (pss_never (X := X) (sts := [.Return (some (.Tuple [.Constant (.str (Str.ofString "not possible")) k9 q44, .Attribute (.Name ex q45) "at" q46] j2 q47)) q48])) (pss_nil (X := X))
  have never : ∀ st, PS X st (fun _ _ _ => False) := fun st => ⟨fun _ _ _ _ _ _ z => z.elim⟩
  have grown : ∀ {H : Hp} {p : Addr} {u : HO}, H p = none → ∀ b o, H b = some o → upd H p u b = some o := fun hp b o e => (upd_ne (fun q => by rw [q, hp] at e; cases e)).trans e
  have two : ∀ {c : Nat}, fldH c = [Str.ofString "word", Str.ofString "at"] → (c == 0) = false → (c == 2) = false → wordH c = (if (c == 3) = true then Str.ofString "paper" else Str.ofString "use") → (∀ f ∈ fldH c, PySem.W.findIn X.K (.ref C) f = some none) → HeardEnds X a dd c [.If (.Subscript (.Name own q32) (.Constant (.int 1) k6 q33) q34) [.Return (some (.Tuple [.Constant (.str (Str.ofString "not held")) k7 q35, .Attribute (.Name ex q36) "short" q37] j1 q38)) q39] [] q40,
        .If (.Subscript (.Name own q41) (.Constant (.int 2) k8 q42) q43) [.Return (some (.Tuple [.Constant (.str (Str.ofString "not possible")) k9 q44, .Attribute (.Name ex q45) "at" q46] j2 q47)) q48] [] q49,
        .Return (some (.Tuple [.IfExp (.Subscript (.Name own q50) (.Constant (.int 3) k10 q51) q52) (.Constant (.str (Str.ofString "paper")) k11 q53) (.Constant (.str (Str.ofString "use")) k12 q54) q55, .Attribute (.Name ex p37) "word" p38, .Attribute (.Name ex p39) "at" p40] j3 q1)) q2] := by
    intro c e n0 n2 ew noF
    have f1 := pe_xP (pos := p38) A.pin A.fac (noF (Str.ofString "word") (by rw [e]; simp)) A.zc A.fld (ev p37) rfl
    have f2 := pe_xP (pos := p40) A.pin A.fac (noF (Str.ofString "at") (by rw [e]; simp)) A.zc A.fld (ev p39) rfl
    refine ⟨_, pss_cons skip1 (pss_cons skip2 (pss_one (ps_ret (pos := q2) (pe_tupP (pos := q1) (k := j3) (pa_cons said (pa_cons f1 (pa_cons f2 pa_nil))))))), fun H Q fs ws σ l h1 h2 sq hd hf fin D hD => ?_⟩
    unfold fldV at hf
    rw [e] at hf
    obtain ⟨v, w, hv, hw, rfl⟩ := pair_some hf
    rw [n0, n2] at sq
    refine ⟨.ref l, h2, .inl ⟨l, _, 1, .bl false, rfl, rfl, sq, rfl, false, rfl, ?_⟩⟩
    refine ⟨.ref l, h2, .inl ⟨l, _, 2, .bl false, rfl, rfl, sq, rfl, false, rfl, ?_⟩⟩
    refine ⟨.ref l, h2, .inl ⟨l, _, 3, .bl (c == 3), rfl, rfl, sq, rfl, (c == 3), rfl, ?_⟩⟩
    rw [ew] at fin
    generalize (c == 3) = k at fin ⊢
    cases k <;> refine ⟨.ref a, h1, rfl, fs, v, hd, hv, .ref a, h1, rfl, fs, w, hd, hw, show 3 ≤ sizeLine by decide, fun p o hp ho => ?_⟩
    all_goals
      show D.rt _ _
      rw [hD]
      exact fin _ p (grown hp) (Pl.new ho) hp
  rcases c with _ | _ | _ | _ | c
  · have f1 := pe_xP (pos := q37) A.pin A.fac (noF (Str.ofString "short") (by simp [fldH])) A.zc A.fld (ev q36) rfl
    have go := ps_if (pos := q40) ask1 (pss_one (ps_ret (pos := q39) (pe_tupP (pos := q38) (k := j1) (pa_cons (pe_str (x := Str.ofString "not held") (j := k7) (pos := q35)) (pa_cons f1 pa_nil))))) (pss_nil (X := X))
    refine ⟨_, pss_cons go (pss_cons (never _) (pss_one (never _))), fun H Q fs ws σ l h1 h2 sq hd hf fin D hD => ?_⟩
    obtain ⟨v, hv, rfl⟩ := sole_some hf
    refine ⟨.ref l, h2, .inl ⟨l, _, 1, .bl true, rfl, rfl, sq, rfl, true, rfl, ?_⟩⟩
    refine ⟨.ref a, h1, rfl, fs, v, hd, hv, show 2 ≤ sizeLine by decide, fun p o hp ho => ?_⟩
    show D.rt _ _
    rw [hD]
    exact fin _ p (grown hp) (Pl.new ho) hp
  · exact two rfl rfl rfl rfl noF
  · have f1 := pe_xP (pos := q46) A.pin A.fac (noF (Str.ofString "at") (by simp [fldH])) A.zc A.fld (ev q45) rfl
    have go := ps_if (pos := q49) ask2 (pss_one (ps_ret (pos := q48) (pe_tupP (pos := q47) (k := j2) (pa_cons (pe_str (x := Str.ofString "not possible") (j := k9) (pos := q44)) (pa_cons f1 pa_nil))))) (pss_nil (X := X))
    refine ⟨_, pss_cons skip1 (pss_cons go (pss_one (never _))), fun H Q fs ws σ l h1 h2 sq hd hf fin D hD => ?_⟩
    obtain ⟨v, hv, rfl⟩ := sole_some hf
    refine ⟨.ref l, h2, .inl ⟨l, _, 1, .bl false, rfl, rfl, sq, rfl, false, rfl, ?_⟩⟩
    refine ⟨.ref l, h2, .inl ⟨l, _, 2, .bl true, rfl, rfl, sq, rfl, true, rfl, ?_⟩⟩
    refine ⟨.ref a, h1, rfl, fs, v, hd, hv, show 2 ≤ sizeLine by decide, fun p o hp ho => ?_⟩
    show D.rt _ _
    rw [hD]
    exact fin _ p (grown hp) (Pl.new ho) hp
  · exact two rfl rfl rfl rfl noF
  · omega
theorem heard_use {c : Nat} (hu : X.A.units + 64 < cLine) (hc : c < 4) {c1 c2 c3 c4 c5 c6 c7 c8 c9 : Expr} (e1 : c1 = .Call (.Name "isinstance" p1) [.Name ex p2, .Name nU p3] [] p4) (e2 : c2 = .Call (.Name "isinstance" p5) [.Name ex p6, .Name nH p7] [] p8) (e3 : c3 = .Call (.Name "isinstance" p9) [.Name ex p10, .Name nP p11] [] p12)
    (e4 : c4 = .Call (.Name "isinstance" p13) [.Name ex p14, .Name nI p15] [] p16) (e5 : c5 = .Call (.Name "isinstance" p17) [.Name ex p18, .Name nS p19] [] p20) (e6 : c6 = .Call (.Name "isinstance" p21) [.Name ex p22, .Name nE p23] [] p24) (e7 : c7 = .Call (.Name "isinstance" p25) [.Name ex p26, .Name nL p27] [] p28)
    (e8 : c8 = .Call (.Name "isinstance" p29) [.Name ex p30, .Name "ValueError" p31] [] p32) (e9 : c9 = .Call (.Name "isinstance" p33) [.Name ex p34, .Name nT p35] [] p36)
    (A : AskI X a C dd oe 1 ex) (nd : X.N.Nodup) (len : X.N.length = 4) (n2 : X.N[2]? = some own) (n3 : X.N[3]? = some sorts) (fv : Vis X.env.scope own) (fl : Loc X.env.scope own) (ff : X.fn own = true ∨ X.env.scope.names.lookup own = some .local) (gf : X.fn sorts = true ∨ X.env.scope.names.lookup sorts = some .local) (fd : (own == ("__debug__" : Str)) = false) (fc : (own == ("__classdict__" : Str)) = false)
    (gv : Vis X.env.scope sorts) (gl : Loc X.env.scope sorts) (gd : (sorts == ("__debug__" : Str)) = false) (gc : (sorts == ("__classdict__" : Str)) = false)
    (iU : IsC X C nU cU (c == 1)) (iH : IsC X C nH cH (c == 0)) (iP : IsC X C nP cP (c == 2)) (iI : IsC X C nI cI (c == 3)) (iS : IsC X C nS cS (c != 3)) (iE : IsC X C nE cE (c == 3)) (iL : IsC X C nL cL false) (iT : IsC X C nT cT false)
    (vG : Gl X "ValueError") (vM : X.mg "ValueError" = none) (vK : PySem.W.kitOne X.K (.ref C) (.type "ValueError") = some true) (noF : ∀ f ∈ fldH c, PySem.W.findIn X.K (.ref C) f = some none) (hl1 : (q3.endLine == q4.line) = true) (hl2 : (q9.endLine == q10.line) = true) :
    ∃ t, PSs X [.Assign [.Name own q1] (.List [c1, c2, c3] q2) q5,
        .Expr (.Call (.Attribute (.Name own q6) "append" q3) [c4] [] q4) q7,
        .Assign [.Name sorts q8] (.List [c5, c6, c7] q11) q12,
        .If (.BoolOp .Or [.UnaryOp .Not c8 q13, .Compare (.Call (.Attribute (.Name own q14) "count" q9) [.Constant (.bool true) k1 q15] [] q10) [.NotEq] [.Constant (.int 1) k2 q16] q17, c9] q18) odd1 [] q19,
        .If (.Compare (.Name sorts q20) [.NotEq] [.List [.UnaryOp .Not (.Subscript (.Name own q21) (.Constant (.int 3) k3 q22) q23) q24, .Subscript (.Name own q25) (.Constant (.int 3) k4 q26) q27, .Constant (.bool false) k5 q28] q29] q30) odd2 [] q31,
        .If (.Subscript (.Name own q32) (.Constant (.int 1) k6 q33) q34) [.Return (some (.Tuple [.Constant (.str (Str.ofString "not held")) k7 q35, .Attribute (.Name ex q36) "short" q37] j1 q38)) q39] [] q40,
        .If (.Subscript (.Name own q41) (.Constant (.int 2) k8 q42) q43) [.Return (some (.Tuple [.Constant (.str (Str.ofString "not possible")) k9 q44, .Attribute (.Name ex q45) "at" q46] j2 q47)) q48] [] q49,
        .Return (some (.Tuple [.IfExp (.Subscript (.Name own q50) (.Constant (.int 3) k10 q51) q52) (.Constant (.str (Str.ofString "paper")) k11 q53) (.Constant (.str (Str.ofString "use")) k12 q54) q55, .Attribute (.Name ex p37) "word" p38, .Attribute (.Name ex p39) "at" p40] j3 q56)) q57] t ∧
      ∀ (H : Hp) (Q : VK) (fs : List (Str × V)) (ws : List V) (σ : L2.St), σ.length = 4 → σ[1]? = some (some (.ref a)) → H dd = some (.xd fs) → fldV c fs ws → (∀ H2 p, (∀ b o, H b = some o → H2 b = some o) → Pl H2 p (.str (wordH c) :: ws) → H p = none → Q (.ref p) H2) →
        ∀ (D : Ends), D.rt = Q → t D σ H := by
  subst e1 e2 e3 e4 e5 e6 e7 e8 e9
  obtain ⟨tE, hE, runE⟩ := heard_ends (q32 := q32) (q33 := q33) (q34 := q34) (q35 := q35) (q36 := q36) (q37 := q37) (q38 := q38) (q39 := q39) (q40 := q40) (q41 := q41) (q42 := q42) (q43 := q43) (q44 := q44) (q45 := q45) (q46 := q46) (q47 := q47) (q48 := q48) (q49 := q49) (q50 := q50) (q51 := q51) (q52 := q52) (q53 := q53) (q54 := q54) (q55 := q55) (q1 := q56) (q2 := q57) (p37 := p37) (p38 := p38) (p39 := p39) (p40 := p40) (k6 := k6) (k7 := k7) (k8 := k8) (k9 := k9) (k10 := k10) (k11 := k11) (k12 := k12) (j1 := j1) (j2 := j2) (j3 := j3) hc A n2 fv fd fc noF
  have ov : ∀ p, PE X (.Name own p) (tVar 2) := fun p => pe_var n2 fv fd fc
  have sv : ∀ p, PE X (.Name sorts p) (tVar 3) := fun p => pe_var n3 gv gd gc
  have s1 := ps_set (pos' := q1) (pos := q5) nd n2 fl (pe_lst (pos := q2) (pa_cons (is_of (p1 := p1) (p2 := p2) (p3 := p3) (pos := p4) A iU) (pa_cons (is_of (p1 := p5) (p2 := p6) (p3 := p7) (pos := p8) A iH) (pa_cons (is_of (p1 := p9) (p2 := p10) (p3 := p11) (pos := p12) A iP) pa_nil))))
  have s2 := ps_expr (pos := q7) (pe_bm (apos := q3) (cpos := q4) PySem.F.plainAttrs_list PySem.F.slot_list_append PySem.F.type_list_append mt_append (ov q6) (pa_cons (is_of (p1 := p13) (p2 := p14) (p3 := p15) (pos := p16) A iI) pa_nil) rfl rfl hl1)
  have s3 := ps_set (pos' := q8) (pos := q12) nd n3 gl (pe_lst (pos := q11) (pa_cons (is_of (p1 := p17) (p2 := p18) (p3 := p19) (pos := p20) A iS) (pa_cons (is_of (p1 := p21) (p2 := p22) (p3 := p23) (pos := p24) A iE) (pa_cons (is_of (p1 := p25) (p2 := p26) (p3 := p27) (pos := p28) A iL) pa_nil))))
  have cnt := pe_bm (apos := q9) (cpos := q10) PySem.F.plainAttrs_list PySem.F.slot_list_count PySem.F.type_list_count mt_countB (ov q14) (pa_cons (pe_bl (b := true) (j := k1) (pos := q15)) pa_nil) rfl rfl hl2
  have s4 := ps_if (pos := q19) (pw_or (pos := q18) (pt_not (pos := q13) (pt_val (is_ve (p1 := p29) (p2 := p30) (p3 := p31) (pos := p32) A vG vM vK))) (pw_or (pos := q18) (pt_cmp (pos := q17) (pc_neI cnt (pe_int (i := 1) (j := k2) (pos := q16)))) (pw_or1 (pos := q18) (pt_val (is_of (p1 := p33) (p2 := p34) (p3 := p35) (pos := p36) A iT))))).pt (pss_never (X := X) (sts := odd1)) (pss_nil (X := X))
  have ix1 := pe_ix (pos := q23) ix_seq (ov q21) (pe_int (i := 3) (j := k3) (pos := q22)) (fun _ _ => rfl)
  have ix2 := pe_ix (pos := q27) ix_seq (ov q25) (pe_int (i := 3) (j := k4) (pos := q26)) (fun _ _ => rfl)
  have lit := pe_lst (pos := q29) (pa_cons (pe_not (pos := q24) ix1) (pa_cons ix2 (pa_cons (pe_bl (b := false) (j := k5) (pos := q28)) pa_nil)))
  have s5 := ps_if (pos := q31) (pt_cmpR (pos := q30) (op_neD hu) (sv q20) lit rfl) (pss_never (X := X) (sts := odd2)) (pss_nil (X := X))
  refine ⟨_, pss_cons s1 (pss_cons s2 (pss_cons s3 (pss_cons s4 (pss_cons s5 hE)))), ?_⟩
  intro H Q fs ws σ ln h1 hd hf fin D hD
  obtain ⟨x0, x1, x2, x3, rfl⟩ : ∃ x0 x1 x2 x3, σ = [x0, x1, x2, x3] := by
    match σ, ln with
    | [x0, x1, x2, x3], _ => exact ⟨_, _, _, _, rfl⟩
  obtain rfl : x1 = some (.ref a) := by simpa using h1
  refine ⟨rfl, ⟨fs, hd⟩, rfl, ⟨fs, hd⟩, rfl, ⟨fs, hd⟩, show 3 ≤ sizeLine by decide, fun l hl => ?_⟩
  have ne : ∀ {b : Addr} {o : HO}, H b = some o → b ≠ l := fun e q => by rw [q, hl] at e; cases e
  have hd1 : upd H l (.lst [V.bl (c == 1), V.bl (c == 0), V.bl (c == 2)]) dd = some (.xd fs) := (upd_ne (ne hd)).trans hd
  refine ⟨.ref l, rfl, .inl ⟨rfl, _, SqL.of upd_same⟩, rfl, ⟨fs, hd1⟩, l, _, _, rfl, rfl, upd_same, show 3 < sizeLine by decide, ?_⟩
  generalize hH2 : upd (upd H l (.lst [V.bl (c == 1), V.bl (c == 0), V.bl (c == 2)])) l (.lst ([V.bl (c == 1), V.bl (c == 0), V.bl (c == 2)] ++ [V.bl (c == 3)])) = H2
  have at2 : H2 l = some (.lst ([c == 1, c == 0, c == 2, c == 3].map V.bl)) := by rw [← hH2]; exact upd_same
  have ext2 : ∀ b o, H b = some o → H2 b = some o := fun b o e => by rw [← hH2, upd_ne (ne e), upd_ne (ne e)]; exact e
  have hd2 := ext2 _ _ hd
  refine ⟨rfl, ⟨fs, hd2⟩, rfl, ⟨fs, hd2⟩, rfl, ⟨fs, hd2⟩, show 3 ≤ sizeLine by decide, fun m hm => ?_⟩
  have ne2 : ∀ {b : Addr} {o : HO}, H2 b = some o → b ≠ m := fun e q => by rw [q, hm] at e; cases e
  generalize hH3 : upd H2 m (.lst [V.bl (c != 3), V.bl (c == 3), V.bl false]) = H3
  have atm : H3 m = some (.lst [V.bl (c != 3), V.bl (c == 3), V.bl false]) := by rw [← hH3]; exact upd_same
  have ext3 : ∀ b o, H2 b = some o → H3 b = some o := fun b o e => by rw [← hH3, upd_ne (ne2 e)]; exact e
  have hd3 := ext3 _ _ hd2
  have at3 := ext3 _ _ at2
  have hcnt : countIn (.bool true) ([c == 1, c == 0, c == 2, c == 3].map PyData.bool) = 1 := by
    rcases c with _ | _ | _ | _ | c <;> first | rfl | omega
  refine ⟨rfl, ⟨fs, hd3⟩, true, rfl, ?_⟩
  refine ⟨.ref l, rfl, .inl ⟨rfl, _, SqL.of at3⟩, l, [c == 1, c == 0, c == 2, c == 3], true, rfl, rfl, SqL.of at3, ?_⟩
  refine ⟨1, 1, congrArg V.int hcnt, rfl, false, rfl, ?_⟩
  refine ⟨rfl, ⟨fs, hd3⟩, false, rfl, ?_⟩
  refine ⟨.ref m, rfl, .ref l, rfl, .inl ⟨l, _, 3, .bl (c == 3), rfl, rfl, SqL.of at3, rfl, (c == 3), rfl, ?_⟩⟩
  refine ⟨.ref l, rfl, .inl ⟨l, _, 3, .bl (c == 3), rfl, rfl, SqL.of at3, rfl, ?_⟩⟩
  refine ⟨show 3 ≤ sizeLine by decide, fun n hn => ?_⟩
  have ne3 : ∀ {b : Addr} {o : HO}, H3 b = some o → b ≠ n := fun e q => by rw [q, hn] at e; cases e
  generalize hH4 : upd H3 n (.lst [V.bl (!(c == 3)), V.bl (c == 3), V.bl false]) = H4
  have atn : H4 n = some (.lst [V.bl (!(c == 3)), V.bl (c == 3), V.bl false]) := by rw [← hH4]; exact upd_same
  have ext4 : ∀ b o, H3 b = some o → H4 b = some o := fun b o e => by rw [← hH4, upd_ne (ne3 e)]; exact e
  have bools : ∀ (x y z : Bool), DpAll X.K H4 [V.bl x, V.bl y, V.bl z] [.bool x, .bool y, .bool z] := fun x y z => .cons (.bl x) (.cons (.bl y) (.cons (.bl z) .nil))
  refine ⟨.list [.bool (c != 3), .bool (c == 3), .bool false], .list [.bool (!(c == 3)), .bool (c == 3), .bool false], .lst (SqL.of (ext4 _ _ atm)) (bools _ _ _), .lst (SqL.of atn) (bools _ _ _), rfl, rfl, false, ?_, ?_⟩
  · show V.bl (!PyData.eqv (.list [.bool (!(c == 3)), .bool (c == 3), .bool false]) (.list [.bool (!(c == 3)), .bool (c == 3), .bool false])) = V.bl false
    cases (c == 3) <;> rfl
  have old : ∀ b o, H b = some o → H4 b = some o := fun b o e => ext4 _ _ (ext3 _ _ (ext2 _ _ e))
  refine runE H4 Q fs ws _ l rfl rfl (SqL.of (ext4 _ _ at3)) (old _ _ hd) hf (fun H5 p grow pl new => fin H5 p (fun b o e => grow b o (old b o e)) pl ?_) _ hD
  cases e : H p with
  | none => rfl
  | some u => rw [old _ _ e] at new; cases new
end
/-- exceptions of several classes, as they are told: the number, the class -/
def exrH (cs : Nat → Option Addr) : Value → Option Addr → Hp → List V → Prop := fun cls od H ws => ∃ c C dd fs vs, c < 4 ∧ cs c = some C ∧ cls = .ref C ∧ od = some dd ∧ H dd = some (.xd fs) ∧ fldV c fs vs ∧ ws = .str (wordH c) :: vs ∧ ws.length ≤ sizeLine
section
variable {X : Cx} {qg a n own sorts nm kx : Str} {sg : Scope} {g cK : Addr} {cdg : Value} {cs : Nat → Option Addr} {hd0 : Stmt} {hds : List Stmt} {kk k1 : Nat} {p1 p2 p3 p4 p5 p6 p7 p8 p9 p10 p11 p12 : Pos}
theorem heard_gives (nd : [a, n, own, sorts].Nodup) (ln : sg.names.lookup n = some .local) (gk : sg.names.lookup kx = some .globalImplicit) (mk : X.mg kx = some (.ref cK)) (dk : (kx == ("__debug__" : Str)) = false) (exm : ∀ c C, cs c = some C → PySem.W.exmOne X.K (.ref C) (.ref cK) = some true)
    (refuses : ∀ c C, cs c = some C → c < 4 → ∀ (s : Shared) (H0 : Hp) (ae : Addr) (oe : Obj) (dd : Addr) (pn : List (Addr × Obj)), Room 1 (X.A.deeper (envOfC qg sg s.heap.objs.size g cdg)) → Zc (.ref C) (some dd) oe → (∃ vs, oe.data = .fields vs) →
      ∃ t, PSs ((cxOf C8.CX0 X.prog X.w X.K X.mg X.base [a, n, own, sorts] qg sg g cdg X.A X.stack s H0 C8.E0).nox.suite ae ((ae, oe) :: pn)) (hd0 :: hds) t ∧
        ∀ (H : Hp) (Q : VK) (fs : List (Str × V)) (ws : List V) (σ : L2.St), σ.length = 4 → σ[1]? = some (some (.ref ae)) → H dd = some (.xd fs) → fldV c fs ws → (∀ H2 p, (∀ b o, H b = some o → H2 b = some o) → Pl H2 p (.str (wordH c) :: ws) → H p = none → Q (.ref p) H2) →
          ∀ (D : Ends), D.rt = Q → t D σ H) :
    Gives X [a, n, own, sorts] qg sg g cdg [.Try [.Return (some (.Tuple [.Constant (.str (Str.ofString "told")) k1 p1, .Call (.Name a p2) [] [] p3] kk p4)) p5] [.ExceptHandler (some (.Name kx p6)) (some n) (hd0 :: hds) p11] [] [] p12] a nm (TTs (exrH cs)) := by
  intro f c' s H Q tl room act hc h
  let X0 := (cxOf C8.CX0 X.prog X.w X.K X.mg X.base [a, n, own, sorts] qg sg g cdg X.A X.stack s H C8.E0).nox
  let tb : WX → TS := fun W D σ H => ∃ Ech : XK, (∀ cls d σ' H', Ech cls d H' → W cls d σ' H') ∧ σ[0]? = some (some (.ref f)) ∧ H c' = some (CodeO c' nm) ∧ tl Ech H fun v H' => [V.str (Str.ofString "told"), v].length ≤ sizeLine ∧ PlQ H' [.str (Str.ofString "told"), v] D.rt
  let ts : Addr → Value → Option Addr → TS := fun ae cls d D σ H => (∃ σ0 : L2.St, σ = σ0.set 1 (some (.ref ae))) ∧ ∃ c C dd fs vs, c < 4 ∧ cs c = some C ∧ cls = .ref C ∧ d = some dd ∧ H dd = some (.xd fs) ∧ fldV c fs vs ∧
    ∀ H2 p, (∀ b o, H b = some o → H2 b = some o) → Pl H2 p (.str (wordH c) :: vs) → H p = none → D.rt (.ref p) H2
  have body : ∀ (W : WX) (pn : List (Addr × Obj)) (xe : Value → Shared → Prop), L2N.Takes (X0.tr pn xe) W → PassesOwn (model X0.prog X0.w) X0.A X0.env xe → PSs (X0.tr pn xe) [.Return (some (.Tuple [.Constant (.str (Str.ofString "told")) k1 p1, .Call (.Name a p2) [] [] p3] kk p4)) p5] (tb W) := fun W pn xe tk _ => by
    constructor
    rintro pins s' σ H' D I ⟨Ech, hW, h1, h2, h3⟩
    exact (pss_one (ps_ret (pos := p5) (pe_tupP (pos := p4) (k := kk) (pa_cons (pe_str (j := k1) (pos := p1)) (pa_cons (act W pn xe Ech p2 p3 tk hW) pa_nil))))).run pins s' σ H' D I ⟨h1, h2, h3⟩
  have suite : ∀ (ae : Addr) (oe : Obj) (cls : Value) (d : Option Addr) (pn : List (Addr × Obj)), L2N.Zn cls d oe → (∃ vs, oe.data = .fields vs) → PSs (X0.suite ae ((ae, oe) :: pn)) (hd0 :: hds) (ts ae cls d) := fun ae oe cls d pn zn fl => by
    constructor
    rintro pins s' σ H' D I ⟨⟨σ0, hσ⟩, c, C, dd, fs, vs, lt, hC, rfl, rfl, hdd, hf, fin⟩
    have len : σ.length = 4 := I.len
    have at1 : σ[1]? = some (some (V.ref ae)) := by
      rw [hσ, List.length_set] at len
      rw [hσ, List.getElem?_set_self (by omega)]
    obtain ⟨t, ht, z⟩ := refuses c C hC lt s H ae oe dd pn room zn.zc fl
    exact ht.run pins s' σ H' D I (z H' D.rt fs vs σ len at1 hdd hf fin D rfl)
  refine ⟨_, pss_one (L2N.ps_try_as (X := X0) (n := n) (i := 1) (Wout := fun _ _ _ _ => False) (tb := tb) (ts := ts) (c := .ref cK) rfl rfl nd rfl ln ⟨gk, dk, .inl mk⟩ no_takes body suite), ?_⟩
  refine ⟨_, ?_, rfl, hc, h⟩
  rintro cls d σ' H' ⟨ws, ⟨c, C, dd, fs, vs, lt, hC, rfl, rfl, hdd, hf, rfl, _⟩, fin⟩
  exact ⟨true, exm c C hC, fun _ ae _ => ⟨⟨σ', rfl⟩, c, C, dd, fs, vs, lt, hC, rfl, rfl, hdd, hf, fin⟩, fun q => nomatch q⟩
end
end Ded
end

section
set_option Elab.async false
set_option linter.all false
set_option maxRecDepth 100000
/-! Whether a text reads as an expression of the evaluator. -/
namespace Ded
open PySem L2
structure GInfo where
  name : Str
  ps : List Str
  /-- orders of keywords that are used: for each parameter its place, and the names -/
  kos : List (List Nat × List Str) := []
structure Ctl where
  N : List Str
  sc : Scope
  fn : Str → Bool
  G : List GInfo
  noG : List Str
  cs : List (Str × D)
  /-- the defs that call what they are given and tell how it ended, and their ways -/
  said : List (Str × Nat)
  /-- the classes of what is raised, and their numbers -/
  cls : List (Str × Nat)
  /-- whether lambdas are made here -/
  lam : Bool
def noPars : Arguments → Bool
  | ⟨[], [], none, [], [], none, []⟩ => true
  | _ => false
def isVis : Option NameKind → Bool
  | some .local => true
  | some .cell => true
  | some .free => true
  | _ => false
def isGl : Option NameKind → Bool
  | some .globalImplicit => true
  | _ => false
def isLocal : Option NameKind → Bool
  | some .local => true
  | _ => false
def isCell : Option NameKind → Bool
  | some .cell => true
  | _ => false
def okName (x : Str) : Bool := !(x == ("__debug__" : Str)) && !(x == ("__classdict__" : Str))
def Ctl.vis (c : Ctl) (x : Str) : Bool := isVis (c.sc.names.lookup x) && okName x
def Ctl.gl (c : Ctl) (x : Str) : Bool := isGl (c.sc.names.lookup x)
def Ctl.loc (c : Ctl) (x : Str) : Bool := isLocal (c.sc.names.lookup x) || (isCell (c.sc.names.lookup x) && c.fn x)
def Ctl.var (c : Ctl) (i : Nat) (x : Str) : Bool := decide (c.N[i]? = some x) && c.vis x
def Ctl.blt (c : Ctl) (x : Str) : Bool := c.gl x && decide (x ∈ c.noG)
def Ctl.blk (c : Ctl) (scope : Scope) : Ctl := { c with sc := relS scope c.sc, fn := fun x => scope.names.lookup x == some .cell, said := [], cls := [], lam := false }
def Ctl.lamIn (c : Ctl) (scope : Scope) : Ctl := { c with sc := scope, fn := fun _ => false, said := [], cls := [], lam := false }
def plainT : Expr → Bool
  | .UnaryOp .Not _ _ => false
  | .BoolOp .. => false
  | .IfExp .. => false
  | .Compare .. => false
  | _ => true
def isComp : Expr → Bool
  | .ListComp .. => true
  | .SetComp .. => true
  | .DictComp .. => true
  | _ => false
def isTup : Expr → Bool
  | .Tuple .. => true
  | _ => false
def one (f : Expr → Bool) : List Expr → Bool
  | [x] => f x
  | _ => false
structure Ck where
  v : Expr → Bool := fun _ => false
  t : Expr → Bool := fun _ => false
  an : List Expr → Bool := fun _ => false
  on : List Expr → Bool := fun _ => false
  atn : List Expr → Bool := fun _ => false
  otn : List Expr → Bool := fun _ => false
  av : Expr → Bool := fun _ => false
  l : List Expr → Bool := fun _ => false
  p : List Expr → Bool := fun _ => false
  a : List Expr → Bool := fun _ => false
  kw : List Keyword → Bool := fun _ => false
  k : List (Option Expr) → List Expr → Bool := fun _ _ => false
  o : Option Expr → Bool := fun _ => false
  c : List Expr → Bool := fun _ => false
  w : Expr → Expr → Bool := fun _ _ => false
  g : Expr → Option (List Nat) := fun _ => none
  gs : List Expr → Option (List Nat) := fun _ => none
  sw : Expr → Bool := fun _ => false
def Ck.ex (v : Expr → Bool) : Ck where
  v := v
  t := fun x => plainT x && v x
  an := one v
  on := one v
  atn := one fun x => plainT x && v x
  otn := one fun x => plainT x && v x
  av := v
  o := fun x => match x with
    | some x => v x
    | none => false
  w := fun _ x => v x && !isSet x
/-- the tests are the expression's own -/
def Ck.cm (v : Expr → Bool) : Ck := { Ck.ex v with t := v, atn := one v, otn := one v }
def cstC : D → Expr → Bool
  | .int i, .Constant (.int j) _ _ => decide (i = j)
  | .bool b, .Constant (.bool d) _ _ => decide (b = d)
  | .str x, .Constant (.str y) _ _ => decide (x = y)
  | .none, .Constant .none _ _ => true
  | _, _ => false
def oC : Option Int → Option Expr → Bool
  | none, none => true
  | some i, some (.Constant (.int j) _ _) => decide (i = j)
  | _, _ => false
def eqAtom : D → D → Bool
  | .int i, .int j => decide (i = j)
  | .str x, .str y => decide (x = y)
  | .bool x, .bool y => decide (x = y)
  | .none, .none => true
  | _, _ => false
def isNil : E → Bool
  | .nil => true
  | _ => false
def own (N : List Str) (vs : List Nat) : List (Str × Nat) := vs.map fun i => (N.getD i "", i)
/-- the places that a target stores are among these -/
def gIn (o : Option (List Nat)) (vs : List Nat) : Bool := match o with
  | some ts => ts.all fun j => decide (j ∈ vs)
  | none => false
theorem gIn_is {o : Option (List Nat)} {vs : List Nat} (h : gIn o vs = true) : ∃ ts, o = some ts ∧ ∀ j ∈ ts, j ∈ vs := by
  cases o with
  | none => cases h
  | some ts => exact ⟨ts, rfl, fun j hj => of_decide_eq_true (List.all_eq_true.mp h j hj)⟩
def ck : E → Ctl → Ck
  | .var i, c => { Ck.ex (fun e => match e with
      | .Name x _ => c.var i x
      | _ => false) with
    g := fun e => match e with
      | .Name x _ => if (decide (c.N[i]? = some x) && c.loc x) = true then some [i] else none
      | _ => none }
  | .lend i, c => { av := fun e => match e with
      | .Name x _ => c.var i x
      | _ => false }
  | .borw i, c => { av := fun e => match e with
      | .Name x _ => c.var i x
      | _ => false }
  | .cst d, _ => Ck.ex (cstC d)
  | .glb y d, c => Ck.ex fun e => match e with
      | .Name x _ => decide (x = y) && c.gl x && okName x && c.cs.any fun p => decide (p.1 = x) && eqAtom p.2 d
      | _ => false
  | .bin o a b, c => Ck.ex fun e => match e with
      | .BinOp x op y _ => decide (op = o.op) && (ck a c).v x && (ck b c).v y
      | _ => false
  | .neg a, c => Ck.ex fun e => match e with
      | .UnaryOp .USub x _ => (ck a c).v x
      | _ => false
  | .cmp o a b, c => Ck.cm fun e => match e with
      | .Compare x [op] [y] _ => decide (op = o.op) && (ck a c).v x && (ck b c).v y && !isSet y
      | _ => false
  | .chn o o' a b d, c => Ck.cm fun e => match e with
      | .Compare x [op, op'] [y, z] _ => decide (op = o.op) && decide (op' = o'.op) && (ck a c).v x && (ck b c).v y && (ck d c).v z && !isSet z
      | _ => false
  | .and a b, c =>
    let an := fun xs : List Expr => match xs with
      | x :: y :: r => (ck a c).v x && (ck b c).an (y :: r)
      | _ => false
    let atn := fun xs : List Expr => match xs with
      | x :: y :: r => (ck a c).t x && (ck b c).atn (y :: r)
      | _ => false
    { v := fun e => match e with
        | .BoolOp .And xs _ => an xs
        | _ => false
      t := fun e => match e with
        | .BoolOp .And xs _ => atn xs
        | _ => false
      an := an
      atn := atn
      otn := one fun e => match e with
        | .BoolOp .And xs _ => atn xs
        | _ => false
      on := one fun e => match e with
        | .BoolOp .And xs _ => an xs
        | _ => false
      av := fun e => match e with
        | .BoolOp .And xs _ => an xs
        | _ => false }
  | .or a b, c =>
    let on := fun xs : List Expr => match xs with
      | x :: y :: r => (ck a c).v x && (ck b c).on (y :: r)
      | _ => false
    let otn := fun xs : List Expr => match xs with
      | x :: y :: r => (ck a c).t x && (ck b c).otn (y :: r)
      | _ => false
    { v := fun e => match e with
        | .BoolOp .Or xs _ => on xs
        | _ => false
      t := fun e => match e with
        | .BoolOp .Or xs _ => otn xs
        | _ => false
      on := on
      otn := otn
      atn := one fun e => match e with
        | .BoolOp .Or xs _ => otn xs
        | _ => false
      an := one fun e => match e with
        | .BoolOp .Or xs _ => on xs
        | _ => false
      av := fun e => match e with
        | .BoolOp .Or xs _ => on xs
        | _ => false }
  | .not a, c =>
    let t := fun e : Expr => match e with
      | .UnaryOp .Not x _ => (ck a c).t x
      | _ => false
    { Ck.ex (fun e => match e with
      | .UnaryOp .Not x _ => (ck a c).v x
      | _ => false) with t := t, atn := one t, otn := one t }
  | .ite t a b, c => Ck.ex fun e => match e with
      | .IfExp x y z _ => (ck t c).t x && (ck a c).v y && (ck b c).v z
      | _ => false
  | .tup es, c => { Ck.ex (fun e => match e with
      | .Tuple xs _ _ => (ck es c).l xs
      | _ => false) with
    g := fun e => match e with
      | .Tuple xs _ _ => (ck es c).gs xs
      | _ => none }
  | .lst es, c => Ck.ex fun e => match e with
      | .List xs _ => (ck es c).l xs
      | _ => false
  | .dct kvs, c => Ck.ex fun e => match e with
      | .Dict [] [] _ => isNil kvs
      | .Dict ks vs _ => (ck kvs c).k ks vs && !ks.isEmpty && decide (ks.length ≤ 15)
      | _ => false
  | .idx a b, c => Ck.ex fun e => match e with
      | .Subscript x y _ => (ck a c).v x && (ck b c).v y && !isSlice y
      | _ => false
  | .sli a lo hi, c => Ck.ex fun e => match e with
      | .Subscript x (.Slice l h none _) _ => (ck a c).v x && (ck lo c).o l && (ck hi c).o h
      | _ => false
  | .rev a, c => Ck.ex fun e => match e with
      | .Subscript x (.Slice none none (some (.UnaryOp .USub (.Constant (.int 1) _ _) _)) _) _ => (ck a c).v x
      | _ => false
  | .sls i lo hi, c => Ck.ex fun e => match e with
      | .Subscript (.Name x _) (.Slice l h none _) _ => c.var i x && oC lo l && oC hi h
      | _ => false
  | .isi a ts, c => Ck.ex fun e => match e, ts with
      | .Call (.Name f _) [x, .Name y _] [] _, [t] => decide (f = "isinstance") && c.blt f && (ck a c).v x && !isStar x && decide (y = t.nm) && c.blt y
      | _, _ => false
  | .blt f as, c => Ck.ex fun e => match e with
      | .Call (.Name x _) (y :: r) [] _ => decide (x = f.name) && c.blt x && (ck as c).p (y :: r)
      | _ => false
  | .call g as, c => Ck.ex fun e => match e, c.G[g]? with
      | .Call (.Name x _) es [] _, some i => decide (x = i.name) && c.gl x && okName x && (match es with
        | [] => isNil as
        | y :: r => (ck as c).a (y :: r))
      | _, _ => false
  | .callk g _ as, c => Ck.ex fun e => match e, c.G[g]? with
      | .Call (.Name x _) [] kws _, some i => decide (x = i.name) && c.gl x && okName x && (ck as c).kw kws && decide (kws.map (·.arg) = i.ps.map some)
      | _, _ => false
  | .callp g ix as, c => Ck.ex fun e => match e, c.G[g]? with
      | .Call (.Name x _) [] kws _, some i => decide (x = i.name) && c.gl x && okName x && (ck as c).kw kws && i.kos.any fun o => decide (o.1 = ix) && decide (kws.map (·.arg) = o.2.map some)
      | _, _ => false
  | .join o a, c => Ck.ex fun e => match e with
      | .Call (.Attribute x m ap) [y] [] p => decide (m = "join") && (ck o c).v x && (ck a c).v y && !isBare x && !isStar y && (ap.endLine == p.line)
      | _ => false
  | .get1 o k, c => Ck.ex fun e => match e with
      | .Call (.Attribute x m ap) [y] [] p => decide (m = "get") && (ck o c).v x && (ck k c).v y && !isBare x && !isStar y && (ap.endLine == p.line)
      | _ => false
  | .get2 o k d, c => Ck.ex fun e => match e with
      | .Call (.Attribute x m ap) [y, z] [] p => decide (m = "get") && (ck o c).v x && (ck k c).v y && (ck d c).v z && !isBare x && !isStar y && !isStar z && (ap.endLine == p.line)
      | _ => false
  | .litems a, c => Ck.ex fun e => match e with
      | .Call (.Name f _) [.Call (.Attribute x m ap) [] [] cp] [] _ => decide (f = "list") && decide (m = "items") && c.blt f && (ck a c).v x && !isBare x && (ap.endLine == cp.line)
      | _ => false
  | .sitems a, c => Ck.ex fun e => match e with
      | .Call (.Name f _) [.Call (.Attribute x m ap) [] [] cp] [] _ => decide (f = "sorted") && decide (m = "items") && c.blt f && (ck a c).v x && !isBare x && (ap.endLine == cp.line)
      | _ => false
  | .upper a, c => Ck.ex fun e => match e with
      | .Call (.Attribute x m ap) [] [] p => decide (m = "upper") && (ck a c).v x && !isBare x && (ap.endLine == p.line)
      | _ => false
  | .app i a, c => Ck.ex fun e => match e with
      | .Call (.Attribute (.Name x _) m ap) [y] [] p => decide (m = "append") && c.var i x && (ck a c).v y && !isStar y && (ap.endLine == p.line)
      | _ => false
  | .pop0 i, c => Ck.ex fun e => match e with
      | .Call (.Attribute (.Name x _) m ap) [] [] p => decide (m = "pop") && c.var i x && (ap.endLine == p.line)
      | _ => false
  | .pop1 i a, c => Ck.ex fun e => match e with
      | .Call (.Attribute (.Name x _) m ap) [y] [] p => decide (m = "pop") && c.var i x && (ck a c).v y && !isStar y && (ap.endLine == p.line)
      | _ => false
  | .lc elt tg it ifs vs, c =>
    let v := fun e : Expr => match e with
      | .ListComp y [⟨t, i, fs, z⟩] scope _ => decide (z = 0) && (ck it c).w t i && blkC c.N c.sc scope (own c.N vs) && (match (ck tg (c.blk scope)).g t with
        | some ts => ts.all fun j => decide (j ∈ vs)
        | none => false) && (ck ifs (c.blk scope)).c fs && (ck elt (c.blk scope)).v y
      | _ => false
    { Ck.ex v with sw := v }
  | .lc2 elt tg it ifs tg1 it1 ifs1 vs vs1, c =>
    let v := fun e : Expr => match e with
      | .ListComp y [⟨t, i, fs, z⟩, ⟨t1, i1, fs1, z1⟩] scope _ => decide (z = 0 ∧ z1 = 0) && (ck it c).w t i && blkC c.N c.sc scope (own c.N vs) && gIn ((ck tg (c.blk scope)).g t) vs && gIn ((ck tg1 (c.blk scope)).g t1) vs1 && (vs1.all fun j => decide (j ∈ vs)) &&
        (ck ifs (c.blk scope)).c fs && (ck it1 (c.blk scope)).w t1 i1 && (ck ifs1 (c.blk scope)).c fs1 && (ck elt (c.blk scope)).v y
      | _ => false
    { Ck.ex v with sw := v }
  | .dlc key val tg it ifs vs, c =>
    let v := fun e : Expr => match e with
      | .DictComp x y [⟨t, i, fs, z⟩] scope _ => decide (z = 0) && (ck it c).w t i && blkC c.N c.sc scope (own c.N vs) && (match (ck tg (c.blk scope)).g t with
        | some ts => ts.all fun j => decide (j ∈ vs)
        | none => false) && (ck ifs (c.blk scope)).c fs && (ck key (c.blk scope)).v x && (ck val (c.blk scope)).v y
      | _ => false
    { Ck.ex v with sw := v }
  | .dlc2 key val tg it ifs tg1 it1 ifs1 vs vs1, c =>
    let v := fun e : Expr => match e with
      | .DictComp x y [⟨t, i, fs, z⟩, ⟨t1, i1, fs1, z1⟩] scope _ => decide (z = 0 ∧ z1 = 0) && (ck it c).w t i && blkC c.N c.sc scope (own c.N vs) && gIn ((ck tg (c.blk scope)).g t) vs && gIn ((ck tg1 (c.blk scope)).g t1) vs1 && (vs1.all fun j => decide (j ∈ vs)) &&
        (ck ifs (c.blk scope)).c fs && (ck it1 (c.blk scope)).w t1 i1 && (ck ifs1 (c.blk scope)).c fs1 && (ck key (c.blk scope)).v x && (ck val (c.blk scope)).v y
      | _ => false
    { Ck.ex v with sw := v }
  | .said kd a, c => Ck.ex fun e => match e with
      | .Call (.Name x _) [.Lambda ps body scope _] [] _ => c.lam && (c.said.any fun s => decide (s.1 = x) && decide (s.2 = kd)) && c.gl x && okName x && noPars ps && LamX.lamSB c.sc scope && (ck a (c.lamIn scope)).v body
      | _ => false
  | .nil, _ => {
      l := fun xs => xs.isEmpty
      p := fun xs => xs.isEmpty
      a := fun xs => xs.isEmpty
      kw := fun xs => xs.isEmpty
      k := fun xs ys => xs.isEmpty && ys.isEmpty
      o := fun x => x.isNone
      c := fun xs => xs.isEmpty
      gs := fun xs => if xs.isEmpty = true then some [] else none }
  | .cons a r, c => {
      l := fun xs => match xs with
        | x :: xs => (ck a c).v x && !isStar x && (ck r c).l xs
        | [] => false
      p := fun xs => match xs with
        | x :: xs => (ck a c).v x && !isStar x && (ck r c).p xs
        | [] => false
      a := fun xs => match xs with
        | x :: xs => (ck a c).av x && !isStar x && (ck r c).a xs
        | [] => false
      kw := fun xs => match xs with
        | ⟨some _, x, _⟩ :: xs => (ck a c).av x && (ck r c).kw xs
        | _ => false
      c := fun xs => match xs with
        | [x] => (ck a c).t x && isNil r
        | _ => false
      gs := fun xs => match xs with
        | x :: xs => match (ck a c).g x, (ck r c).gs xs with
          | some ts, some us => some (ts ++ us)
          | _, _ => none
        | [] => none }
  | .star a r, c => {
      l := fun xs => match xs with
        | .Starred x _ :: xs => (ck a c).v x && (ck r c).l xs
        | _ => false }
  | .kv a b r, c => {
      k := fun ks vs => match ks, vs with
        | some x :: ks, y :: vs => (ck a c).v x && (ck b c).v y && (ck r c).k ks vs
        | _, _ => false }
  | .range as, c => { w := fun _ e => match e with
      | .Call (.Name f _) [x] [] _ => decide (f = "range") && c.blt f && (ck as c).p [x]
      | .Call (.Name f _) [x, y] [] _ => decide (f = "range") && c.blt f && (ck as c).p [x, y]
      | _ => false }
  | .zip a b, c => { w := fun t e => match e with
      | .Call (.Name f _) [x, y] [] _ => isTup t && decide (f = "zip") && c.blt f && (ck a c).v x && (ck b c).v y && !isStar x && !isStar y
      | _ => false }
  | .zip3 a b d, c => { w := fun t e => match e with
      | .Call (.Name f _) [x, y, z] [] _ => isTup t && decide (f = "zip") && c.blt f && (ck a c).v x && (ck b c).v y && (ck d c).v z && !isStar x && !isStar y && !isStar z
      | _ => false }
  | .enum a, c => { w := fun t e => match e with
      | .Call (.Name f _) [x] [] _ => isTup t && decide (f = "enumerate") && c.blt f && (ck a c).v x && !isStar x
      | _ => false }
/-- stored in the targets' order, one after another -/
def inOrder (c : Ctl) (t y : Expr) : Bool := match t, y with
  | .Tuple ts _ _, .Tuple _ _ _ => ts.any fun x => match x with
    | .Name x _ => !isLocal (c.sc.names.lookup x)
    | _ => true
  | .Tuple _ _ _, _ => true
  | _, _ => false
/-- whether a list made in one line stands to be stored by its block -/
def swC (c : Ctl) (x : Str) (p : Pos) (y : Expr) : Bool := match y with
  | .ListComp _ _ s pos => isLocal (c.sc.names.lookup x) && (p.line == pos.line) && !(s.names.any fun (n, k) => n == x && (k == .local || k == .cell))
  | .SetComp .. => true
  | .DictComp _ _ _ s pos => isLocal (c.sc.names.lookup x) && (p.line == pos.line) && !(s.names.any fun (n, k) => n == x && (k == .local || k == .cell))
  | _ => false
def ckS : C → Ctl → List Stmt → Bool
  | .nop, _, [] => true
  | .exp e k, c, .Expr x _ :: r => (ck e c).v x && !isComp x && ckS k c r
  | .set i e k, c, .Assign [.Name x p] y _ :: r => decide (c.N[i]? = some x) && (if swC c x p y = true then isLocal (c.sc.names.lookup x) && (ck e c).sw y else c.loc x && (ck e c).v y) && ckS k c r
  | .asg t e k, c, .Assign [tg] y _ :: r => isTup tg && inOrder c tg y && (ck e c).v y && ((ck t c).g tg).isSome && ckS k c r
  | .par i j a b k, c, .Assign [.Tuple [.Name x px, .Name y py] _ _] (.Tuple [a', b'] _ _) _ :: r => decide (c.N[i]? = some x) && decide (c.N[j]? = some y) && decide (i ≠ j) && decide (x ≠ y) && isLocal (c.sc.names.lookup x) && isLocal (c.sc.names.lookup y) &&
      (ck a c).v a' && (ck b c).v b' && !isStar a' && !isStar b' && (px.line == py.line) && !([a', b'].all (foldedForSure 8)) && !([a', b'].all (constantsAlone 8)) && ckS k c r
  | .par3 i j l a b d k, c, .Assign [.Tuple [.Name x px, .Name y py, .Name z pz] _ _] (.Tuple [a', b', d'] _ _) _ :: r => decide (c.N[i]? = some x) && decide (c.N[j]? = some y) && decide (c.N[l]? = some z) && decide (i ≠ j ∧ i ≠ l ∧ j ≠ l) && decide (x ≠ y ∧ x ≠ z ∧ y ≠ z) && (isLocal (c.sc.names.lookup x) && isLocal (c.sc.names.lookup y) && isLocal (c.sc.names.lookup z)) &&
      ((ck a c).v a' && (ck b c).v b' && (ck d c).v d') && (!isStar a' && !isStar b' && !isStar d') && ((px.line == py.line) && (px.line == pz.line)) && !([a', b', d'].all (foldedForSure 8)) && !([a', b', d'].all (constantsAlone 8)) && ckS k c r
  | .sti i key v k, c, .Assign [.Subscript (.Name x _) e _] y _ :: r => c.var i x && (ck key c).v e && (ck v c).v y && ckS k c r
  | .ret e, c, [.Return (some x) _] => (ck e c).v x
  | .ite t a b k, c, .If x y z _ :: r => (ck t c).t x && ckS a c y && ckS b c z && ckS k c r
  | .for_ t it b k, c, .For tg iter body [] _ :: r => (ck it c).w tg iter && ((ck t c).g tg).isSome && ckS b c body && ckS k c r
  | .whl t b k, c, .While x body [] _ :: r => (ck t c).t x && ckS b c body && ckS k c r
  | .rai n as, c, [.Raise (some (.Call (.Name x _) (y :: r) [] _)) none _] => (c.cls.any fun s => decide (s.1 = x) && decide (s.2 = n)) && c.gl x && okName x && (ck as c).l (y :: r) && (y :: r).all fun e => !isStar e
  | _, _, _ => false
end Ded
end

section
set_option Elab.async false
set_option linter.all false
set_option maxRecDepth 100000
/-! What is checked, holds. -/
namespace Ded
open PySem L2
variable [TabName]
/-- a def that tells how what it is given ends -/
structure SaidOk (X : Cx) (xc : Xc) (kd : Nat) (x : Str) : Prop where
  ex : ∃ (a qg : Str) (g : Addr) (pg : Arguments) (bg : List Stmt) (sg : Scope) (dV kV doc pm cdv ct oc : Value) (an od : Option Addr) (osl : Array (Option Value)) (Ng : List Str) (exr : Value → Option Addr → Hp → List V → Prop),
    X.mg x = some (.ref g) ∧ PySem.W.keepIn X.K (.ref g) = true ∧ X.K.lookup g = some ⟨oc, od, .func (PySem.W.fnOf x qg pg bg sg dV kV doc pm an cdv ct), osl⟩ ∧ PySem.W.codeIn X.K cdv qg = true ∧ Binds X.K (PySem.W.fnOf x qg pg bg sg dV kV doc pm an cdv ct) [a] [] ∧
      FnScope Ng [a] sg ∧ Ng[0]? = some a ∧ Vis sg a ∧ okName a = true ∧ (∀ nm, Gives X Ng qg sg g cdv bg a nm (TTs exr)) ∧
      ∀ c fs F ex μ H cls od d, refusalOf kd c fs = some d → xc.x c fs F ex μ H cls od → ∃ ws ds, d = .tuple ds ∧ exr cls od H ws ∧ RfA X.K F H ws ds ∧ ws.length ≤ sizeLine
/-- where lambdas are made: the table of their code objects -/
structure LamOk (X : Cx) (k : Nat) : Prop where
  room : Room (k + 2) X.A
  ex : ∃ (cc P : Addr), X.env.code = .ref cc ∧ LamX.TabB X.base X.mg cc P ∧ (P, X.env.qual ++ "<lambda>") ∈ TabName.T ∧ ∀ p ∈ TabName.T, p.1 = P → p.2 = X.env.qual ++ "<lambda>"
structure Good (c : Ctl) (k : Nat) (cd : Nat → List Val → List D → R Val) (xc : Xc) (X : Cx) (Wi : XK) : Prop where
  calm : X.calm = true
  nd : X.N.Nodup
  N : X.N = c.N
  sc : X.env.scope = c.sc
  kind : c.sc.kind = .function
  fn : X.fn = c.fn
  room : Room k X.A
  gd : X.A.guards = some []
  noG : ∀ x, x ∈ c.noG → X.mg x = none
  cs : ∀ p, p ∈ c.cs → ∃ v u, X.mg p.1 = some u ∧ RelV v u ∧ ∀ F H, Rf X.K F H v p.2
  G : ∀ g i, c.G[g]? = some i → ∃ f fd, X.mg i.name = some (.ref f) ∧ PySem.W.keepIn X.K (.ref f) = true ∧ Binds X.K fd i.ps [] ∧
    (∀ (s : Shared) (us : List Value), X.K.In s.heap → us.length = i.ps.length → BindsTo s fd ⟨[], i.ps.zip us⟩ (i.ps.zip us)) ∧
    (∀ o ∈ i.kos, ∀ (s : Shared) (us : List Value), X.K.In s.heap → us.length = o.2.length → BindsTo s fd ⟨[], o.2.zip us⟩ (i.ps.zip (rearr o.1 us))) ∧ FnG X.prog X.w X.K X.mg X.base k f fd i.ps (spD X.K xc (cd g) i.ps.length)
  hn : ∀ g i, c.G[g]? = some i → ∀ us μ, us.length ≠ i.ps.length → cd g us μ = .bad
  pass : Passes (L2N.CX X.prog X.w) X Wi
  said : ∀ x kd, (x, kd) ∈ c.said → SaidOk X xc kd x
  lam : c.lam = true → LamOk X k
  cls : ∀ x n, (x, n) ∈ c.cls → ClsOk X.prog X.w X.K X.mg X.base xc x n
structure Snd (xc : Xc) (X : Cx) (Wi : XK) (k : Ck) (d : Den) : Prop where
  v : ∀ x, k.v x = true → ∀ en, PEd X xc en Wi x d.v
  t : ∀ x, k.t x = true → ∀ en, PTd X xc en Wi x d.t
  an : ∀ xs, k.an xs = true → ∀ en p, PEd X xc en Wi (.BoolOp .And xs p) d.v
  on : ∀ xs, k.on xs = true → ∀ en p, PEd X xc en Wi (.BoolOp .Or xs p) d.v
  atn : ∀ xs, k.atn xs = true → ∀ en p, PW X (.BoolOp .And xs p) (TT' X.K xc en Wi d.t)
  otn : ∀ xs, k.otn xs = true → ∀ en p, PW X (.BoolOp .Or xs p) (TT' X.K xc en Wi d.t)
  av : ∀ x, k.av x = true → ∀ en, PE X x (T1 X.K xc en Wi (RAr X.K) d.av)
  l : ∀ xs, k.l xs = true → ∀ en, PA X xs (TL X.K xc en Wi (RFz X.K) d.l)
  p : ∀ xs, k.p xs = true → ∀ en, PA X xs (TL X.K xc en Wi (ROp X.K) d.p)
  pn : ∀ xs, k.p xs = true → nLen d.p xs.length
  ps : ∀ xs, k.p xs = true → (xs.all fun e => !isStar e) = true
  a : ∀ xs, k.a xs = true → ∀ en, PA X xs (TL X.K xc en Wi (RAr X.K) d.a)
  as : ∀ xs, k.a xs = true → (xs.all fun e => !isStar e) = true
  kw : ∀ xs, k.kw xs = true → ∀ en, PK X xs (TL X.K xc en Wi (RAr X.K) d.a)
  kn : ∀ xs, k.kw xs = true → nLen d.a xs.length
  dk : ∀ ks vs, k.k ks vs = true → ∀ en pos, PKv X xc en Wi pos ks vs d.k
  o : ∀ x, k.o x = true → ∀ en, PO X x (TO' X xc en Wi d.o)
  c : ∀ xs, k.c xs = true → ∀ en, PTs X xs (TT' X.K xc en Wi d.c)
  w : ∀ t x, k.w t x = true → isSet x = false ∧ ∀ en, PId X xc en Wi t x d.w
  g : ∀ x ts, k.g x = some ts → ∀ en : Entry xc.T, PGd X en x ts d.g
  gs : ∀ x ts, k.gs x = some ts → ∀ en : Entry xc.T, PGsd X en x ts d.gs
  sw : ∀ y, k.sw y = true → ∀ en x p i spos, X.N[i]? = some x → X.env.scope.names.lookup x = some .local → swapsWith y (some (.Name x p)) spos.line X.env = pure true → PS X (.Assign [.Name x p] y spos) (TS' X.K xc en Wi (kSet i d.v))
section
variable {c : Ctl} {k : Nat} {cd : Nat → List Val → List D → R Val} {xc : Xc} {X : Cx} {Wi : XK} {d : Den} {m : M Val} {x : Str} {i : Nat}
theorem Snd.no : Snd xc X Wi {} d where
  v := fun _ h => nomatch h
  t := fun _ h => nomatch h
  an := fun _ h => nomatch h
  on := fun _ h => nomatch h
  atn := fun _ h => nomatch h
  otn := fun _ h => nomatch h
  av := fun _ h => nomatch h
  l := fun _ h => nomatch h
  p := fun _ h => nomatch h
  pn := fun _ h => nomatch h
  ps := fun _ h => nomatch h
  a := fun _ h => nomatch h
  as := fun _ h => nomatch h
  kw := fun _ h => nomatch h
  kn := fun _ h => nomatch h
  dk := fun _ _ h => nomatch h
  o := fun _ h => nomatch h
  c := fun _ h => nomatch h
  w := fun _ _ h => nomatch h
  g := fun _ _ h => nomatch h
  gs := fun _ _ h => nomatch h
  sw := fun _ h => nomatch h
theorem plain_test {a : Expr} (h : plainT a = true) : ∀ {env : Env} (whole : Sem Value), isTrue a env whole = (do let v ← whole; standAt a.pos; holding [v] (truthy v)) := by
  intro env whole
  cases a <;> first | rfl | (cases h; done) | skip
  rename_i op _ _
  cases op <;> first | rfl | cases h
theorem one_eq {f : Expr → Bool} {xs : List Expr} (h : one f xs = true) : ∃ x, xs = [x] ∧ f x = true := by
  match xs, h with
  | [x], h => exact ⟨x, rfl, h⟩
theorem and2 {a b : Bool} (h : (a && b) = true) : a = true ∧ b = true := by simpa using h
theorem notF {a : Bool} (h : (!a) = true) : a = false := by simpa using h
theorem Snd.ex {v : Expr → Bool} (h : ∀ x, v x = true → ∀ en, PEd X xc en Wi x m) : Snd xc X Wi (Ck.ex v) (Den.ex m) := by
  have ht : ∀ x, (plainT x && v x) = true → ∀ en, PTd X xc en Wi x (tTru m) := fun x q en => by
    obtain ⟨q1, q2⟩ := and2 q
    exact d_tru (h x q2 en) fun whole => plain_test q1 whole
  exact { (Snd.no : Snd xc X Wi {} (Den.ex m)) with
    v := h
    t := ht
    an := fun xs q en p => by obtain ⟨x, rfl, q⟩ := one_eq q; exact d_one (h x q en)
    on := fun xs q en p => by obtain ⟨x, rfl, q⟩ := one_eq q; exact d_one (h x q en)
    atn := fun xs q en p => by obtain ⟨x, rfl, q⟩ := one_eq q; exact d_and1 (ht x q en)
    otn := fun xs q en p => by obtain ⟨x, rfl, q⟩ := one_eq q; exact d_or1 (ht x q en)
    av := fun x q en => d_arg (h x q en)
    o := fun x q en => by
      cases x with
      | none => cases q
      | some x => exact d_oint (h x q en)
    w := fun t x q => by
      obtain ⟨q1, q2⟩ := and2 q
      exact ⟨notF q2, fun en => w_of (h x q1 en)⟩ }
theorem Snd.cm {v : Expr → Bool} (h : ∀ x, v x = true → ∀ en, PEd X xc en Wi x m) (ht : ∀ x, v x = true → ∀ en, PTd X xc en Wi x (tTru m)) : Snd xc X Wi (Ck.cm v) (Den.ex m) :=
  { Snd.ex h with
    t := ht
    atn := fun xs q en p => by obtain ⟨x, rfl, q⟩ := one_eq q; exact d_and1 (ht x q en)
    otn := fun xs q en p => by obtain ⟨x, rfl, q⟩ := one_eq q; exact d_or1 (ht x q en) }
theorem vis_ok {o : Option NameKind} (h : isVis o = true) : o = some .local ∨ o = some .cell ∨ o = some .free := by
  unfold isVis at h
  split at h <;> first | exact .inl rfl | exact .inr (.inl rfl) | exact .inr (.inr rfl) | cases h
theorem gl_ok {o : Option NameKind} (h : isGl o = true) : o = some .globalImplicit := by
  unfold isGl at h
  split at h <;> first | rfl | cases h
theorem local_ok {o : Option NameKind} (h : isLocal o = true) : o = some .local := by
  unfold isLocal at h
  split at h <;> first | rfl | cases h
theorem cell_ok {o : Option NameKind} (h : isCell o = true) : o = some .cell := by
  unfold isCell at h
  split at h <;> first | rfl | cases h
theorem name_ok (h : okName x = true) : (x == ("__debug__" : Str)) = false ∧ (x == ("__classdict__" : Str)) = false := by
  obtain ⟨a, b⟩ := and2 h
  exact ⟨notF a, notF b⟩
theorem Good.gl (G : Good c k cd xc X Wi) (h : c.gl x = true) : Gl X x := by
  have e := gl_ok h
  rw [← G.sc] at e
  exact e
theorem Good.var (G : Good c k cd xc X Wi) (h : c.var i x = true) : X.N[i]? = some x ∧ Vis X.env.scope x ∧ (x == ("__debug__" : Str)) = false ∧ (x == ("__classdict__" : Str)) = false := by
  obtain ⟨h1, h2⟩ := and2 h
  obtain ⟨h2, h3⟩ := and2 h2
  have e := vis_ok h2
  rw [← G.sc] at e
  exact ⟨by rw [G.N]; exact of_decide_eq_true h1, e, name_ok h3⟩
theorem Good.loc (G : Good c k cd xc X Wi) (h : c.loc x = true) : Loc X.env.scope x ∧ (X.fn x = true ∨ X.env.scope.names.lookup x = some .local) := by
  unfold Ctl.loc at h
  rw [← G.sc, ← G.fn] at h
  rcases (by simpa using h : isLocal (X.env.scope.names.lookup x) = true ∨ _) with h | ⟨h, h2⟩
  · exact ⟨.inl (local_ok h), .inr (local_ok h)⟩
  · exact ⟨.inr (cell_ok h), .inl h2⟩
theorem Good.blt (G : Good c k cd xc X Wi) (h : c.blt x = true) : Gl X x ∧ X.mg x = none := by
  obtain ⟨h1, h2⟩ := and2 h
  exact ⟨G.gl h1, G.noG x (of_decide_eq_true h2)⟩
theorem Good.units (G : Good c k cd xc X Wi) : X.A.units + 65 < cLine := by
  have := G.room.un
  omega
theorem Good.units1 (G : Good c k cd xc X Wi) : X.A.units + 1 < cLine := by
  have := G.room.un
  omega
theorem Good.blk {scope : Scope} (G : Good c k cd xc X Wi) (hk : scope.kind = .function) (s : Shared) (H : Hp) (C : Addr) (cl : List (Str × Addr)) (fp : List Addr) : Good (c.blk scope) k cd xc (X.blk s H scope (compEnvC scope cl C X.env) fp) (fun _ _ _ => False) where
  calm := G.calm
  nd := G.nd
  N := G.N
  sc := by rw [show (c.blk scope).sc = relS scope c.sc from rfl, ← G.sc]; rfl
  kind := hk
  fn := rfl
  room := G.room
  gd := G.gd
  noG := G.noG
  cs := G.cs
  G := G.G
  hn := G.hn
  pass := pass_no
  said := fun _ _ m => nomatch m
  lam := fun z => nomatch (show false = true from z)
  cls := fun _ _ m => nomatch m
theorem Good.lamX {scope : Scope} (G : Good c k cd xc X Wi) (hk : scope.kind = .function) {A : Around} {outer : List Env} {s : Shared} {H : Hp} {E : XK} {f c' : Addr} (hg : A.guards = X.A.guards) (room : Room k (A.deeper (LamX.lamEnv X scope s.heap.objs.size f c'))) : Good (c.lamIn scope) k cd xc (lamX X A outer s H E scope f c') E where
  calm := rfl
  nd := G.nd
  N := G.N
  sc := rfl
  kind := hk
  fn := rfl
  room := room
  gd := hg.trans G.gd
  noG := G.noG
  cs := G.cs
  G := G.G
  hn := G.hn
  pass := L2N.passes_call (W := fun cls d _ H => E cls d H) (L2N.takes_of rfl rfl rfl rfl) fun _ _ _ _ h => h
  said := fun _ _ m => nomatch m
  lam := fun z => nomatch (show false = true from z)
  cls := fun _ _ m => nomatch m
theorem oC_ok {lo : Option Int} {e : Option Expr} (h : oC lo e = true) : PO X e fun σ H Q => Q lo H := by
  unfold oC at h
  split at h
  · exact po_none
  · rename_i i j _ _
    have e := of_decide_eq_true h
    subst e
    have z := po_some (X := X) (pe_int (X := X) (i := i) (j := ‹Nat›) (pos := ‹Pos›))
    exact ⟨fun pins s σ H Q I q => z.run pins s σ H Q I ⟨_, rfl, q⟩⟩
  · cases h
theorem cst_ok {d : D} {e : Expr} (h : cstC d e = true) : ∀ en, PEd X xc en Wi e (M.ret (.dat d)) := by
  intro en
  unfold cstC at h
  split at h
  · cases of_decide_eq_true h
    exact d_atom pe_int fun _ _ => .int _
  · cases of_decide_eq_true h
    exact d_atom pe_bl fun _ _ => .bl _
  · cases of_decide_eq_true h
    exact d_atom pe_str fun _ _ => .str _
  · exact d_atom pe_non fun _ _ => .non
  · cases h
theorem atom_eq {d d' : D} (h : eqAtom d d' = true) : d = d' := by
  unfold eqAtom at h
  split at h <;> first | rfl | (cases of_decide_eq_true h; rfl) | cases h
theorem kw_map {pos : Pos} {env : Env} : ∀ {kws : List Keyword}, (backToKw pos (keywordEach kws env)).map (·.1) = kws.map (·.arg)
  | [] => rfl
  | ⟨n, e, p⟩ :: kws => by
    have := kw_map (pos := pos) (env := env) (kws := kws)
    show n :: (backToKw pos (keywordEach kws env)).map (·.1) = n :: kws.map (·.arg)
    rw [this]
theorem kw_all {α : Type} {l : List (Option Str × α)} {ps : List Str} (h : l.map (·.1) = ps.map some) : l.all (·.1.isSome) = true ∧ l.filterMap (·.1) = ps ∧ l.any (·.1.isNone) = false := by
  induction l generalizing ps with
  | nil =>
    cases ps with
    | nil => exact ⟨rfl, rfl, rfl⟩
    | cons _ _ => cases h
  | cons a l ih =>
    cases ps with
    | nil => cases h
    | cons p ps =>
      obtain ⟨n, y⟩ := a
      rw [List.map_cons, List.map_cons] at h
      obtain ⟨h1, h2⟩ := List.cons.inj h
      have h1 : n = some p := h1
      subst h1
      obtain ⟨a, b, c⟩ := ih h2
      refine ⟨?_, ?_, ?_⟩
      · rw [List.all_cons, a]; rfl
      · rw [List.filterMap_cons]; simp [b]
      · rw [List.any_cons, c]; rfl
theorem tand_ret {t : M Bool} : tAnd' t (M.ret true) = t := by
  funext s
  unfold tAnd' M.bind
  cases t s with
  | ok a s' => cases a <;> rfl
  | exc _ _ _ => rfl
  | bad => rfl
theorem PTs.imp {es : List Expr} {t t' : TT} (h : PTs X es t) (q : ∀ σ H Q, t' σ H Q → t σ H Q) : PTs X es t' := ⟨fun pins s σ H Q I z => h.run pins s σ H Q I (q σ H Q z)⟩
theorem any_ts {es : List Expr} {c : M Bool} (h : ∀ en, PTs X es (TT' X.K xc en (fun _ _ _ => False) c)) : PTs X es (tAny X.K xc c) := ⟨fun pins s σ H Q I ⟨en, z⟩ => (h en).run pins s σ H Q I z⟩
theorem own_ix {N : List Str} {vs : List Nat} : (own N vs).map (·.2) = vs := by
  unfold own
  rw [List.map_map]
  exact List.map_id' vs
theorem isNil_eq {e : E} (h : isNil e = true) : e = .nil := by
  cases e <;> first | rfl | cases h
end
end Ded
end

section
set_option Elab.async false
set_option linter.all false
set_option maxRecDepth 100000
/-! Every expression. -/
namespace Ded
open PySem L2
variable [TabName]
section
variable {c : Ctl} {k : Nat} {cd : Nat → List Val → List D → R Val} {xc : Xc} {X : Cx} {Wi : XK} {d : Den} {m : M Val} {x : Str} {i : Nat}
theorem all_star {x : Expr} {xs : List Expr} (h : ((x :: xs).all fun e => !isStar e) = true) : isStar x = false ∧ (xs.all fun e => !isStar e) = true := by
  rw [List.all_cons] at h
  obtain ⟨a, b⟩ := and2 h
  exact ⟨notF a, b⟩
/-- ranges, of any arguments -/
theorem w_rng1 {en : Entry xc.T} {tg e : Expr} {p pos : Pos} {l : M (List Val)} (hg : Gl X "range") (hm : X.mg "range" = none) (ha : PA X [e] (TL X.K xc en Wi (ROp X.K) l)) (hn : nLen l 1) (hs : isStar e = false) : PId X xc en Wi tg (.Call (.Name "range" p) [e] [] pos) (wRange l) := by
  refine PI.imp (pi_range1 hg hm ha (star_cons hs)) fun σ H R h => TL.imp (TL.len hn (rng_core h)) fun vs H1 ⟨hl, q⟩ => ?_
  rcases q with q | ⟨i, j, rfl, _⟩
  · exact q
  · cases hl
theorem w_rng2 {en : Entry xc.T} {tg e e2 : Expr} {p pos : Pos} {l : M (List Val)} (hg : Gl X "range") (hm : X.mg "range" = none) (ha : PA X [e, e2] (TL X.K xc en Wi (ROp X.K) l)) (hn : nLen l 2) (hs : isStar e = false) (hs2 : isStar e2 = false) : PId X xc en Wi tg (.Call (.Name "range" p) [e, e2] [] pos) (wRange l) := by
  refine PI.imp (pi_range2 hg hm ha (by rw [star_cons hs, star_cons hs2]; rfl) (star_cons hs2)) fun σ H R h => TL.imp (TL.len hn (rng_core h)) fun vs H1 ⟨hl, q⟩ => ?_
  rcases q with ⟨j, rfl, _⟩ | q
  · cases hl
  · exact q
theorem snd : ∀ (e : E) {c : Ctl} {X : Cx} {Wi : XK}, Good c k cd xc X Wi → Snd xc X Wi (ck e c) (den cd e) := by
  intro e
  induction e with
  | var i =>
    intro c X Wi G
    refine { Snd.ex (xc := xc) (X := X) (Wi := Wi) (m := mVar i) (v := fun e => match e with
      | .Name x _ => c.var i x
      | _ => false) (fun x h en => ?_) with g := fun x ts h en => ?_ }
    · skip
      split at h
      · obtain ⟨a, b, c', d⟩ := G.var h
        exact d_var a b c' d
      · cases h
    · replace h : (match (generalizing := false) x with
        | .Name x _ => if (decide (c.N[i]? = some x) && c.loc x) = true then some [i] else none
        | _ => none) = some ts := h
      split at h
      · split at h
        · rename_i q
          cases h
          obtain ⟨q1, q2⟩ := and2 q
          obtain ⟨l1, l2⟩ := G.loc q2
          exact g_name G.nd (by rw [G.N]; exact of_decide_eq_true q1) l1 l2
        · cases h
      · cases h
  | lend i =>
    intro c X Wi G
    refine { (Snd.no : Snd xc X Wi {} _) with av := fun x h en => ?_ }
    replace h : (match (generalizing := false) x with
      | .Name x _ => c.var i x
      | _ => false) = true := h
    split at h
    · obtain ⟨a, b, c', d⟩ := G.var h
      exact a_lend a b c' d
    · cases h
  | borw i =>
    intro c X Wi G
    refine { (Snd.no : Snd xc X Wi {} _) with av := fun x h en => ?_ }
    replace h : (match (generalizing := false) x with
      | .Name x _ => c.var i x
      | _ => false) = true := h
    split at h
    · obtain ⟨a, b, c', d⟩ := G.var h
      exact a_borw a b c' d
    · cases h
  | cst d =>
    intro c X Wi G
    exact Snd.ex fun x h en => cst_ok h en
  | glb y d =>
    intro c X Wi G
    refine Snd.ex fun x h en => ?_
    split at h
    · obtain ⟨h, h4⟩ := and2 h
      obtain ⟨h, h3⟩ := and2 h
      obtain ⟨h1, h2⟩ := and2 h
      obtain ⟨p, hp, hq⟩ := List.any_eq_true.mp h4
      obtain ⟨q1, q2⟩ := and2 hq
      obtain ⟨v, u, e1, r, e2⟩ := G.cs p hp
      have e3 := of_decide_eq_true q1
      have e4 := atom_eq q2
      subst e4
      rw [e3] at e1
      exact d_atom (pe_glob (G.gl h2) e1 r (name_ok h3).1) e2
    · cases h
  | bin o a b iha ihb =>
    intro c X Wi G
    refine Snd.ex fun x h en => ?_
    split at h
    · obtain ⟨h, h3⟩ := and2 h
      obtain ⟨h1, h2⟩ := and2 h
      have e := of_decide_eq_true h1
      subst e
      exact d_bin ((iha G).v _ h2 en) ((ihb G).v _ h3 en)
    · cases h
  | neg a iha =>
    intro c X Wi G
    refine Snd.ex fun x h en => ?_
    split at h
    · exact d_neg ((iha G).v _ h en)
    · cases h
  | cmp o a b iha ihb =>
    intro c X Wi G
    refine Snd.cm (fun x h en => ?_) (fun x h en => ?_)
    · skip
      split at h
      · obtain ⟨h, h4⟩ := and2 h
        obtain ⟨h, h3⟩ := and2 h
        obtain ⟨h1, h2⟩ := and2 h
        have e := of_decide_eq_true h1
        subst e
        exact d_cmp G.units ((iha G).v _ h2 en) ((ihb G).v _ h3 en) (marks_not (notF h4))
      · cases h
    · skip
      split at h
      · obtain ⟨h, h4⟩ := and2 h
        obtain ⟨h, h3⟩ := and2 h
        obtain ⟨h1, h2⟩ := and2 h
        have e := of_decide_eq_true h1
        subst e
        exact d_tcmp G.units ((iha G).v _ h2 en) ((ihb G).v _ h3 en) (marks_not (notF h4))
      · cases h
  | chn o o' a b l iha ihb ihl =>
    intro c X Wi G
    refine Snd.cm (fun x h en => ?_) (fun x h en => ?_)
    · skip
      split at h
      · obtain ⟨h, h6⟩ := and2 h
        obtain ⟨h, h5⟩ := and2 h
        obtain ⟨h, h4⟩ := and2 h
        obtain ⟨h, h3⟩ := and2 h
        obtain ⟨h1, h2⟩ := and2 h
        have e := of_decide_eq_true h1
        have e' := of_decide_eq_true h2
        subst e e'
        exact d_chn G.units ((iha G).v _ h3 en) ((ihb G).v _ h4 en) ((ihl G).v _ h5 en) (last_not (notF h6))
      · cases h
    · skip
      split at h
      · obtain ⟨h, h6⟩ := and2 h
        obtain ⟨h, h5⟩ := and2 h
        obtain ⟨h, h4⟩ := and2 h
        obtain ⟨h, h3⟩ := and2 h
        obtain ⟨h1, h2⟩ := and2 h
        have e := of_decide_eq_true h1
        have e' := of_decide_eq_true h2
        subst e e'
        exact d_tchn G.units ((iha G).v _ h3 en) ((ihb G).v _ h4 en) ((ihl G).v _ h5 en) (last_not (notF h6))
      · cases h
  | and a b iha ihb =>
    intro c X Wi G
    have an : ∀ (xs : List Expr), (match xs with
        | x :: y :: r => (ck a c).v x && (ck b c).an (y :: r)
        | _ => false) = true → ∀ en p, PEd X xc en Wi (.BoolOp .And xs p) (mAnd (den cd a).v (den cd b).v) := fun xs h en p => by
      split at h
      · obtain ⟨h1, h2⟩ := and2 h
        exact d_and ((iha G).v _ h1 en) ((ihb G).an _ h2 en p)
      · cases h
    have atn : ∀ (xs : List Expr), (match xs with
        | x :: y :: r => (ck a c).t x && (ck b c).atn (y :: r)
        | _ => false) = true → ∀ en p, PW X (.BoolOp .And xs p) (TT' X.K xc en Wi (tAnd' (den cd a).t (den cd b).t)) := fun xs h en p => by
      split at h
      · obtain ⟨h1, h2⟩ := and2 h
        exact d_tand ((iha G).t _ h1 en) ((ihb G).atn _ h2 en p)
      · cases h
    have v : ∀ x : Expr, (match x with
        | .BoolOp .And xs _ => (match xs with
          | x :: y :: r => (ck a c).v x && (ck b c).an (y :: r)
          | _ => false)
        | _ => false) = true → ∀ en, PEd X xc en Wi x (mAnd (den cd a).v (den cd b).v) := fun x h en => by
      split at h
      · exact an _ h en _
      · cases h
    have t : ∀ x : Expr, (match x with
        | .BoolOp .And xs _ => (match xs with
          | x :: y :: r => (ck a c).t x && (ck b c).atn (y :: r)
          | _ => false)
        | _ => false) = true → ∀ en, PTd X xc en Wi x (tAnd' (den cd a).t (den cd b).t) := fun x h en => by
      split at h
      · exact (atn _ h en _).pt
      · cases h
    exact { (Snd.no : Snd xc X Wi {} (den cd (.and a b))) with
      v := v
      t := t
      an := an
      atn := atn
      otn := fun xs q en p => by obtain ⟨x, rfl, q⟩ := one_eq q; exact d_or1 (t x q en)
      on := fun xs q en p => by obtain ⟨x, rfl, q⟩ := one_eq q; exact d_one (v x q en)
      av := fun x q en => d_arg (v x q en) }
  | or a b iha ihb =>
    intro c X Wi G
    have on : ∀ (xs : List Expr), (match xs with
        | x :: y :: r => (ck a c).v x && (ck b c).on (y :: r)
        | _ => false) = true → ∀ en p, PEd X xc en Wi (.BoolOp .Or xs p) (mOr (den cd a).v (den cd b).v) := fun xs h en p => by
      split at h
      · obtain ⟨h1, h2⟩ := and2 h
        exact d_or ((iha G).v _ h1 en) ((ihb G).on _ h2 en p)
      · cases h
    have otn : ∀ (xs : List Expr), (match xs with
        | x :: y :: r => (ck a c).t x && (ck b c).otn (y :: r)
        | _ => false) = true → ∀ en p, PW X (.BoolOp .Or xs p) (TT' X.K xc en Wi (tOr' (den cd a).t (den cd b).t)) := fun xs h en p => by
      split at h
      · obtain ⟨h1, h2⟩ := and2 h
        exact d_tor ((iha G).t _ h1 en) ((ihb G).otn _ h2 en p)
      · cases h
    have v : ∀ x : Expr, (match x with
        | .BoolOp .Or xs _ => (match xs with
          | x :: y :: r => (ck a c).v x && (ck b c).on (y :: r)
          | _ => false)
        | _ => false) = true → ∀ en, PEd X xc en Wi x (mOr (den cd a).v (den cd b).v) := fun x h en => by
      split at h
      · exact on _ h en _
      · cases h
    have t : ∀ x : Expr, (match x with
        | .BoolOp .Or xs _ => (match xs with
          | x :: y :: r => (ck a c).t x && (ck b c).otn (y :: r)
          | _ => false)
        | _ => false) = true → ∀ en, PTd X xc en Wi x (tOr' (den cd a).t (den cd b).t) := fun x h en => by
      split at h
      · exact (otn _ h en _).pt
      · cases h
    exact { (Snd.no : Snd xc X Wi {} (den cd (.or a b))) with
      v := v
      t := t
      on := on
      otn := otn
      atn := fun xs q en p => by obtain ⟨x, rfl, q⟩ := one_eq q; exact d_and1 (t x q en)
      an := fun xs q en p => by obtain ⟨x, rfl, q⟩ := one_eq q; exact d_one (v x q en)
      av := fun x q en => d_arg (v x q en) }
  | not a iha =>
    intro c X Wi G
    have t : ∀ x : Expr, (match x with
        | .UnaryOp .Not x _ => (ck a c).t x
        | _ => false) = true → ∀ en, PTd X xc en Wi x (tNot' (den cd a).t) := fun x h en => by
      split at h
      · exact d_tnot ((iha G).t _ h en)
      · cases h
    have v : ∀ x : Expr, (match x with
        | .UnaryOp .Not x _ => (ck a c).v x
        | _ => false) = true → ∀ en, PEd X xc en Wi x (mNot (den cd a).v) := fun x h en => by
      split at h
      · exact d_not ((iha G).v _ h en)
      · cases h
    have base := Snd.ex v
    exact { (Snd.no : Snd xc X Wi {} (den cd (.not a))) with
      v := v
      t := t
      an := base.an
      on := base.on
      atn := fun xs q en p => by obtain ⟨x, rfl, q⟩ := one_eq q; exact d_and1 (t x q en)
      otn := fun xs q en p => by obtain ⟨x, rfl, q⟩ := one_eq q; exact d_or1 (t x q en)
      av := base.av
      o := base.o
      w := base.w }
  | ite t a b iht iha ihb =>
    intro c X Wi G
    refine Snd.ex fun x h en => ?_
    split at h
    · obtain ⟨h, h3⟩ := and2 h
      obtain ⟨h1, h2⟩ := and2 h
      exact d_ite ((iht G).t _ h1 en) ((iha G).v _ h2 en) ((ihb G).v _ h3 en)
    · cases h
  | tup es ih =>
    intro c X Wi G
    refine { Snd.ex (xc := xc) (X := X) (Wi := Wi) (m := mTup (den cd es).l) (v := fun e => match e with
      | .Tuple xs _ _ => (ck es c).l xs
      | _ => false) (fun x h en => ?_) with g := fun x ts h en => ?_ }
    · skip
      split at h
      · exact d_tup ((ih G).l _ h en)
      · cases h
    · replace h : (match (generalizing := false) x with
        | .Tuple xs _ _ => (ck es c).gs xs
        | _ => none) = some ts := h
      split at h
      · exact g_tup G.calm ((ih G).gs _ _ h en)
      · cases h
  | lst es ih =>
    intro c X Wi G
    refine Snd.ex fun x h en => ?_
    split at h
    · exact d_lst ((ih G).l _ h en)
    · cases h
  | dct kvs ih =>
    intro c X Wi G
    refine Snd.ex fun x h en => ?_
    split at h
    · cases kvs <;> first | (cases h; done) | exact d_dct0
    · obtain ⟨h, h3⟩ := and2 h
      obtain ⟨h1, h2⟩ := and2 h
      exact d_dct ((ih G).dk _ _ h1 en _) (fun e => by rw [e] at h2; cases h2) (of_decide_eq_true h3)
    · cases h
  | nil =>
    intro c X Wi G
    have emp : ∀ {α : Type} {xs : List α}, xs.isEmpty = true → xs = [] := fun {α xs} h => by
      cases xs with
      | nil => rfl
      | cons _ _ => cases h
    exact { (Snd.no : Snd xc X Wi {} (den cd .nil)) with
      l := fun xs h en => by cases emp h; exact l_nil
      p := fun xs h en => by cases emp h; exact l_nil
      pn := fun xs h => by cases emp h; exact .nil
      ps := fun xs h => by cases emp h; rfl
      a := fun xs h en => by cases emp h; exact l_nil
      as := fun xs h => by cases emp h; rfl
      kw := fun xs h en => by cases emp h; exact kw_nil
      kn := fun xs h => by cases emp h; exact .nil
      dk := fun ks vs h en pos => by
        obtain ⟨h1, h2⟩ := and2 h
        cases emp h1; cases emp h2; exact kv_nil
      o := fun x h en => by
        cases x with
        | none => exact d_onone (σ := [])
        | some _ => cases h
      c := fun xs h en => by
        cases emp h
        exact PTs.imp pts_nil fun σ H Q ⟨F, ex, s, r, f, q⟩ => q F ex H r .refl
      gs := fun xs ts h en => by
        replace h : (if xs.isEmpty = true then some [] else none) = some ts := h
        split at h
        · rename_i q
          cases emp q; cases h
          exact gs_nil
        · cases h }
  | cons a r iha ihr =>
    intro c X Wi G
    exact { (Snd.no : Snd xc X Wi {} (den cd (.cons a r))) with
      l := fun xs h en => by
        cases xs with
        | nil => cases h
        | cons x xs =>
          obtain ⟨h, h3⟩ := and2 h
          obtain ⟨h1, h2⟩ := and2 h
          exact l_cons st_fz (d_frz ((iha G).v _ h1 en)) ((ihr G).l _ h3 en) (star_cons (notF h2))
      p := fun xs h en => by
        cases xs with
        | nil => cases h
        | cons x xs =>
          obtain ⟨h, h3⟩ := and2 h
          obtain ⟨h1, h2⟩ := and2 h
          exact l_cons st_op (d_opd ((iha G).v _ h1 en)) ((ihr G).p _ h3 en) (star_cons (notF h2))
      pn := fun xs h => by
        cases xs with
        | nil => cases h
        | cons x xs =>
          obtain ⟨h, h3⟩ := and2 h
          exact .cons ((ihr G).pn _ h3)
      ps := fun xs h => by
        cases xs with
        | nil => cases h
        | cons x xs =>
          obtain ⟨h, h3⟩ := and2 h
          obtain ⟨h1, h2⟩ := and2 h
          rw [List.all_cons, h2, (ihr G).ps _ h3]; rfl
      a := fun xs h en => by
        cases xs with
        | nil => cases h
        | cons x xs =>
          obtain ⟨h, h3⟩ := and2 h
          obtain ⟨h1, h2⟩ := and2 h
          exact l_cons st_ar ((iha G).av _ h1 en) ((ihr G).a _ h3 en) (star_cons (notF h2))
      as := fun xs h => by
        cases xs with
        | nil => cases h
        | cons x xs =>
          obtain ⟨h, h3⟩ := and2 h
          obtain ⟨h1, h2⟩ := and2 h
          rw [List.all_cons, h2, (ihr G).as _ h3]; rfl
      kw := fun xs h en => by
        replace h : (match (generalizing := false) xs with
          | ⟨some _, x, _⟩ :: xs => (ck a c).av x && (ck r c).kw xs
          | _ => false) = true := h
        split at h
        · obtain ⟨h1, h2⟩ := and2 h
          exact kw_cons st_ar ((iha G).av _ h1 en) ((ihr G).kw _ h2 en)
        · cases h
      kn := fun xs h => by
        replace h : (match (generalizing := false) xs with
          | ⟨some _, x, _⟩ :: xs => (ck a c).av x && (ck r c).kw xs
          | _ => false) = true := h
        split at h
        · obtain ⟨h1, h2⟩ := and2 h
          exact .cons ((ihr G).kn _ h2)
        · cases h
      c := fun xs h en => by
        replace h : (match (generalizing := false) xs with
          | [x] => (ck a c).t x && isNil r
          | _ => false) = true := h
        split at h
        · obtain ⟨h1, h2⟩ := and2 h
          cases isNil_eq h2
          refine PTs.imp (pts_one ((iha G).t _ h1 en)) fun σ H Q q => ?_
          have q : TT' X.K xc en Wi (tAnd' (den cd a).t (M.ret true)) σ H Q := q
          rw [tand_ret] at q
          exact q
        · cases h
      gs := fun xs ts h en => by
        replace h : (match (generalizing := false) xs with
          | x :: xs => match (ck a c).g x, (ck r c).gs xs with
            | some ts, some us => some (ts ++ us)
            | _, _ => none
          | [] => none) = some ts := h
        split at h
        · split at h
          · rename_i e1 e2
            cases h
            exact gs_cons ((iha G).g _ _ e1 en) ((ihr G).gs _ _ e2 en)
          · cases h
        · cases h }
  | star a r iha ihr =>
    intro c X Wi G
    exact { (Snd.no : Snd xc X Wi {} (den cd (.star a r))) with
      l := fun xs h en => by
        replace h : (match (generalizing := false) xs with
          | .Starred x _ :: xs => (ck a c).v x && (ck r c).l xs
          | _ => false) = true := h
        split at h
        · obtain ⟨h1, h2⟩ := and2 h
          exact l_star G.calm ((iha G).v _ h1 en) ((ihr G).l _ h2 en)
        · cases h }
  | kv a b r iha ihb ihr =>
    intro c X Wi G
    refine { (Snd.no : Snd xc X Wi {} (den cd (.kv a b r))) with dk := fun ks vs h en pos => ?_ }
    replace h : (match (generalizing := false) ks, vs with
      | some x :: ks, y :: vs => (ck a c).v x && (ck b c).v y && (ck r c).k ks vs
      | _, _ => false) = true := h
    split at h
    · obtain ⟨h, h3⟩ := and2 h
      obtain ⟨h1, h2⟩ := and2 h
      exact kv_cons ((iha G).v _ h1 en) ((ihb G).v _ h2 en) ((ihr G).dk _ _ h3 en pos)
    · cases h
  | idx a b iha ihb =>
    intro c X Wi G
    refine Snd.ex fun x h en => ?_
    split at h
    · obtain ⟨h, h3⟩ := and2 h
      obtain ⟨h1, h2⟩ := and2 h
      exact d_idx G.units1 ((iha G).v _ h1 en) ((ihb G).v _ h2 en) (plain_ix (notF h3))
    · cases h
  | sli a lo hi iha ihl ihh =>
    intro c X Wi G
    refine Snd.ex fun x h en => ?_
    split at h
    · obtain ⟨h, h3⟩ := and2 h
      obtain ⟨h1, h2⟩ := and2 h
      exact d_sli ((iha G).v _ h1 en) ((ihl G).o _ h2 en) ((ihh G).o _ h3 en)
    · cases h
  | rev a iha =>
    intro c X Wi G
    refine Snd.ex fun x h en => ?_
    split at h
    · exact d_rev ((iha G).v _ h en)
    · cases h
  | sls i lo hi =>
    intro c X Wi G
    refine Snd.ex fun x h en => ?_
    split at h
    · obtain ⟨h, h3⟩ := and2 h
      obtain ⟨h1, h2⟩ := and2 h
      obtain ⟨a, b, c', d⟩ := G.var h1
      exact d_sls a b c' d (oC_ok h2) (oC_ok h3)
    · cases h
  | isi a ts iha =>
    intro c X Wi G
    refine Snd.ex fun x h en => ?_
    split at h
    · obtain ⟨h, h6⟩ := and2 h
      obtain ⟨h, h5⟩ := and2 h
      obtain ⟨h, h4⟩ := and2 h
      obtain ⟨h, h3⟩ := and2 h
      obtain ⟨h1, h2⟩ := and2 h
      have e := of_decide_eq_true h1
      have e' := of_decide_eq_true h5
      subst e e'
      obtain ⟨g1, g2⟩ := G.blt h2
      obtain ⟨g3, g4⟩ := G.blt h6
      exact d_isi ((iha G).v _ h3 en) g1 g2 g3 g4 (star_cons (notF h4))
    · cases h
  | blt f as ih =>
    intro c X Wi G
    refine Snd.ex fun x h en => ?_
    split at h
    · obtain ⟨h, h3⟩ := and2 h
      obtain ⟨h1, h2⟩ := and2 h
      have e := of_decide_eq_true h1
      subst e
      obtain ⟨g1, g2⟩ := G.blt h2
      obtain ⟨s1, s2⟩ := all_star ((ih G).ps _ h3)
      exact d_blt f G.calm G.units G.gd g1 g2 ((ih G).p _ h3 en) (star_cons s1) (star_any s2)
    · cases h
  | call g as ih =>
    intro c X Wi G
    refine Snd.ex fun x h en => ?_
    split at h
    · rename_i eg
      obtain ⟨h, h4⟩ := and2 h
      obtain ⟨h, h3⟩ := and2 h
      obtain ⟨h1, h2⟩ := and2 h
      have e := of_decide_eq_true h1
      subst e
      obtain ⟨f, fd, m1, m2, m3, m4, m6, m5⟩ := G.G _ _ eg
      split at h4
      · cases isNil_eq h4
        exact d_call0 m5 G.room G.gd (G.gl h2) m1 m2 m3 G.pass (G.hn _ _ eg) (name_ok h3).1
      · obtain ⟨s1, s2⟩ := all_star ((ih G).as _ h4)
        exact d_call m5 G.room G.gd (G.gl h2) m1 m2 m3 G.pass (G.hn _ _ eg) ((ih G).a _ h4 en) (name_ok h3).1 (star_cons s1) (star_any s2)
    · cases h
  | said kd a ih =>
    intro c X Wi G
    refine Snd.ex fun x h en => ?_
    split at h
    · obtain ⟨h, h7⟩ := and2 h
      obtain ⟨h, h6⟩ := and2 h
      obtain ⟨h, h5⟩ := and2 h
      obtain ⟨h, h4⟩ := and2 h
      obtain ⟨h, h3⟩ := and2 h
      obtain ⟨h1, h2⟩ := and2 h
      obtain ⟨⟨x', kd'⟩, hm, h2⟩ := List.any_eq_true.mp h2
      obtain ⟨e1, e2⟩ := and2 h2
      have e1 := of_decide_eq_true e1
      have e2 := of_decide_eq_true e2
      dsimp only at e1 e2
      subst e1 e2
      obtain ⟨q, qg, g, pg, bg, sg, dV, kV, doc, pm, cdv, ct, oc, an, od, osl, Ng, exr, m1, m2, m3, m4, m5, m6, m7, m8, m9, m10, m11⟩ := (G.said _ _ hm).ex
      have L := G.lam h1
      obtain ⟨cc, P, l1, l2, l3, l4⟩ := L.ex
      have ls := LamX.lamS_by h6
      rw [← G.sc] at ls
      unfold noPars at h5
      split at h5
      rotate_left
      · cases h5
      exact d_said (k := k) rfl (G.gl h3) m1 m2 m3 m4 m5 m6 m7 m8 (m10 _) l2 l1 l3 l4 L.room ls rfl (fun _ _ _ _ _ => rfl) m11
        (fun A outer s H E f c' hg room en => (ih (G.lamX ls.kind hg room)).v _ h7 en) (name_ok h4).1 (name_ok m9).1 (name_ok m9).2
    · cases h
  | callk g ks as ih =>
    intro c X Wi G
    refine Snd.ex fun x h en => ?_
    split at h
    · rename_i eg
      obtain ⟨h, h5⟩ := and2 h
      obtain ⟨h, h4⟩ := and2 h
      obtain ⟨h, h3⟩ := and2 h
      obtain ⟨h1, h2⟩ := and2 h
      have e := of_decide_eq_true h1
      subst e
      obtain ⟨f, fd, m1, m2, m3, m4, m6, m5⟩ := G.G _ _ eg
      have hk := (kw_map (pos := ‹Pos›) (env := X.env)).trans (of_decide_eq_true h5)
      exact d_callk m5 G.room G.gd (G.gl h2) m1 m2 m4 G.pass (G.hn _ _ eg) ((ih G).kw _ h4 en) (name_ok h3).1 (kw_all (kw_map.trans (of_decide_eq_true h5))).1 (kw_all (kw_map.trans (of_decide_eq_true h5))).2.1 (kw_all (kw_map.trans (of_decide_eq_true h5))).2.2
    · cases h
  | callp g ix as ih =>
    intro c X Wi G
    refine Snd.ex fun x h en => ?_
    split at h
    · rename_i eg
      obtain ⟨h, h5⟩ := and2 h
      obtain ⟨h, h4⟩ := and2 h
      obtain ⟨h, h3⟩ := and2 h
      obtain ⟨h1, h2⟩ := and2 h
      have e := of_decide_eq_true h1
      subst e
      obtain ⟨f, fd, m1, m2, m3, m4, m6, m5⟩ := G.G _ _ eg
      obtain ⟨o, ho, h5⟩ := List.any_eq_true.mp h5
      obtain ⟨h6, h7⟩ := and2 h5
      have e6 := of_decide_eq_true h6
      subst e6
      have hk := kw_all ((kw_map (pos := ‹Pos›) (env := X.env)).trans (of_decide_eq_true h7))
      have hl : nLen (den cd as).a o.2.length := by
        have := (ih G).kn _ h4
        have e := congrArg List.length (of_decide_eq_true h7)
        rw [List.length_map, List.length_map] at e
        rwa [e] at this
      exact d_callp m5 G.room G.gd (G.gl h2) m1 m2 (m6 o ho) G.pass (G.hn _ _ eg) ((ih G).kw _ h4 en) hl (name_ok h3).1 hk.1 hk.2.1 hk.2.2
    · cases h
  | join o a iho iha =>
    intro c X Wi G
    refine Snd.ex fun x h en => ?_
    split at h
    · obtain ⟨h, h6⟩ := and2 h
      obtain ⟨h, h5⟩ := and2 h
      obtain ⟨h, h4⟩ := and2 h
      obtain ⟨h, h3⟩ := and2 h
      obtain ⟨h1, h2⟩ := and2 h
      have e := of_decide_eq_true h1
      subst e
      exact d_join ((iho G).v _ h2 en) ((iha G).v _ h3 en) (notF h4) (notF h5) h6
    · cases h
  | get1 o a iho iha =>
    intro c X Wi G
    refine Snd.ex fun x h en => ?_
    split at h
    · obtain ⟨h, h6⟩ := and2 h
      obtain ⟨h, h5⟩ := and2 h
      obtain ⟨h, h4⟩ := and2 h
      obtain ⟨h, h3⟩ := and2 h
      obtain ⟨h1, h2⟩ := and2 h
      have e := of_decide_eq_true h1
      subst e
      exact d_get1 G.units1 ((iho G).v _ h2 en) ((iha G).v _ h3 en) (notF h4) (notF h5) h6
    · cases h
  | get2 o a b iho iha ihb =>
    intro c X Wi G
    refine Snd.ex fun x h en => ?_
    split at h
    · obtain ⟨h, h8⟩ := and2 h
      obtain ⟨h, h7⟩ := and2 h
      obtain ⟨h, h6⟩ := and2 h
      obtain ⟨h, h5⟩ := and2 h
      obtain ⟨h, h4⟩ := and2 h
      obtain ⟨h, h3⟩ := and2 h
      obtain ⟨h1, h2⟩ := and2 h
      have e := of_decide_eq_true h1
      subst e
      exact d_get2 G.units1 ((iho G).v _ h2 en) ((iha G).v _ h3 en) ((ihb G).v _ h4 en) (notF h5) (notF h6) (notF h7) h8
    · cases h
  | litems a iha =>
    intro c X Wi G
    refine Snd.ex fun x h en => ?_
    split at h
    · obtain ⟨h, h6⟩ := and2 h
      obtain ⟨h, h5⟩ := and2 h
      obtain ⟨h, h4⟩ := and2 h
      obtain ⟨h, h3⟩ := and2 h
      obtain ⟨h1, h2⟩ := and2 h
      have e1 := of_decide_eq_true h1
      have e2 := of_decide_eq_true h2
      subst e1 e2
      obtain ⟨g1, g2⟩ := G.blt h3
      exact d_litems G.calm g1 g2 ((iha G).v _ h4 en) (notF h5) h6
    · cases h
  | sitems a iha =>
    intro c X Wi G
    refine Snd.ex fun x h en => ?_
    split at h
    · obtain ⟨h, h6⟩ := and2 h
      obtain ⟨h, h5⟩ := and2 h
      obtain ⟨h, h4⟩ := and2 h
      obtain ⟨h, h3⟩ := and2 h
      obtain ⟨h1, h2⟩ := and2 h
      have e1 := of_decide_eq_true h1
      have e2 := of_decide_eq_true h2
      subst e1 e2
      obtain ⟨g1, g2⟩ := G.blt h3
      exact d_sitems G.calm g1 g2 ((iha G).v _ h4 en) (notF h5) h6
    · cases h
  | upper a iha =>
    intro c X Wi G
    refine Snd.ex fun x h en => ?_
    split at h
    · obtain ⟨h, h4⟩ := and2 h
      obtain ⟨h, h3⟩ := and2 h
      obtain ⟨h1, h2⟩ := and2 h
      have e1 := of_decide_eq_true h1
      subst e1
      exact d_upper ((iha G).v _ h2 en) (notF h3) h4
    · cases h
  | app i a iha =>
    intro c X Wi G
    refine Snd.ex fun x h en => ?_
    split at h
    · obtain ⟨h, h5⟩ := and2 h
      obtain ⟨h, h4⟩ := and2 h
      obtain ⟨h, h3⟩ := and2 h
      obtain ⟨h1, h2⟩ := and2 h
      have e := of_decide_eq_true h1
      subst e
      obtain ⟨a, b, c', d⟩ := G.var h2
      exact d_app a b c' d ((iha G).v _ h3 en) (notF h4) h5
    · cases h
  | pop0 i =>
    intro c X Wi G
    refine Snd.ex fun x h en => ?_
    split at h
    · obtain ⟨h, h3⟩ := and2 h
      obtain ⟨h1, h2⟩ := and2 h
      have e := of_decide_eq_true h1
      subst e
      obtain ⟨a, b, c', d⟩ := G.var h2
      exact d_pop0 a b c' d h3
    · cases h
  | pop1 i a iha =>
    intro c X Wi G
    refine Snd.ex fun x h en => ?_
    split at h
    · obtain ⟨h, h5⟩ := and2 h
      obtain ⟨h, h4⟩ := and2 h
      obtain ⟨h, h3⟩ := and2 h
      obtain ⟨h1, h2⟩ := and2 h
      have e := of_decide_eq_true h1
      subst e
      obtain ⟨a, b, c', d⟩ := G.var h2
      exact d_pop1 a b c' d ((iha G).v _ h3 en) (notF h4) h5
    · cases h
  | range as ih =>
    intro c X Wi G
    refine { (Snd.no : Snd xc X Wi {} (den cd (.range as))) with w := fun t x h => ?_ }
    replace h : (match (generalizing := false) x with
      | .Call (.Name f _) [x] [] _ => decide (f = "range") && c.blt f && (ck as c).p [x]
      | .Call (.Name f _) [x, y] [] _ => decide (f = "range") && c.blt f && (ck as c).p [x, y]
      | _ => false) = true := h
    split at h
    · obtain ⟨h, h3⟩ := and2 h
      obtain ⟨h1, h2⟩ := and2 h
      have e := of_decide_eq_true h1
      subst e
      obtain ⟨g1, g2⟩ := G.blt h2
      exact ⟨rfl, fun en => w_rng1 g1 g2 ((ih G).p _ h3 en) ((ih G).pn _ h3) (all_star ((ih G).ps _ h3)).1⟩
    · obtain ⟨h, h3⟩ := and2 h
      obtain ⟨h1, h2⟩ := and2 h
      have e := of_decide_eq_true h1
      subst e
      obtain ⟨g1, g2⟩ := G.blt h2
      have z := all_star ((ih G).ps _ h3)
      exact ⟨rfl, fun en => w_rng2 g1 g2 ((ih G).p _ h3 en) ((ih G).pn _ h3) z.1 (all_star z.2).1⟩
    · cases h
  | zip a b iha ihb =>
    intro c X Wi G
    refine { (Snd.no : Snd xc X Wi {} (den cd (.zip a b))) with w := fun t x h => ?_ }
    replace h : (match (generalizing := false) x with
      | .Call (.Name f _) [x, y] [] _ => isTup t && decide (f = "zip") && c.blt f && (ck a c).v x && (ck b c).v y && !isStar x && !isStar y
      | _ => false) = true := h
    split at h
    · obtain ⟨h, h7⟩ := and2 h
      obtain ⟨h, h6⟩ := and2 h
      obtain ⟨h, h5⟩ := and2 h
      obtain ⟨h, h4⟩ := and2 h
      obtain ⟨h, h3⟩ := and2 h
      obtain ⟨h1, h2⟩ := and2 h
      have e := of_decide_eq_true h2
      subst e
      obtain ⟨g1, g2⟩ := G.blt h3
      cases t <;> first | (cases h1; done) | skip
      exact ⟨rfl, fun en => w_zip g1 g2 ((iha G).v _ h4 en) ((ihb G).v _ h5 en) (notF h6) (notF h7)⟩
    · cases h
  | zip3 a b d iha ihb ihd =>
    intro c X Wi G
    refine { (Snd.no : Snd xc X Wi {} (den cd (.zip3 a b d))) with w := fun t x h => ?_ }
    replace h : (match (generalizing := false) x with
      | .Call (.Name f _) [x, y, z] [] _ => isTup t && decide (f = "zip") && c.blt f && (ck a c).v x && (ck b c).v y && (ck d c).v z && !isStar x && !isStar y && !isStar z
      | _ => false) = true := h
    split at h
    · obtain ⟨h, h9⟩ := and2 h
      obtain ⟨h, h8⟩ := and2 h
      obtain ⟨h, h7⟩ := and2 h
      obtain ⟨h, h6⟩ := and2 h
      obtain ⟨h, h5⟩ := and2 h
      obtain ⟨h, h4⟩ := and2 h
      obtain ⟨h, h3⟩ := and2 h
      obtain ⟨h1, h2⟩ := and2 h
      have e := of_decide_eq_true h2
      subst e
      obtain ⟨g1, g2⟩ := G.blt h3
      cases t <;> first | (cases h1; done) | skip
      exact ⟨rfl, fun en => w_zip3 g1 g2 ((iha G).v _ h4 en) ((ihb G).v _ h5 en) ((ihd G).v _ h6 en) (notF h7) (notF h8) (notF h9)⟩
    · cases h
  | enum a iha =>
    intro c X Wi G
    refine { (Snd.no : Snd xc X Wi {} (den cd (.enum a))) with w := fun t x h => ?_ }
    replace h : (match (generalizing := false) x with
      | .Call (.Name f _) [x] [] _ => isTup t && decide (f = "enumerate") && c.blt f && (ck a c).v x && !isStar x
      | _ => false) = true := h
    split at h
    · obtain ⟨h, h5⟩ := and2 h
      obtain ⟨h, h4⟩ := and2 h
      obtain ⟨h, h3⟩ := and2 h
      obtain ⟨h1, h2⟩ := and2 h
      have e := of_decide_eq_true h2
      subst e
      obtain ⟨g1, g2⟩ := G.blt h3
      cases t <;> first | (cases h1; done) | skip
      exact ⟨rfl, fun en => w_enum g1 g2 ((iha G).v _ h4 en) (notF h5)⟩
    · cases h
  | dlc key val tg it ifs vs ihk ihe iht ihi ihf =>
    intro c X Wi G
    have fold : ∀ {i : Expr}, isSet i = false → ∀ x, foldedSetIterable i X.env x = pure x := fun {i} h x => by
      cases i <;> first | rfl | cases h
    have v : ∀ e0 : Expr, (ck (.dlc key val tg it ifs vs) c).sw e0 = true → ∀ en, PEd X xc en Wi e0 (mDlc (den cd key).v (den cd val).v (den cd tg).g (den cd it).w (den cd ifs).c vs) := fun e0 h en => by
      replace h : (match (generalizing := false) e0 with
            | .DictComp x y [⟨t, i, fs, z⟩] scope _ => decide (z = 0) && (ck it c).w t i && blkC c.N c.sc scope (own c.N vs) && (match (ck tg (c.blk scope)).g t with
              | some ts => ts.all fun j => decide (j ∈ vs)
              | none => false) && (ck ifs (c.blk scope)).c fs && (ck key (c.blk scope)).v x && (ck val (c.blk scope)).v y
            | _ => false) = true := h
      split at h
      · obtain ⟨h, h7⟩ := and2 h
        obtain ⟨h, h6⟩ := and2 h
        obtain ⟨h, h5⟩ := and2 h
        obtain ⟨h, h4⟩ := and2 h
        obtain ⟨h, h3⟩ := and2 h
        obtain ⟨h1, h2⟩ := and2 h
        have e := of_decide_eq_true h1
        subst e
        split at h4
        · rename_i ts e
          have ok := blkOk_by h3
          rw [← G.N, ← G.sc] at ok
          have hts : ∀ j ∈ ts, j ∈ (own X.N vs).map (·.2) := fun j hj => by
            rw [own_ix]; exact of_decide_eq_true (List.all_eq_true.mp h4 j hj)
          have z := d_dlc (pos := ‹Pos›) (en := en) (xc := xc) (Wi := Wi) (mk := (den cd key).v) (mv := (den cd val).v) (w := (den cd it).w) (c := (den cd ifs).c) (g := (den cd tg).g) G.calm G.nd (((ihi G).w _ _ h2).2 en) ok hts
            (fun s H C cl fp => any_g fun en => (iht (G.blk ok.kind s H C cl fp)).g _ _ e en)
            (fun s H C cl fp => any_ts fun en => (ihf (G.blk ok.kind s H C cl fp)).c _ h5 en)
            (fun s H C cl fp => any_e fun en => (ihk (G.blk ok.kind s H C cl fp)).v _ h6 en)
            (fun s H C cl fp => any_e fun en => (ihe (G.blk ok.kind s H C cl fp)).v _ h7 en)
            (fold ((ihi G).w _ _ h2).1)
          rw [own_ix] at z
          exact z
        · cases h4
      · cases h
    have base := Snd.ex v
    refine { (Snd.no : Snd xc X Wi {} (den cd (.dlc key val tg it ifs vs))) with
      v := base.v
      t := base.t
      an := base.an
      on := base.on
      atn := base.atn
      otn := base.otn
      av := base.av
      o := base.o
      w := base.w
      sw := fun e0 h en nm p i' spos hN hl hsw => ?_ }
    replace h : (match (generalizing := false) e0 with
      | .DictComp x y [⟨t, i, fs, z⟩] scope _ => decide (z = 0) && (ck it c).w t i && blkC c.N c.sc scope (own c.N vs) && (match (ck tg (c.blk scope)).g t with
        | some ts => ts.all fun j => decide (j ∈ vs)
        | none => false) && (ck ifs (c.blk scope)).c fs && (ck key (c.blk scope)).v x && (ck val (c.blk scope)).v y
      | _ => false) = true := h
    split at h
    · obtain ⟨h, h7⟩ := and2 h
      obtain ⟨h, h6⟩ := and2 h
      obtain ⟨h, h5⟩ := and2 h
      obtain ⟨h, h4⟩ := and2 h
      obtain ⟨h, h3⟩ := and2 h
      obtain ⟨h1, h2⟩ := and2 h
      have e := of_decide_eq_true h1
      subst e
      split at h4
      · rename_i ts e
        have ok := blkOk_by h3
        rw [← G.N, ← G.sc] at ok
        have hts : ∀ j ∈ ts, j ∈ (own X.N vs).map (·.2) := fun j hj => by
          rw [own_ix]; exact of_decide_eq_true (List.all_eq_true.mp h4 j hj)
        have z := k_setDlc (en := en) (xc := xc) (Wi := Wi) (mk := (den cd key).v) (mv := (den cd val).v) (w := (den cd it).w) (c := (den cd ifs).c) (g := (den cd tg).g) G.calm G.nd hN hl hsw (((ihi G).w _ _ h2).2 en) ok hts
          (fun s H C cl fp => any_g fun en => (iht (G.blk ok.kind s H C cl fp)).g _ _ e en)
          (fun s H C cl fp => any_ts fun en => (ihf (G.blk ok.kind s H C cl fp)).c _ h5 en)
          (fun s H C cl fp => any_e fun en => (ihk (G.blk ok.kind s H C cl fp)).v _ h6 en)
          (fun s H C cl fp => any_e fun en => (ihe (G.blk ok.kind s H C cl fp)).v _ h7 en)
          (fold ((ihi G).w _ _ h2).1)
        rw [own_ix] at z
        exact z
      · cases h4
    · cases h
  | dlc2 key val tg it ifs tg1 it1 ifs1 vs vs1 ihk ihe iht ihi ihf iht1 ihi1 ihf1 =>
    intro c X Wi G
    have fold : ∀ {i : Expr} {env : Env}, isSet i = false → ∀ x, foldedSetIterable i env x = pure x := fun {i env} h x => by
      cases i <;> first | rfl | cases h
    have v : ∀ e0 : Expr, (ck (.dlc2 key val tg it ifs tg1 it1 ifs1 vs vs1) c).sw e0 = true → ∀ en, PEd X xc en Wi e0 (mDlc2 (den cd key).v (den cd val).v (den cd tg).g (den cd it).w (den cd ifs).c (den cd tg1).g (den cd it1).w (den cd ifs1).c vs vs1) := fun e0 h en => by
      replace h : (match (generalizing := false) e0 with
            | .DictComp x y [⟨t, i, fs, z⟩, ⟨t1, i1, fs1, z1⟩] scope _ => decide (z = 0 ∧ z1 = 0) && (ck it c).w t i && blkC c.N c.sc scope (own c.N vs) && gIn ((ck tg (c.blk scope)).g t) vs && gIn ((ck tg1 (c.blk scope)).g t1) vs1 && (vs1.all fun j => decide (j ∈ vs)) &&
              (ck ifs (c.blk scope)).c fs && (ck it1 (c.blk scope)).w t1 i1 && (ck ifs1 (c.blk scope)).c fs1 && (ck key (c.blk scope)).v x && (ck val (c.blk scope)).v y
            | _ => false) = true := h
      split at h
      · obtain ⟨h, h11⟩ := and2 h
        obtain ⟨h, h10⟩ := and2 h
        obtain ⟨h, h9⟩ := and2 h
        obtain ⟨h, h8⟩ := and2 h
        obtain ⟨h, h7⟩ := and2 h
        obtain ⟨h, h6⟩ := and2 h
        obtain ⟨h, h5⟩ := and2 h
        obtain ⟨h, h4⟩ := and2 h
        obtain ⟨h, h3⟩ := and2 h
        obtain ⟨h1, h2⟩ := and2 h
        obtain ⟨rfl, rfl⟩ := of_decide_eq_true h1
        obtain ⟨ts, e1, q1⟩ := gIn_is h4
        obtain ⟨ts1, e2, q2⟩ := gIn_is h5
        have ok := blkOk_by h3
        rw [← G.N, ← G.sc] at ok
        have z := d_dlc2 (pos := ‹Pos›) (en := en) (xc := xc) (Wi := Wi) (mk := (den cd key).v) (mv := (den cd val).v) (w := (den cd it).w) (c := (den cd ifs).c) (g := (den cd tg).g) (w1 := (den cd it1).w) (c1 := (den cd ifs1).c) (g1 := (den cd tg1).g) (vs1 := vs1) G.calm G.nd (((ihi G).w _ _ h2).2 en) ok (by rw [own_ix]; exact q1) q2 (by rw [own_ix]; exact fun j hj => of_decide_eq_true (List.all_eq_true.mp h6 j hj))
          (fun s H C cl fp => any_g fun en => (iht (G.blk ok.kind s H C cl fp)).g _ _ e1 en)
          (fun s H C cl fp => any_ts fun en => (ihf (G.blk ok.kind s H C cl fp)).c _ h7 en)
          (fun s H C cl fp => any_i fun en => ((ihi1 (G.blk ok.kind s H C cl fp)).w _ _ h8).2 en)
          (fun s H C cl fp => any_g fun en => (iht1 (G.blk ok.kind s H C cl fp)).g _ _ e2 en)
          (fun s H C cl fp => any_ts fun en => (ihf1 (G.blk ok.kind s H C cl fp)).c _ h9 en)
          (fun s H C cl fp => any_e fun en => (ihk (G.blk ok.kind s H C cl fp)).v _ h10 en)
          (fun s H C cl fp => any_e fun en => (ihe (G.blk ok.kind s H C cl fp)).v _ h11 en)
          (fold ((ihi G).w _ _ h2).1) (fun env => fold (((ihi1 (G.blk ok.kind ({} : Shared) (fun _ => none) 0 [] [])).w _ _ h8).1))
        rw [own_ix] at z
        exact z
      · cases h
    have base := Snd.ex v
    refine { (Snd.no : Snd xc X Wi {} (den cd (.dlc2 key val tg it ifs tg1 it1 ifs1 vs vs1))) with
      v := base.v
      t := base.t
      an := base.an
      on := base.on
      atn := base.atn
      otn := base.otn
      av := base.av
      o := base.o
      w := base.w
      sw := fun e0 h en nm p i' spos hN hl hsw => ?_ }
    replace h : (match (generalizing := false) e0 with
      | .DictComp x y [⟨t, i, fs, z⟩, ⟨t1, i1, fs1, z1⟩] scope _ => decide (z = 0 ∧ z1 = 0) && (ck it c).w t i && blkC c.N c.sc scope (own c.N vs) && gIn ((ck tg (c.blk scope)).g t) vs && gIn ((ck tg1 (c.blk scope)).g t1) vs1 && (vs1.all fun j => decide (j ∈ vs)) &&
        (ck ifs (c.blk scope)).c fs && (ck it1 (c.blk scope)).w t1 i1 && (ck ifs1 (c.blk scope)).c fs1 && (ck key (c.blk scope)).v x && (ck val (c.blk scope)).v y
      | _ => false) = true := h
    split at h
    · obtain ⟨h, h11⟩ := and2 h
      obtain ⟨h, h10⟩ := and2 h
      obtain ⟨h, h9⟩ := and2 h
      obtain ⟨h, h8⟩ := and2 h
      obtain ⟨h, h7⟩ := and2 h
      obtain ⟨h, h6⟩ := and2 h
      obtain ⟨h, h5⟩ := and2 h
      obtain ⟨h, h4⟩ := and2 h
      obtain ⟨h, h3⟩ := and2 h
      obtain ⟨h1, h2⟩ := and2 h
      obtain ⟨rfl, rfl⟩ := of_decide_eq_true h1
      obtain ⟨ts, e1, q1⟩ := gIn_is h4
      obtain ⟨ts1, e2, q2⟩ := gIn_is h5
      have ok := blkOk_by h3
      rw [← G.N, ← G.sc] at ok
      have z := k_setDlc2 (en := en) (xc := xc) (Wi := Wi) (mk := (den cd key).v) (mv := (den cd val).v) (w := (den cd it).w) (c := (den cd ifs).c) (g := (den cd tg).g) (w1 := (den cd it1).w) (c1 := (den cd ifs1).c) (g1 := (den cd tg1).g) (vs1 := vs1) G.calm G.nd hN hl hsw (((ihi G).w _ _ h2).2 en) ok (by rw [own_ix]; exact q1) q2 (by rw [own_ix]; exact fun j hj => of_decide_eq_true (List.all_eq_true.mp h6 j hj))
        (fun s H C cl fp => any_g fun en => (iht (G.blk ok.kind s H C cl fp)).g _ _ e1 en)
        (fun s H C cl fp => any_ts fun en => (ihf (G.blk ok.kind s H C cl fp)).c _ h7 en)
        (fun s H C cl fp => any_i fun en => ((ihi1 (G.blk ok.kind s H C cl fp)).w _ _ h8).2 en)
        (fun s H C cl fp => any_g fun en => (iht1 (G.blk ok.kind s H C cl fp)).g _ _ e2 en)
        (fun s H C cl fp => any_ts fun en => (ihf1 (G.blk ok.kind s H C cl fp)).c _ h9 en)
        (fun s H C cl fp => any_e fun en => (ihk (G.blk ok.kind s H C cl fp)).v _ h10 en)
        (fun s H C cl fp => any_e fun en => (ihe (G.blk ok.kind s H C cl fp)).v _ h11 en)
        (fold ((ihi G).w _ _ h2).1) (fun env => fold (((ihi1 (G.blk ok.kind ({} : Shared) (fun _ => none) 0 [] [])).w _ _ h8).1))
      rw [own_ix] at z
      exact z
    · cases h
  | lc elt tg it ifs vs ihe iht ihi ihf =>
    intro c X Wi G
    have key : ∀ x : Expr, (match x with
        | .ListComp y [⟨t, i, fs, z⟩] scope _ => decide (z = 0) && (ck it c).w t i && blkC c.N c.sc scope (own c.N vs) && (match (ck tg (c.blk scope)).g t with
          | some ts => ts.all fun j => decide (j ∈ vs)
          | none => false) && (ck ifs (c.blk scope)).c fs && (ck elt (c.blk scope)).v y
        | _ => false) = true → ∃ y t i fs scope pos ts, x = .ListComp y [⟨t, i, fs, 0⟩] scope pos ∧ (ck it c).w t i = true ∧ BlkOk X.N X.env.scope scope (own c.N vs) ∧ (ck tg (c.blk scope)).g t = some ts ∧ (∀ j ∈ ts, j ∈ (own c.N vs).map (·.2)) ∧
          (ck ifs (c.blk scope)).c fs = true ∧ (ck elt (c.blk scope)).v y = true := fun x h => by
      split at h
      · obtain ⟨h, h6⟩ := and2 h
        obtain ⟨h, h5⟩ := and2 h
        obtain ⟨h, h4⟩ := and2 h
        obtain ⟨h, h3⟩ := and2 h
        obtain ⟨h1, h2⟩ := and2 h
        have e := of_decide_eq_true h1
        subst e
        split at h4
        · rename_i ts e
          refine ⟨_, _, _, _, _, _, ts, rfl, h2, ?_, e, fun j hj => ?_, h5, h6⟩
          · rw [G.N, G.sc]; exact blkOk_by h3
          · rw [own_ix]; exact of_decide_eq_true (List.all_eq_true.mp h4 j hj)
        · cases h4
      · cases h
    have fold : ∀ {i : Expr}, isSet i = false → ∀ x, foldedSetIterable i X.env x = pure x := fun {i} h x => by
      cases i <;> first | rfl | cases h
    have v : ∀ x : Expr, (match x with
        | .ListComp y [⟨t, i, fs, z⟩] scope _ => decide (z = 0) && (ck it c).w t i && blkC c.N c.sc scope (own c.N vs) && (match (ck tg (c.blk scope)).g t with
          | some ts => ts.all fun j => decide (j ∈ vs)
          | none => false) && (ck ifs (c.blk scope)).c fs && (ck elt (c.blk scope)).v y
        | _ => false) = true → ∀ en, PEd X xc en Wi x (mLc (den cd elt).v (den cd tg).g (den cd it).w (den cd ifs).c vs) := fun x h en => by
      obtain ⟨y, t, i, fs, scope, pos, ts, rfl, h2, ok, e, hts, h5, h6⟩ := key x h
      have z := d_lc (en := en) (xc := xc) (Wi := Wi) (m := (den cd elt).v) (w := (den cd it).w) (c := (den cd ifs).c) (g := (den cd tg).g) (pos := pos) G.calm G.nd (((ihi G).w _ _ h2).2 en) ok hts
        (fun s H C cl fp => any_g fun en => (iht (G.blk ok.kind s H C cl fp)).g _ _ e en)
        (fun s H C cl fp => any_ts fun en => (ihf (G.blk ok.kind s H C cl fp)).c _ h5 en)
        (fun s H C cl fp => any_e fun en => (ihe (G.blk ok.kind s H C cl fp)).v _ h6 en)
        (fold ((ihi G).w _ _ h2).1)
      rw [own_ix] at z
      exact z
    have base := Snd.ex v
    refine { (Snd.no : Snd xc X Wi {} (den cd (.lc elt tg it ifs vs))) with
      v := base.v
      t := base.t
      an := base.an
      on := base.on
      atn := base.atn
      otn := base.otn
      av := base.av
      o := base.o
      w := base.w
      sw := fun x h en nm p i' spos hN hl hsw => ?_ }
    obtain ⟨y, t, i, fs, scope, pos, ts, rfl, h2, ok, e, hts, h5, h6⟩ := key x h
    have z := k_setLc (en := en) (xc := xc) (Wi := Wi) (m := (den cd elt).v) (w := (den cd it).w) (c := (den cd ifs).c) (g := (den cd tg).g) G.calm G.nd hN hl hsw (((ihi G).w _ _ h2).2 en) ok hts
        (fun s H C cl fp => any_g fun en => (iht (G.blk ok.kind s H C cl fp)).g _ _ e en)
        (fun s H C cl fp => any_ts fun en => (ihf (G.blk ok.kind s H C cl fp)).c _ h5 en)
        (fun s H C cl fp => any_e fun en => (ihe (G.blk ok.kind s H C cl fp)).v _ h6 en)
        (fold ((ihi G).w _ _ h2).1)
    rw [own_ix] at z
    exact z
  | lc2 elt tg it ifs tg1 it1 ifs1 vs vs1 ihe iht ihi ihf iht1 ihi1 ihf1 =>
    intro c X Wi G
    have key : ∀ x : Expr, (ck (.lc2 elt tg it ifs tg1 it1 ifs1 vs vs1) c).sw x = true → ∃ y t i fs t1 i1 fs1 scope pos ts ts1, x = .ListComp y [⟨t, i, fs, 0⟩, ⟨t1, i1, fs1, 0⟩] scope pos ∧ (ck it c).w t i = true ∧ BlkOk X.N X.env.scope scope (own c.N vs) ∧ (ck tg (c.blk scope)).g t = some ts ∧ (∀ j ∈ ts, j ∈ (own c.N vs).map (·.2)) ∧
          (ck tg1 (c.blk scope)).g t1 = some ts1 ∧ (∀ j ∈ ts1, j ∈ vs1) ∧ (∀ j ∈ vs1, j ∈ (own c.N vs).map (·.2)) ∧ (ck ifs (c.blk scope)).c fs = true ∧ (ck it1 (c.blk scope)).w t1 i1 = true ∧ (ck ifs1 (c.blk scope)).c fs1 = true ∧ (ck elt (c.blk scope)).v y = true := fun x h => by
      replace h : (match (generalizing := false) x with
        | .ListComp y [⟨t, i, fs, z⟩, ⟨t1, i1, fs1, z1⟩] scope _ => decide (z = 0 ∧ z1 = 0) && (ck it c).w t i && blkC c.N c.sc scope (own c.N vs) && gIn ((ck tg (c.blk scope)).g t) vs && gIn ((ck tg1 (c.blk scope)).g t1) vs1 && (vs1.all fun j => decide (j ∈ vs)) &&
          (ck ifs (c.blk scope)).c fs && (ck it1 (c.blk scope)).w t1 i1 && (ck ifs1 (c.blk scope)).c fs1 && (ck elt (c.blk scope)).v y
        | _ => false) = true := h
      split at h
      · obtain ⟨h, h10⟩ := and2 h
        obtain ⟨h, h9⟩ := and2 h
        obtain ⟨h, h8⟩ := and2 h
        obtain ⟨h, h7⟩ := and2 h
        obtain ⟨h, h6⟩ := and2 h
        obtain ⟨h, h5⟩ := and2 h
        obtain ⟨h, h4⟩ := and2 h
        obtain ⟨h, h3⟩ := and2 h
        obtain ⟨h1, h2⟩ := and2 h
        obtain ⟨rfl, rfl⟩ := of_decide_eq_true h1
        obtain ⟨ts, e1, q1⟩ := gIn_is h4
        obtain ⟨ts1, e2, q2⟩ := gIn_is h5
        exact ⟨_, _, _, _, _, _, _, _, _, ts, ts1, rfl, h2, by rw [G.N, G.sc]; exact blkOk_by h3, e1, by rw [own_ix]; exact q1, e2, q2, by rw [own_ix]; exact fun j hj => of_decide_eq_true (List.all_eq_true.mp h6 j hj), h7, h8, h9, h10⟩
      · cases h
    have fold : ∀ {i : Expr} {env : Env}, isSet i = false → ∀ x, foldedSetIterable i env x = pure x := fun {i env} h x => by
      cases i <;> first | rfl | cases h
    have v : ∀ x : Expr, (ck (.lc2 elt tg it ifs tg1 it1 ifs1 vs vs1) c).sw x = true → ∀ en, PEd X xc en Wi x (mLc2 (den cd elt).v (den cd tg).g (den cd it).w (den cd ifs).c (den cd tg1).g (den cd it1).w (den cd ifs1).c vs vs1) := fun x h en => by
      obtain ⟨y, t, i, fs, t1, i1, fs1, scope, pos, ts, ts1, rfl, h2, ok, e, hts, e1, hts1, hv, h5, h6, h7, h8⟩ := key x h
      have z := d_lc2 (en := en) (xc := xc) (Wi := Wi) (m := (den cd elt).v) (w := (den cd it).w) (c := (den cd ifs).c) (g := (den cd tg).g) (w1 := (den cd it1).w) (c1 := (den cd ifs1).c) (g1 := (den cd tg1).g) (pos := pos) G.calm G.nd (((ihi G).w _ _ h2).2 en) ok hts hts1 hv
        (fun s H C cl fp => any_g fun en => (iht (G.blk ok.kind s H C cl fp)).g _ _ e en)
        (fun s H C cl fp => any_ts fun en => (ihf (G.blk ok.kind s H C cl fp)).c _ h5 en)
        (fun s H C cl fp => any_i fun en => ((ihi1 (G.blk ok.kind s H C cl fp)).w _ _ h6).2 en)
        (fun s H C cl fp => any_g fun en => (iht1 (G.blk ok.kind s H C cl fp)).g _ _ e1 en)
        (fun s H C cl fp => any_ts fun en => (ihf1 (G.blk ok.kind s H C cl fp)).c _ h7 en)
        (fun s H C cl fp => any_e fun en => (ihe (G.blk ok.kind s H C cl fp)).v _ h8 en)
        (fold ((ihi G).w _ _ h2).1) (fun env => fold (((ihi1 (G.blk ok.kind ({} : Shared) (fun _ => none) 0 [] [])).w _ _ h6).1))
      rw [own_ix] at z
      exact z
    have base := Snd.ex v
    refine { (Snd.no : Snd xc X Wi {} (den cd (.lc2 elt tg it ifs tg1 it1 ifs1 vs vs1))) with
      v := base.v
      t := base.t
      an := base.an
      on := base.on
      atn := base.atn
      otn := base.otn
      av := base.av
      o := base.o
      w := base.w
      sw := fun x h en nm p i' spos hN hl hsw => ?_ }
    obtain ⟨y, t, i, fs, t1, i1, fs1, scope, pos, ts, ts1, rfl, h2, ok, e, hts, e1, hts1, hv, h5, h6, h7, h8⟩ := key x h
    have z := k_setLc2 (en := en) (xc := xc) (Wi := Wi) (m := (den cd elt).v) (w := (den cd it).w) (c := (den cd ifs).c) (g := (den cd tg).g) (w1 := (den cd it1).w) (c1 := (den cd ifs1).c) (g1 := (den cd tg1).g) G.calm G.nd hN hl hsw (((ihi G).w _ _ h2).2 en) ok hts hts1 hv
        (fun s H C cl fp => any_g fun en => (iht (G.blk ok.kind s H C cl fp)).g _ _ e en)
        (fun s H C cl fp => any_ts fun en => (ihf (G.blk ok.kind s H C cl fp)).c _ h5 en)
        (fun s H C cl fp => any_i fun en => ((ihi1 (G.blk ok.kind s H C cl fp)).w _ _ h6).2 en)
        (fun s H C cl fp => any_g fun en => (iht1 (G.blk ok.kind s H C cl fp)).g _ _ e1 en)
        (fun s H C cl fp => any_ts fun en => (ihf1 (G.blk ok.kind s H C cl fp)).c _ h7 en)
        (fun s H C cl fp => any_e fun en => (ihe (G.blk ok.kind s H C cl fp)).v _ h8 en)
        (fold ((ihi G).w _ _ h2).1) (fun env => fold (((ihi1 (G.blk ok.kind ({} : Shared) (fun _ => none) 0 [] [])).w _ _ h6).1))
    rw [own_ix] at z
    exact z
end
end Ded
end

section
set_option Elab.async false
set_option linter.all false
set_option maxRecDepth 100000
/-! Every statement. -/
namespace Ded
open PySem L2
variable [TabName]
section
variable {c : Ctl} {k : Nat} {cd : Nat → List Val → List D → R Val} {xc : Xc} {X : Cx} {Wi : XK} {en : Entry xc.T} {L : Nat}
theorem sw_no {y : Expr} (h : isComp y = false) {t : Option Expr} {l : Nat} : swapsWith y t l X.env = pure false := by
  cases y <;> first | rfl | cases h
theorem sw_of {e1 : Expr} {s : Scope} {pos : Pos} {x : Str} {p : Pos} {l : Nat} {b : Bool} (G : Good c k cd xc X Wi) (hp : e1.pos = pos) (shape : swapsWith e1 (some (.Name x p)) l X.env = pure (X.env.blockKind == .function && X.env.kindOf x == some .local && p.line == e1.pos.line && !(s.names.any fun (n, k) => n == x && (k == .local || k == .cell))))
    (h : (isLocal (c.sc.names.lookup x) && (p.line == pos.line) && !(s.names.any fun (n, k) => n == x && (k == .local || k == .cell))) = b) : swapsWith e1 (some (.Name x p)) l X.env = pure b := by
  have hk : X.env.scope.kind = .function := by rw [G.sc]; exact G.kind
  have hb : X.env.blockKind = .function := by unfold Env.blockKind; rw [hk]; rfl
  have e : (X.env.kindOf x == some .local) = isLocal (c.sc.names.lookup x) := by
    show (X.env.scope.names.lookup x == some .local) = _
    rw [G.sc]
    cases c.sc.names.lookup x with
    | none => rfl
    | some o => cases o <;> rfl
  have e2 : (ScopeKind.function == ScopeKind.function) = true := rfl
  rw [shape, hb, e, e2, Bool.true_and, hp, h]
theorem sw_is {y : Expr} {x : Str} {p : Pos} {l : Nat} (G : Good c k cd xc X Wi) (h : swC c x p y = false) : swapsWith y (some (.Name x p)) l X.env = pure false := by
  cases y <;> first | rfl | (cases h; done) | exact sw_of G rfl rfl h
theorem sw_yes {y : Expr} {x : Str} {p : Pos} {l : Nat} (G : Good c k cd xc X Wi) (hl : (∃ e g s q, y = .ListComp e g s q) ∨ ∃ u v g s q, y = .DictComp u v g s q) (h : swC c x p y = true) : swapsWith y (some (.Name x p)) l X.env = pure true := by
  rcases hl with ⟨elt, gs, s, pos, rfl⟩ | ⟨u, v, gs, s, pos, rfl⟩
  · exact sw_of G rfl rfl h
  · exact sw_of G rfl rfl h
theorem sw_lc {e : E} {c : Ctl} {y : Expr} (h : (ck e c).sw y = true) : (∃ a g s q, y = .ListComp a g s q) ∨ ∃ u v g s q, y = .DictComp u v g s q := by
  cases e <;> first | (cases h; done) | skip
  all_goals
    cases y <;> first | exact .inl ⟨_, _, _, _, rfl⟩ | exact .inr ⟨_, _, _, _, _, rfl⟩ | (exact absurd h (by show ¬ (false = true); decide))
theorem fm_short {α β : Type} {f : α → Option β} : ∀ {l : List α}, (l.any fun x => (f x).isNone) = true → (l.filterMap f).length < l.length
  | x :: l, h => by
    rw [List.filterMap_cons, List.length_cons]
    cases e : f x with
    | none => exact Nat.lt_succ_of_le (List.length_filterMap_le f l)
    | some y =>
      rw [List.any_cons, e] at h
      have h : (l.any fun x => (f x).isNone) = true := h
      have := fm_short h
      dsimp only
      rw [List.length_cons]; omega
theorem in_order {tg y : Expr} (G : Good c k cd xc X Wi) (h : inOrder c tg y = true) : swappedStores [tg] y X.env = pure none := by
  cases tg <;> first | (cases h; done) | skip
  rename_i ts kk pp
  cases y <;> first | rfl | skip
  rename_i vs k2 p2
  have h : (ts.any fun x => match x with
    | .Name x _ => !isLocal (c.sc.names.lookup x)
    | _ => true) = true := h
  have e : ∀ l, (ts.filterMap fun x => match x with
            | .Name id pos => if (X.env.kindOf id == some .local && pos.line == l) = true then some id else none
            | _ => none).length < ts.length := fun l => fm_short (by
    rw [List.any_eq_true] at h ⊢
    obtain ⟨x, hx, q⟩ := h
    refine ⟨x, hx, ?_⟩
    cases x <;> first | rfl | skip
    rename_i id pos
    have q : isLocal (c.sc.names.lookup id) = false := notF q
    have e : (X.env.kindOf id == some .local) = false := by
      show (X.env.scope.names.lookup id == some .local) = _
      rw [G.sc]
      cases z : c.sc.names.lookup id with
      | none => rfl
      | some o =>
        rw [z] at q
        cases o <;> first | rfl | cases q
    dsimp only
    rw [e, Bool.false_and]
    rfl)
  unfold swappedStores
  dsimp only
  split
  · rfl
  · split
    · rfl
    · have e' := e ((ts.head?.map (·.pos.line)).getD 0)
      split
      · rfl
      · rename_i q
        exfalso
        apply q
        rw [Bool.or_eq_true]
        exact .inl (by
          simp only [bne_iff_ne, ne_eq]
          intro z
          have e'' := e'
          rw [← z] at e''
          exact Nat.lt_irrefl _ e'')
theorem sole_ok {tg y : Expr} {l : Nat} (h : isTup tg = true) : swapsWithSole [tg] y l X.env = pure false := by
  cases tg <;> first | (cases h; done) | skip
  cases y <;> rfl
theorem sub_ok {a b y : Expr} {p : Pos} {l : Nat} : swapsWith y (some (.Subscript a b p)) l X.env = pure false := by
  cases y <;> rfl
theorem par3_ok {x y z : Str} {px py pz pt p2 : Pos} {kt k2 : Nat} {a b d : Expr} (G : Good c k cd xc X Wi) (hx : isLocal (c.sc.names.lookup x) = true) (hy : isLocal (c.sc.names.lookup y) = true) (hz : isLocal (c.sc.names.lookup z) = true) (ne : x ≠ y ∧ x ≠ z ∧ y ≠ z)
    (ha : isStar a = false) (hb : isStar b = false) (hd : isStar d = false) (hl : (px.line == py.line) = true) (hm : (px.line == pz.line) = true) (h1 : ([a, b, d].all (foldedForSure 8)) = false) (h2 : ([a, b, d].all (constantsAlone 8)) = false) :
    swappedStores [.Tuple [.Name x px, .Name y py, .Name z pz] kt pt] (.Tuple [a, b, d] k2 p2) X.env = pure (some [x, y, z]) := by
  have fn : X.env.blockKind = .function := by
    unfold Env.blockKind
    rw [show X.env.scope.kind = .function by rw [G.sc]; exact G.kind]; rfl
  have kind : ∀ {u : Str}, isLocal (c.sc.names.lookup u) = true → X.env.kindOf u = some .local := fun {u} h => by
    show X.env.scope.names.lookup u = _
    rw [G.sc]; exact local_ok h
  have l1 : py.line = px.line := (eq_of_beq hl).symm
  have l2 : pz.line = px.line := (eq_of_beq hm).symm
  have all3 : ([x, y, z].eraseDups).length = 3 := by
    have q1 : (y == x) = false := beq_eq_false_iff_ne.mpr (Ne.symm ne.1)
    have q2 : (z == x) = false := beq_eq_false_iff_ne.mpr (Ne.symm ne.2.1)
    have q3 : (z == y) = false := beq_eq_false_iff_ne.mpr (Ne.symm ne.2.2)
    simp [List.eraseDups, List.eraseDupsBy, List.eraseDupsBy.loop, q1, q2, q3]
  unfold swappedStores
  dsimp only
  rw [h1, h2, fn]
  split
  · rename_i q; cases q
  · split
    · rename_i q
      exfalso
      rw [List.any_cons, List.any_cons, List.any_cons, List.any_nil, Bool.or_false, Bool.or_eq_true, Bool.or_eq_true] at q
      rcases q with q | q | q
      · cases a <;> first | (cases q; done) | cases ha
      · cases b <;> first | (cases q; done) | cases hb
      · cases d <;> first | (cases q; done) | cases hd
    · simp only [List.filterMap_cons, List.filterMap_nil, kind hx, kind hy, kind hz, List.head?_cons, Option.map_some, Option.getD_some, Expr.pos, l1, l2, beq_self_eq_true, Bool.and_self, if_true, List.length_cons, List.length_nil, all3]
      rfl
theorem par_ok {x y : Str} {px py pt p2 : Pos} {kt k2 : Nat} {a b : Expr} (G : Good c k cd xc X Wi) (hx : isLocal (c.sc.names.lookup x) = true) (hy : isLocal (c.sc.names.lookup y) = true) (hxy : x ≠ y) (ha : isStar a = false) (hb : isStar b = false) (hl : (px.line == py.line) = true)
    (h1 : ([a, b].all (foldedForSure 8)) = false) (h2 : ([a, b].all (constantsAlone 8)) = false) : swappedStores [.Tuple [.Name x px, .Name y py] kt pt] (.Tuple [a, b] k2 p2) X.env = pure (some [x, y]) := by
  have hk : X.env.scope.kind = .function := by rw [G.sc]; exact G.kind
  have hbk : X.env.blockKind = .function := by unfold Env.blockKind; rw [hk]; rfl
  have ex : X.env.kindOf x = some .local := by
    show X.env.scope.names.lookup x = _
    rw [G.sc]; exact local_ok hx
  have ey : X.env.kindOf y = some .local := by
    show X.env.scope.names.lookup y = _
    rw [G.sc]; exact local_ok hy
  have hl' : py.line = px.line := (eq_of_beq hl).symm
  have ed : ([x, y].eraseDups).length = 2 := by
    have : (y == x) = false := beq_eq_false_iff_ne.mpr (Ne.symm hxy)
    simp [List.eraseDups, List.eraseDupsBy, List.eraseDupsBy.loop, this]
  unfold swappedStores
  dsimp only
  rw [h1, h2, hbk]
  split
  · rename_i q; cases q
  · split
    · rename_i q
      exfalso
      rw [List.any_cons, List.any_cons, List.any_nil, Bool.or_false, Bool.or_eq_true] at q
      rcases q with q | q
      · cases a <;> first | (cases q; done) | cases ha
      · cases b <;> first | (cases q; done) | cases hb
    · simp only [List.filterMap_cons, List.filterMap_nil, ex, ey, List.head?_cons, Option.map_some, Option.getD_some, Expr.pos, hl', beq_self_eq_true, Bool.and_self, if_true, List.length_cons, List.length_nil, ed]
      rfl
theorem then_nop (a : M Flow) : thenK a (M.ret .nx) = a := by
  funext s
  unfold thenK M.bind
  cases a s with
  | ok f t => cases f <;> rfl
  | exc _ _ _ => rfl
  | bad => rfl
theorem k_last {st : Stmt} {a : M Flow} (h : PS X st (TS' X.K xc en Wi a)) : PSs X [st] (TS' X.K xc en Wi a) := by
  have z := k_then h (k_nop (X := X) (en := en) (xc := xc) (Wi := Wi))
  rw [then_nop] at z
  exact z
theorem is_lc : ∀ {y : Expr}, isComp y = false → ∀ {x : Str} {p : Pos}, swC c x p y = false := fun {y} h {x p} => by
  cases y <;> first | rfl | cases h
theorem sndS (hM : ∀ a, en.M a → a ∈ en.ex) (hp : PassesOwn (model X.prog X.w) X.A X.env X.xe) (htk : L2N.Takes X fun cls d _ H => Wi cls d H) (hr2 : Room 2 X.A) (G : Good c k cd xc X Wi) : ∀ (b : C) {sts : List Stmt}, ckS b c sts = true → PSs X sts (TS' X.K xc en Wi (run cd L b)) := by
  have fold : ∀ {i : Expr}, isSet i = false → ∀ x, foldedSetIterable i X.env x = pure x := fun {i} h x => by
    cases i <;> first | rfl | cases h
  have loc1 : ∀ {x : Str}, isLocal (c.sc.names.lookup x) = true → X.env.scope.names.lookup x = some .local := fun {x} h => by rw [G.sc]; exact local_ok h
  intro b
  induction b with
  | nop =>
    intro sts h
    unfold ckS at h
    split at h <;> first | (cases h; done) | exact k_nop | contradiction
  | exp e r ih =>
    intro sts h
    unfold ckS at h
    split at h <;> first | (cases h; done) | contradiction | skip
    rename_i heq
    cases heq
    obtain ⟨h, h3⟩ := and2 h
    obtain ⟨h1, h2⟩ := and2 h
    exact k_then (k_exp ((snd e G).v _ h1 en) (sw_no (notF h2))) (ih h3)
  | set i e r ih =>
    intro sts h
    unfold ckS at h
    split at h <;> first | (cases h; done) | contradiction | skip
    rename_i heq
    cases heq
    obtain ⟨h, h3⟩ := and2 h
    obtain ⟨h1, h2⟩ := and2 h
    have hN := of_decide_eq_true h1
    rw [← G.N] at hN
    split at h2
    · rename_i q
      obtain ⟨h4, h5⟩ := and2 h2
      exact k_then ((snd e G).sw _ h5 en _ _ _ _ hN (loc1 h4) (sw_yes G (sw_lc h5) q)) (ih h3)
    · rename_i q
      obtain ⟨h4, h5⟩ := and2 h2
      obtain ⟨l1, l2⟩ := G.loc h4
      exact k_then (k_set G.nd hN l1 l2 ((snd e G).v _ h5 en) (sw_is G (by simpa using q))) (ih h3)
  | asg t e r ih =>
    intro sts h
    unfold ckS at h
    split at h <;> first | (cases h; done) | contradiction | skip
    rename_i heq
    cases heq
    obtain ⟨h, h5⟩ := and2 h
    obtain ⟨h, h4⟩ := and2 h
    obtain ⟨h, h3⟩ := and2 h
    obtain ⟨h1, h2⟩ := and2 h
    obtain ⟨ts, hg⟩ := Option.isSome_iff_exists.mp h4
    refine k_then (k_asg ((snd e G).v _ h3 en) ((snd t G).g _ _ hg en) (sole_ok h1) (in_order G h2)) (ih h5)
  | par i j a b r ih =>
    intro sts h
    unfold ckS at h
    split at h <;> first | (cases h; done) | contradiction | skip
    rename_i heq
    cases heq
    obtain ⟨h, hk⟩ := and2 h
    obtain ⟨h, hd⟩ := and2 h
    obtain ⟨h, hc⟩ := and2 h
    obtain ⟨h, hb⟩ := and2 h
    obtain ⟨h, ha⟩ := and2 h
    obtain ⟨h, h9⟩ := and2 h
    obtain ⟨h, h8⟩ := and2 h
    obtain ⟨h, h7⟩ := and2 h
    obtain ⟨h, h6⟩ := and2 h
    obtain ⟨h, h5⟩ := and2 h
    obtain ⟨h, h4⟩ := and2 h
    obtain ⟨h, h3⟩ := and2 h
    obtain ⟨h1, h2⟩ := and2 h
    have e1 := of_decide_eq_true h1
    have e2 := of_decide_eq_true h2
    rw [← G.N] at e1 e2
    exact k_then (k_par G.calm G.nd e1 e2 (of_decide_eq_true h3) (loc1 h5) (loc1 h6) ((snd a G).v _ h7 en) ((snd b G).v _ h8 en) (notF h9) (notF ha) (par_ok G h5 h6 (of_decide_eq_true h4) (notF h9) (notF ha) hb (notF hc) (notF hd))) (ih hk)
  | par3 i j l a b d r ih =>
    intro sts h
    unfold ckS at h
    split at h <;> first | (cases h; done) | contradiction | skip
    rename_i heq
    cases heq
    obtain ⟨h, hk⟩ := and2 h
    obtain ⟨h, hcons⟩ := and2 h
    obtain ⟨h, hfold⟩ := and2 h
    obtain ⟨h, hline⟩ := and2 h
    obtain ⟨h, hstar⟩ := and2 h
    obtain ⟨h, hval⟩ := and2 h
    obtain ⟨h, hloc⟩ := and2 h
    obtain ⟨h, hname⟩ := and2 h
    obtain ⟨h, hplace⟩ := and2 h
    obtain ⟨h, h3⟩ := and2 h
    obtain ⟨h1, h2⟩ := and2 h
    have e1 := of_decide_eq_true h1
    have e2 := of_decide_eq_true h2
    have e3 := of_decide_eq_true h3
    rw [← G.N] at e1 e2 e3
    obtain ⟨p1, p2, p3⟩ := of_decide_eq_true hplace
    obtain ⟨hloc, lz⟩ := and2 hloc
    obtain ⟨lx, ly⟩ := and2 hloc
    obtain ⟨hval, vd⟩ := and2 hval
    obtain ⟨va, vb⟩ := and2 hval
    obtain ⟨hstar, sd⟩ := and2 hstar
    obtain ⟨sa, sb⟩ := and2 hstar
    obtain ⟨q1, q2⟩ := and2 hline
    exact k_then (k_par3 G.calm G.nd e1 e2 e3 p1 p2 p3 (loc1 lx) (loc1 ly) (loc1 lz) ((snd a G).v _ va en) ((snd b G).v _ vb en) ((snd d G).v _ vd en) (notF sa) (notF sb) (notF sd) (par3_ok G lx ly lz (of_decide_eq_true hname) (notF sa) (notF sb) (notF sd) q1 q2 (notF hfold) (notF hcons))) (ih hk)
  | sti i key v r ih =>
    intro sts h
    unfold ckS at h
    split at h <;> first | (cases h; done) | contradiction | skip
    rename_i heq
    cases heq
    obtain ⟨h, h4⟩ := and2 h
    obtain ⟨h, h3⟩ := and2 h
    obtain ⟨h1, h2⟩ := and2 h
    obtain ⟨a, b, c', d⟩ := G.var h1
    refine k_then (k_sti G.units1 a b c' d ((snd key G).v _ h2 en) ((snd v G).v _ h3 en) sub_ok) (ih h4)
  | ret e =>
    intro sts h
    unfold ckS at h
    split at h <;> first | (cases h; done) | contradiction | skip
    rename_i heq
    cases heq
    exact k_last (k_ret hM ((snd e G).v _ h en))
  | ite t a b r iha ihb ih =>
    intro sts h
    unfold ckS at h
    split at h <;> first | (cases h; done) | contradiction | skip
    rename_i heq
    cases heq
    obtain ⟨h, h4⟩ := and2 h
    obtain ⟨h, h3⟩ := and2 h
    obtain ⟨h1, h2⟩ := and2 h
    exact k_then (k_ite ((snd t G).t _ h1 en) (iha h2) (ihb h3)) (ih h4)
  | for_ t it b r ihb ih =>
    intro sts h
    unfold ckS at h
    split at h <;> first | (cases h; done) | contradiction | skip
    rename_i heq
    cases heq
    obtain ⟨h, h4⟩ := and2 h
    obtain ⟨h, h3⟩ := and2 h
    obtain ⟨h1, h2⟩ := and2 h
    obtain ⟨ts, hg⟩ := Option.isSome_iff_exists.mp h2
    obtain ⟨w1, w2⟩ := (snd it G).w _ _ h1
    exact k_then (k_for hp G.calm (w2 en) ((snd t G).g _ _ hg en) (ihb h3) (fold w1)) (ih h4)
  | whl t b r ihb ih =>
    intro sts h
    unfold ckS at h
    split at h <;> first | (cases h; done) | contradiction | skip
    rename_i heq
    cases heq
    obtain ⟨h, h3⟩ := and2 h
    obtain ⟨h1, h2⟩ := and2 h
    exact k_then (k_whl hp ((snd t G).t _ h1 en) (ihb h2)) (ih h3)
  | rai n as =>
    intro sts h
    unfold ckS at h
    split at h <;> first | (cases h; done) | contradiction | skip
    rename_i heq
    cases heq
    obtain ⟨h, h5⟩ := and2 h
    obtain ⟨h, h4⟩ := and2 h
    obtain ⟨h, h3⟩ := and2 h
    obtain ⟨h1, h2⟩ := and2 h
    obtain ⟨⟨x', n'⟩, hm, h1⟩ := List.any_eq_true.mp h1
    obtain ⟨e1, e2⟩ := and2 h1
    have e1 := of_decide_eq_true e1
    have e2 := of_decide_eq_true e2
    dsimp only at e1 e2
    subst e1 e2
    obtain ⟨s1, s2⟩ := all_star h5
    exact k_last (k_raiC G.calm htk (G.cls _ _ hm) hr2 (G.gl h2) ((snd as G).l _ h4 en) (name_ok h3).1 (star_cons s1) (star_any s2))
end
end Ded
end

section
set_option Elab.async false
set_option linter.all false
set_option maxRecDepth 100000
/-! Every def of a program does what the evaluator says. -/
namespace Ded
open PySem L2
variable [TabName]
/-- who raises, who tells -/
structure XI where
  said : List (Str × Nat) := []
  cls : List (Str × Nat) := []
section
variable {P : Program} {w : World} {K : PySem.W.Frag} {mg : Str → Option Value} {base : Heap} {xc : Xc} {Ds : List Def} {L : Nat} {infos : List GInfo} {noG : List Str} {cs : List (Str × D)} {xi : XI} {tabs : List (Addr × Addr)}
/-- what is known of a def of the text -/
structure Stat (K : PySem.W.Frag) (mg : Str → Option Value) (Ds : List Def) (infos : List GInfo) (noG : List Str) (cs : List (Str × D)) (xi : XI) (tabs : List (Addr × Addr)) (g : Nat) (i : GInfo) (f : Addr) (fd : FuncData) : Prop where
  ex : ∃ (d : Def) (st : Stmt) (qual : Str) (N : List Str) (lam : Bool), Ds[g]? = some d ∧ Fun K i.name qual st f fd ∧ FnScope N i.ps (defScope st) ∧ d.slots = N.length ∧ d.pars = i.ps.length ∧ ckS d.body ⟨N, defScope st, fun _ => true, infos, noG, cs, xi.said, xi.cls, lam⟩ (defBody st) = true ∧
    (lam = true → ∃ cc P, fd.code = .ref cc ∧ (cc, P) ∈ tabs ∧ (P, (qual ++ ".<locals>." : Str) ++ "<lambda>") ∈ TabName.T ∧ ∀ p ∈ TabName.T, p.1 = P → p.2 = (qual ++ ".<locals>." : Str) ++ "<lambda>")
  mg : mg i.name = some (.ref f)
  bd : Binds K fd i.ps []
  kw : ∀ (s : Shared) (us : List Value), K.In s.heap → us.length = i.ps.length → BindsTo s fd ⟨[], i.ps.zip us⟩ (i.ps.zip us)
  ko : ∀ o ∈ i.kos, ∀ (s : Shared) (us : List Value), K.In s.heap → us.length = o.2.length → BindsTo s fd ⟨[], o.2.zip us⟩ (i.ps.zip (rearr o.1 us))
structure ProgOk (xc : Xc) (K : PySem.W.Frag) (mg : Str → Option Value) (Ds : List Def) (infos : List GInfo) (noG : List Str) (cs : List (Str × D)) (xi : XI) (tabs : List (Addr × Addr)) : Prop where
  fns : ∀ g i, infos[g]? = some i → ∃ f fd, Stat K mg Ds infos noG cs xi tabs g i f fd
  noG : ∀ x, x ∈ noG → mg x = none
  cs : ∀ p, p ∈ cs → ∃ v u, mg p.1 = some u ∧ RelV v u ∧ ∀ F H, Rf K F H v p.2
  said : ∀ X : Cx, X.K = K → X.mg = mg → ∀ x kd, (x, kd) ∈ xi.said → SaidOk X xc kd x
  cls : ∀ (P : Program) (w : World) (base : Heap) x n, (x, n) ∈ xi.cls → ClsOk P w K mg base xc x n
theorem call_bad {n g : Nat} {d : Def} {us : List Val} {μ : List D} (e : Ds[g]? = some d) (h : us.length ≠ d.pars) : callD Ds L n g us μ = .bad := by
  cases n with
  | zero => rfl
  | succ n =>
    unfold callD
    rw [e]
    dsimp only
    rw [if_neg h]
theorem all2_get {α : Type} {R : V → α → Prop} : ∀ {xs : List V} {as : List α} {i : Nat} {a : α}, All2 R xs as → as[i]? = some a → ∃ x, xs[i]? = some x ∧ R x a
  | _, _, 0, a, .cons h r, e => by cases e; exact ⟨_, rfl, h⟩
  | _, _, i + 1, a, .cons h r, e => by
    obtain ⟨x, e1, h⟩ := all2_get (i := i) r (by simpa using e)
    exact ⟨x, by simpa using e1, h⟩
  | _, _, _, _, .nil, e => by cases e
/-- where a body starts -/
theorem rel_start {F : Fz} {ex : List Addr} {μ : List D} {H : Hp} {vs : List V} {us : List Val} {N : List Str} (h : Handed K F ex μ H vs us) : Rel K F ex { ρ := us.map some ++ List.replicate (N.length - us.length) none, μ := μ } (L2.start N vs) H := by
  have hl := h.all.length
  have get : ∀ {i : Nat} {v : Val}, (us.map some ++ List.replicate (N.length - us.length) none)[i]? = some (some v) → us[i]? = some v := fun {i v} e => by
    rcases Nat.lt_or_ge i us.length with hi | hi
    · rw [List.getElem?_append_left (by rw [List.length_map]; exact hi), List.getElem?_map] at e
      obtain ⟨a, ha, q⟩ := Option.map_eq_some_iff.mp e
      cases q
      exact ha
    · rw [List.getElem?_append_right (by rw [List.length_map]; exact hi)] at e
      have := List.mem_of_getElem? e
      have := List.eq_of_mem_replicate this
      cases this
  have sget : ∀ {i : Nat} {x : V}, vs[i]? = some x → (L2.start N vs)[i]? = some (some x) := fun {i x} e => by
    unfold L2.start
    rw [List.getElem?_append_left (by rw [List.length_map]; exact (List.getElem?_eq_some_iff.mp e).1), List.getElem?_map, e]
    rfl
  have arg : ∀ {i : Nat} {v : Val}, us[i]? = some v → ∃ x, (L2.start N vs)[i]? = some (some x) ∧ ArgOk K F ex H x v := fun e => let ⟨x, e1, a⟩ := all2_get h.all e; ⟨x, sget e1, a⟩
  have noOwn : ∀ {i : Nat} {d : D}, (us.map some ++ List.replicate (N.length - us.length) none)[i]? = some (some (.own d)) → False := fun e => by
    obtain ⟨x, _, a⟩ := arg (get e)
    exact a
  refine ⟨?_, fun i v e => ?_, fun i j d d' a e => (noOwn e).elim, fun i d a e1 e2 ⟨j, d', e3, _⟩ => (noOwn e3).elim, h.exl, h.exd, h.cel, h.fdom⟩
  · unfold L2.start
    simp [hl]
  · obtain ⟨x, e1, a⟩ := arg (get e)
    refine ⟨x, e1, ?_⟩
    cases v with
    | dat d => exact a
    | ext k => exact a
    | bor d => exact a
    | scr ns => exact a
    | own d => exact a.elim
    | loc i => exact a.elim
theorem prog_ok (H : ProgOk xc K mg Ds infos noG cs xi tabs) (hTB : ∀ p ∈ tabs, LamX.TabB base mg p.1 p.2) : ∀ (n g : Nat) (i : GInfo) (f : Addr) (fd : FuncData), Stat K mg Ds infos noG cs xi tabs g i f fd → FnG P w K mg base (3 * n) f fd i.ps (spD K xc (callD Ds L n g) i.ps.length) := by
  intro n
  induction n with
  | zero =>
    intro g i f fd _
    refine ⟨fun vs H Q E h => h.1, fun A outer s H args us vs Q E _ _ _ _ _ h => ?_⟩
    obtain ⟨_, F, ex, us, μ, _, _, h⟩ := h
    exact h.elim
  | succ n ih =>
    intro g i f fd S
    obtain ⟨d, st, qual, N, lam, e, Fu, Sc, hs, hpars, hck, hlam⟩ := S.ex
    show FnG P w K mg base (3 * n + 2 + 1) f fd i.ps _
    refine FnG.of Fu Sc (fun vs H Q E h => h.1) fun cdv A outer s H0 vs Q E hcode room grd hsp => ?_
    obtain ⟨hl, F, ex, us, μ, hd, htab, hrun⟩ := hsp
    have ulen : us.length = d.pars := by rw [← hd.all.length, hl, hpars]
    have G : Good ⟨N, defScope st, fun _ => true, infos, noG, cs, xi.said, xi.cls, lam⟩ (3 * n) (callD Ds L n) xc (cxOf (L2N.CX P w) P w K mg base N qual (defScope st) f cdv A outer s H0 E) E := {
      calm := rfl
      nd := Sc.nd
      N := rfl
      sc := rfl
      kind := Sc.kind
      fn := rfl
      room := room.mono (by omega)
      gd := grd
      noG := H.noG
      cs := H.cs
      G := fun g i hi => by
        obtain ⟨f, fd, S⟩ := H.fns g i hi
        exact ⟨f, fd, S.mg, (let ⟨d, st, qual, N, _, e, Fu, _⟩ := S.ex; Fu.kp), S.bd, S.kw, S.ko, ih g i f fd S⟩
      hn := fun g i hi us μ h => by
        obtain ⟨f, fd, S⟩ := H.fns g i hi
        obtain ⟨d, st, qual, N, _, e, _, _, _, hp, _⟩ := S.ex
        exact call_bad e (by rw [hp]; exact h)
      pass := L2N.passes_call (W := fun cls d _ H => E cls d H) (L2N.takes_of rfl rfl rfl rfl) fun _ _ _ _ h => h
      said := H.said _ rfl rfl
      lam := fun z => by
        obtain ⟨cc, P', a1, a2, a3, a4⟩ := hlam z
        exact ⟨room, cc, P', hcode.symm.trans a1, hTB _ a2, a3, a4⟩
      cls := H.cls _ _ _ }
    have body := sndS (en := entryOf xc.T F ex H0) (L := L) (fun a z => z) (passes_of rfl) (L2N.takes_of rfl rfl rfl rfl) (room.mono (by omega)) G d.body hck
    refine ⟨_, body, F, ex, { ρ := us.map some ++ List.replicate (N.length - us.length) none, μ := μ }, ⟨F, H0⟩, rel_start hd, ⟨⟨?_, List.prefix_refl _, htab⟩, fun _ z => z, Kp.of fun _ _ _ _ z => z⟩, ?_⟩
    · have rs := rel_start (N := N) hd
      refine ⟨fun _ _ _ z _ => .inl z, fun _ o z => ⟨o, z⟩, fun _ z => z, fun _ z => .inl z, fun a z => .inl ?_, fun t => t⟩
      rcases z with z | ⟨j, d', e3, _⟩
      · exact z
      · obtain ⟨x, _, so⟩ := rs.slot j _ e3
        exfalso
        have : us[j]? = some (.own d') := by
          rcases Nat.lt_or_ge j us.length with hi | hi
          · rw [List.getElem?_append_left (by rw [List.length_map]; exact hi), List.getElem?_map] at e3
            obtain ⟨a, ha, q⟩ := Option.map_eq_some_iff.mp e3
            cases q
            exact ha
          · rw [List.getElem?_append_right (by rw [List.length_map]; exact hi)] at e3
            have := List.eq_of_mem_replicate (List.mem_of_getElem? e3)
            cases this
        obtain ⟨x, _, a⟩ := all2_get hd.all this
        exact a
    · unfold callD at hrun
      rw [e] at hrun
      dsimp only at hrun
      rw [if_pos ulen, hs] at hrun
      cases er : run (callD Ds L n) L d.body { ρ := us.map some ++ List.replicate (N.length - us.length) none, μ := μ } with
      | ok fl t =>
        rw [er] at hrun
        cases fl with
        | nx => exact fun σ' F' ex' H' r f => hrun V.non F' ex' H' (xrel_of (s := t) r f.fr) .non
        | rt v => exact fun F' ex' H' x r rv => hrun x F' ex' H' r rv
        | bk => exact hrun.elim
        | ct => exact hrun.elim
      | exc c fs t =>
        rw [er] at hrun
        exact fun F' ex' H' cls od r x => hrun F' ex' H' cls od r x
      | bad => rw [er] at hrun; exact hrun.elim
end
end Ded
end

section
set_option Elab.async false
set_option linter.all false
set_option maxRecDepth 100000
/-! From the law's call to the evaluator. -/
namespace Ded
open PySem L2
open PySem.Spec PyProof.Rows
section
variable {P : Program} {w : World} {K : PySem.W.Frag} {mg mb : Str → Option Value} {k : Nat} {fa a : Addr} {fd : FuncData} {x : Str} {sp : Sp} {s1 : Shared} {vs : List Value} {ns : List Int}
theorem enter [TabName] {cs : List (Addr × Addr)} (kin : K.In s1.heap) (ng : s1.heap.Ns mainGlobals mg) (nb : s1.heap.Ns builtinsNs mb) (bb : ∀ y : Str, y ≠ "__name__" → mb y = bootBuiltins y) (nl : s1.heap.NoLimit) (gg : s1.gens = #[])
    (hT : ∀ p ∈ cs, s1.heap.get? p.2 = some { cls := .none, data := .fields #[] }) (nT : ∀ p ∈ cs, K.lookup p.2 = none) (C : ∀ p ∈ cs, PySem.W.CodeHd s1.heap p.1 p.2)
    (hbm : ∃ (bm : Addr) (ob : Obj), mg "__builtins__" = some (.ref bm) ∧ bm ≠ builtinsNs ∧ s1.heap.get? bm = some ob ∧ ob.cls = .type "module" ∧ ob.dict = some builtinsNs ∧ ob.data = .plain)
    (ha : s1.heap.get? a = some { cls := .type "list", data := .seq vs.toArray }) (iv : IntsAre vs ns) (len : ns.length ≤ sizeLine) (room : Room k callerA)
    (Fn : ∀ base : Heap, K.In base → base.Ns mainGlobals mg → (∀ p ∈ cs, LamX.TabB base mg p.1 p.2) → FnG P w K mg base k fa fd [x] sp)
    (bd : ∀ u : Value, BindsTo s1 fd ⟨[u], []⟩ [(x, u)]) (hsp : ∀ H : Hp, (∀ p ∈ cs, H p.2 = some (.tbl #[])) → Scr K H a ns → sp [.ref a] H (fun v _ => v = .bl true) fun _ _ _ => False) :
    codeAny (model P w) callerA (.call (.ref fa) ⟨[.ref a], []⟩) (fun r s' => r = .ok (.ret (.bool true)) ∧ OldK s1.heap s'.heap ∧ s'.os = s1.os ∧ AllBare s'.gens) s1 := by
  have script := vals_ints iv
  have many := iv.length
  have bound : (ns.map V.int).length ≤ sizeLine := by rw [List.length_map]; exact len
  let T : List Addr := cs.map (·.2)
  let o0 : Obj := { cls := .type "list", data := .seq vs.toArray }
  -- what is tracked: the tables, and the script if it isn't written down
  let H : Hp := fun b => if b ∈ T then some (.tbl #[]) else if b = a ∧ K.lookup a = none then some (.frz o0 (.lst (ns.map V.int))) else none
  have tabled : ∀ {b : Addr}, b ∈ T → s1.heap.get? b = some { cls := .none, data := .fields #[] } := fun m => let ⟨p, hp, e⟩ := List.mem_map.mp m; e ▸ hT p hp
  have apart : a ∉ T := fun m => by
    have e := ha.symm.trans (tabled m)
    exact nomatch (show Data.seq vs.toArray 0 = Data.fields #[] from congrArg Obj.data (Option.some.inj e))
  have onT : ∀ {b : Addr}, b ∈ T → H b = some (.tbl #[]) := fun m => if_pos m
  have sorts : ∀ {b : Addr} {u : HO}, H b = some u → (b ∈ T ∧ u = .tbl #[]) ∨ b ∉ T ∧ b = a ∧ K.lookup a = none ∧ u = .frz o0 (.lst (ns.map V.int)) := fun {b u} e => by
    by_cases m : b ∈ T
    · exact .inl ⟨m, Option.some.inj ((onT m).symm.trans e).symm⟩
    · have e : (if b = a ∧ K.lookup a = none then some (HO.frz o0 (.lst (ns.map V.int))) else none) = some u := (if_neg m).symm.trans e
      by_cases c : b = a ∧ K.lookup a = none
      · rw [if_pos c] at e
        exact .inr ⟨m, c.1, c.2, (Option.some.inj e).symm⟩
      · rw [if_neg c] at e
        cases e
  have unseen : ∀ {b : Addr} {o : Obj}, s1.heap.get? b = some o → (∀ x k, o.data ≠ .seq x k) → o.data ≠ .fields #[] → (hidT s1.heap H).get? b = some o := fun {b o} e n1 n2 => hidT_get e (by
    cases q : H b with
    | none => rfl
    | some u =>
      exfalso
      rcases sorts q with ⟨m, _⟩ | ⟨_, rfl, _⟩
      · cases (tabled m).symm.trans e; exact n2 rfl
      · cases ha.symm.trans e; exact n1 _ _ rfl)
  have spaces : ∀ {b : Addr} {m : Str → Option Value}, s1.heap.Ns b m → (hidT s1.heap H).Ns b m := fun ⟨o, es, ep, e, d, r⟩ => ⟨o, es, ep, unseen e (fun x k z => nomatch d.symm.trans z) (fun z => nomatch d.symm.trans z), d, r⟩
  have written : K.In (hidT s1.heap H) := fun b o e => hidT_get (kin b o e) (by
    cases q : H b with
    | none => rfl
    | some u =>
      exfalso
      rcases sorts q with ⟨m, _⟩ | ⟨_, rfl, n, _⟩
      · obtain ⟨p, hp, rfl⟩ := List.mem_map.mp m
        exact nomatch (nT p hp).symm.trans e
      · exact nomatch n.symm.trans e)
  have holds : HOk P w H s1.heap := fun b u q => by
    rcases sorts q with ⟨m, rfl⟩ | ⟨_, rfl, _, rfl⟩
    · exact tabled m
    · exact ⟨ha, bound, vs, 0, script, ha⟩
  have atScript : Scr K H a ns := by
    cases n : K.lookup a with
    | none => exact .inl ⟨o0, (if_neg apart).trans (if_pos ⟨rfl, n⟩)⟩
    | some o =>
      cases ha.symm.trans (kin a o n)
      exact .inr (.inr ⟨o0, vs.toArray, 0, n, rfl, rfl, rfl, by rw [List.size_toArray, many]; exact len, by simpa using script⟩)
  have tables : ∀ p ∈ cs, LamX.TabB (hidT s1.heap H) mg p.1 p.2 := fun p hp => by
    obtain ⟨bm, ob, m1, m2, m3, m4, m5, m6⟩ := hbm
    obtain ⟨oc, us, f1, f2, f3, f4, f5, f6, f7, c1, c2, c3, c4, rest⟩ := C p hp
    have gl : ∀ {q : Addr} {o : Obj}, s1.heap.get? q = some o → (∀ es k, o.data ≠ .dict es k) → q ≠ mainGlobals := fun e n z => by
      obtain ⟨og, es, ep, eg, dg, _⟩ := ng
      rw [z] at e
      cases e.symm.trans eg
      exact n _ _ dg
    refine ⟨⟨oc, us, f1, f2, f3, f4, f5, f6, f7, unseen c1 (fun x k z => nomatch c3.symm.trans z) fun z => ?_, c2, c3, c4, rest⟩, ⟨bm, ob, m1, m2, gl m3 fun es k z => (nomatch m6.symm.trans z), fun z => ?_, unseen m3 (fun x k z => nomatch m6.symm.trans z) (fun z => nomatch m6.symm.trans z), m4, m5, m6⟩, fun z => gl (hT p hp) (fun es k z => nomatch z) z.symm⟩
    · cases c3.symm.trans z
      exact absurd c4 (by simp)
    · rw [z] at m3
      cases m3.symm.trans (hT p hp)
      cases m6
  have world : Env0 P w K mg (hidT s1.heap H) callerA [] s1 H := ⟨rfl, ⟨written, spaces ng, ⟨mb, spaces nb, bb⟩, let ⟨mc, h1, h2⟩ := nl; ⟨mc, spaces h1, h2⟩⟩, fun b o e => of_hidT e, Nat.le_of_eq (hidT_size _ _), trivial, (fun b z => nomatch z), holds, .of_eq gg⟩
  refine codeAny_mono ((Fn _ written (spaces ng) tables).go callerA [] s1 H ⟨[.ref a], []⟩ [.ref a] [.ref a] _ _ room rfl world (bd (.ref a)) (.cons rfl .nil) (hsp H (fun p hp => onT (List.mem_map.mpr ⟨p, hp, rfl⟩)) atScript)) fun r s' h => ?_
  rcases r with er | fl
  · exact (no_exc (show L2N.CX P w [] H s1 (fun _ _ _ => False) er s' from h)).elim
  cases fl <;> first | exact False.elim h | skip
  rename_i u
  obtain ⟨v, H', os, bare, un, hok', r', q⟩ := h
  obtain rfl : v = .bl true := q
  obtain rfl : u = Value.bool true := r'
  have rest : ∀ {b : Addr} {o : Obj}, b ∉ T → s1.heap.get? b = some o → s'.heap.get? b = some o := fun {b o} m e => by
    cases q : H b with
    | none => exact un.keep b o e q (fun z => nomatch z) (fun z => nomatch z)
    | some u =>
      rcases sorts q with ⟨m', _⟩ | ⟨_, rfl, _, rfl⟩
      · exact absurd m' m
      · cases ha.symm.trans e
        exact (hok' _ _ (un.frzs _ _ _ q)).1
  have longer : ∀ {b : Addr}, b ∈ T → ∃ x : Array Value, s'.heap.get? b = some { cls := .none, data := .fields x } := fun {b} m =>
    let ⟨_, z⟩ := un.tbls b #[] (onT m)
    ⟨_, hok' b _ z⟩
  refine ⟨rfl, ⟨fun b o e => ?_, fun b o e => ?_⟩, os, bare⟩
  · by_cases m : b ∈ T
    · obtain ⟨x, hx⟩ := longer m
      cases (tabled m).symm.trans e
      obtain ⟨p, hp, rfl⟩ := List.mem_map.mp m
      exact .inr (.inl ⟨((C p hp).tab (hT p hp)).isCodeTable, rfl, #[], x, rfl, by rw [Array.empty_append]; exact hx⟩)
    · exact .inl (rest m e)
  · by_cases m : b ∈ T
    · exact let ⟨x, hx⟩ := longer m; ⟨_, hx⟩
    · exact ⟨o, rest m e⟩
end
/-- the promise of a law's def, from the evaluator's answer -/
theorem law_sp [TabName] {K : PySem.W.Frag} {xc : Xc} {Ds : List Def} {L n g : Nat} {H : Hp} {a : Addr} {ns : List Int} {t : S} (hs : Scr K H a ns) (hT : LamX.Tabs TabName.T H) (h : callD Ds L n g [.scr ns] [] = .ok (.dat (.bool true)) t) :
    spD K xc (callD Ds L n g) 1 [.ref a] H (fun v _ => v = .bl true) fun _ _ _ => False := by
  refine ⟨rfl, fun _ => False, [], [.scr ns], [], ⟨.cons ⟨a, rfl, hs⟩ .nil, rfl, List.nodup_nil, (fun k d e => nomatch e), fun _ z => False.elim z⟩, hT, ?_⟩
  rw [h]
  intro x F' ex' H' _ rv
  have rv : Rf K F' H' x (.bool true) := rv
  cases rv
  rfl
/-- what is known of the text at the head's heap: K, who raises, who tells, the tables -/
structure Known (Ds : List Def) (infos : List GInfo) (noG : List Str) (cs : List (Str × D)) (xi : XI) (mg : Str → Option Value) (h : Heap) (K : PySem.W.Frag) (T : List (Addr × Str)) (tabs : List (Addr × Addr)) (xc : Xc) : Prop where
  kin : K.In h
  has : ∀ p ∈ T, ∃ c, (c, p.1) ∈ tabs
  tab : ∀ p ∈ tabs, PySem.W.CodeHd h p.1 p.2 ∧ h.get? p.2 = some (PySem.W.tabObj #[])
  free : ∀ p ∈ tabs, K.lookup p.2 = none
  ok : @ProgOk ⟨T⟩ xc K mg Ds infos noG cs xi tabs
/-- a law: the text's facts, and the evaluator's answer at every script -/
theorem law_walk {l : PySem.W.OpenLaw} {n k g : Nat} {q : Program} {loose : List Str} {XP : (Str → Option Value) → Heap → Prop} {YP : World → Heap → Prop} {d : DefRec} {x : Str} {Ds : List Def} {L : Nat} {infos : List GInfo} {noG : List Str} {cs : List (Str × D)} {xi : XI}
    (hn : l.most = some n) (hn2 : n ≤ sizeLine) (hdf : d.params.defaults = []) (room : Room (3 * k) callerA) (hi : infos[g]? = some ⟨d.name, [x], []⟩)
    (F : ∀ (w : World) (mg : Str → Option Value) (h : Heap), YP w h → h.Ns mainGlobals mg → (∀ (K : PySem.W.Frag) (y : Str) (c P : Addr), K.In h → ((recsOf q).find? (fun e => e.name == y)).isSome = true → PySem.W.tabIn K y = some (c, P) → PySem.W.CodeHd h c P ∧ h.get? P = some (PySem.W.tabObj #[])) → ∃ K T tabs xc, Known Ds infos noG cs xi mg h K T tabs xc)
    (ans : ∀ ns : List Int, ns.length ≤ n → ∃ t, callD Ds L k g [.scr ns] [] = .ok (.dat (.bool true)) t) : PySem.W.WalkO q loose XP YP l.row.toRowW d [] (fun f vs => PySem.call f vs) := by
  refine Att.attach_callB hn hdf fun w s₀ s₁ mg mb fa o pm cd doc a vs ns G Y ho hd hcd hmg hobj hints hlen hbits hg => ?_
  obtain ⟨K, T, tabs, xc, H⟩ := F w mg _ Y G.T.g fun K y c P kin hs ht => by
    obtain ⟨e, he⟩ := Option.isSome_iff_exists.mp hs
    exact PySem.W.tab_of G.T kin he ht
  letI : TabName := ⟨T⟩
  obtain ⟨f, fd, S⟩ := H.ok.fns g _ hi
  have e : f = fa := by
    have := S.mg.symm.trans hmg
    cases this
    rfl
  subst e
  refine enter (k := 3 * k) (cs := tabs) (sp := spD K xc (callD Ds L k g) 1) H.kin G.T.g G.T.b G.T.builtins G.T.nolimit hg (fun p hp => (H.tab p hp).2) H.free (fun p hp => (H.tab p hp).1) G.T.bmain hobj hints (Nat.le_trans hlen hn2) room (fun base hb hg TB => ?_) (fun u => S.bd s₁ [u] H.kin rfl) fun H' hH hS => ?_
  · exact prog_ok H.ok TB k g _ f fd S
  · obtain ⟨t, e⟩ := ans ns hlen
    exact law_sp hS (fun p hp => let ⟨c, hc⟩ := H.has p hp; LamX.TabS.nil (hH _ hc)) e
end Ded
end

section
set_option Elab.async false
set_option linter.all false
set_option maxRecDepth 100000
/-! The head's facts: defs, classes that are raised, who tells, tables of code objects. -/
namespace Ded
open PySem PySem.Spec PyProof.Rows L2 He
section
variable {K : PySem.W.Frag} {C : Addr}
def oexB (K : PySem.W.Frag) (C : Addr) : Bool := (match K.lookup C with
  | some ⟨.type t, _, .cls cd, sl⟩ => (match cd.mro, sl.toList with
    | .ref C' :: bm, [_, _, _, _, some (.builtin n), _] => decide (t = "type") && (decide (C' = C) && (decide (n = "ValueError.__new__") && (cd.hasDict && (!cd.hasDel && PySem.HandSPX.refsVE bm))))
    | _, _ => false)
  | _ => false) && (eqO (PySem.W.findIn K (.ref C) "__setattr__") (some (some (.builtin "object.__setattr__"))) && (decide (PySem.W.subIn K (.ref C) (.type "BaseException") = some true) && (decide (PySem.W.typeIn K (.ref C) = some (.type "type")) && PySem.W.keepIn K (.ref C))))
theorem oexB_ok (h : oexB K C = true) : OexC K C := by
  obtain ⟨h1, h⟩ := ba h
  obtain ⟨h2, h⟩ := ba h
  obtain ⟨h3, h⟩ := ba h
  obtain ⟨h4, h5⟩ := ba h
  refine ⟨?_, eqO_ok h2, of_decide_eq_true h3, of_decide_eq_true h4, h5⟩
  clear h2 h3 h4 h5 h
  split at h1
  · rename_i t dd cd sl ho
    split at h1
    · rename_i own above x0 x1 x2 x3 newer x5 hm hs
      obtain ⟨a1, a⟩ := ba h1
      obtain ⟨a2, a⟩ := ba a
      obtain ⟨a3, a⟩ := ba a
      obtain ⟨a4, a⟩ := ba a
      obtain ⟨a5, a6⟩ := ba a
      obtain rfl := of_decide_eq_true a1
      obtain rfl := of_decide_eq_true a2
      obtain rfl := of_decide_eq_true a3
      obtain ⟨named, bases, line, space, qual, dictful, slotted, under, abst, coll, dels⟩ := cd
      dsimp only at hm a4 a5
      subst hm a4
      cases dels with
      | true => exact nomatch a5
      | false =>
        have hsl : sl = #[x0, x1, x2, x3, some (.builtin "ValueError.__new__"), x5] := by
          obtain ⟨l⟩ := sl
          simp only at hs
          rw [hs]
        subst hsl
        exact ⟨named, qual, space, bases, above, slotted, under, abst, coll, dd, x0, x1, x2, x3, x5, ho, a6⟩
    · cases h1
  · cases h1
def xfB (K : PySem.W.Frag) (C : Addr) : Bool := (PySem.W.clsIn K C).isSome && (eqO (PySem.W.findIn K (.ref C) "__getattribute__") (some (some (.builtin "BaseException.__getattribute__"))) && (eqO (PySem.W.findIn K (.ref C) "__getattr__") (some none) &&
  (decide (PySem.W.subIn K (.ref C) (.type "BaseException") = some true) && (eqO (PySem.W.findIn K (.ref C) "__class__") (some (some (.builtin "object.__class__"))) && (eqO (PySem.W.specialIn K (.builtin "object.__class__") "__get__") (some (some (.builtin "getset_descriptor.__get__"))) &&
  (decide (PySem.W.takesIn K (.builtin "object.__class__") = some true) && (decide (PySem.W.mroIn K C (.type "object") = some true) && PySem.W.hasDictIn K C)))))))
theorem xfB_ok (h : xfB K C = true) : XFacts K C := by
  obtain ⟨h1, h⟩ := ba h
  obtain ⟨h2, h⟩ := ba h
  obtain ⟨h3, h⟩ := ba h
  obtain ⟨h4, h⟩ := ba h
  obtain ⟨h5, h⟩ := ba h
  obtain ⟨h6, h⟩ := ba h
  obtain ⟨h7, h⟩ := ba h
  obtain ⟨h8, h9⟩ := ba h
  exact ⟨h1, eqO_ok h2, eqO_ok h3, of_decide_eq_true h4, eqO_ok h5, eqO_ok h6, of_decide_eq_true h7, of_decide_eq_true h8, h9⟩
/-- an __init__ of the class itself -/
def iniB (K : PySem.W.Frag) (C : Addr) : Bool := eqO (PySem.W.findIn K (.ref C) "__init__") (some (some (.ref (ma K C "__init__")))) && decide (PySem.W.typeIn K (.ref (ma K C "__init__")) = some (.type "function"))
theorem iniB_ok (h : iniB K C = true) : PySem.W.findIn K (.ref C) "__init__" = some (some (.ref (ma K C "__init__"))) ∧ PySem.W.typeIn K (.ref (ma K C "__init__")) = some (.type "function") := by
  obtain ⟨h1, h2⟩ := ba h
  exact ⟨eqO_ok h1, of_decide_eq_true h2⟩
def kitB (K : PySem.W.Frag) (C : Addr) (v : Value) (b : Bool) : Bool := decide (PySem.W.kitOne K (.ref C) v = some b)
theorem kitB_ok {v : Value} {b : Bool} (h : kitB K C v b = true) : PySem.W.kitOne K (.ref C) v = some b := of_decide_eq_true h
def exmB (K : PySem.W.Frag) (C D : Addr) : Bool := decide (PySem.W.exmOne K (.ref C) (.ref D) = some true)
theorem exmB_ok {D : Addr} (h : exmB K C D = true) : PySem.W.exmOne K (.ref C) (.ref D) = some true := of_decide_eq_true h
def noB (K : PySem.W.Frag) (C : Addr) (f : Str) : Bool := eqO (PySem.W.findIn K (.ref C) f) (some none)
theorem noB_ok {f : Str} (h : noB K C f = true) : PySem.W.findIn K (.ref C) f = some none := eqO_ok h
/-- the code object and the table of a def, the table being no part of K -/
def tabC (K : PySem.W.Frag) (x : Str) : Addr × Addr := (PySem.W.tabIn K x).getD (0, 0)
def tabB (K : PySem.W.Frag) (x : Str) : Bool := (PySem.W.tabIn K x).isSome && (K.lookup (tabC K x).2).isNone
theorem tabB_ok {x : Str} (h : tabB K x = true) : PySem.W.tabIn K x = some (tabC K x) ∧ K.lookup (tabC K x).2 = none := by
  obtain ⟨h1, h2⟩ := ba h
  refine ⟨?_, Option.isNone_iff_eq_none.mp h2⟩
  unfold tabC
  cases e : PySem.W.tabIn K x with
  | none => rw [e] at h1; cases h1
  | some p => rfl
/-- no two tables are one -/
def tabsB (K : PySem.W.Frag) (xs : List Str) : Bool := decide ((xs.map fun x => (tabC K x).2).Nodup)
end
abbrev tabsOf (K : PySem.W.Frag) (lams : List Str) : List (Addr × Addr) := lams.map (tabC K)
abbrev lamName (x : Str) : Str := (x ++ ".<locals>." : Str) ++ "<lambda>"
abbrev tOf (K : PySem.W.Frag) (lams : List Str) : List (Addr × Str) := lams.map fun x => ((tabC K x).2, lamName x)
theorem tab_code {K : PySem.W.Frag} {x q : Str} {st : Stmt} {fd : FuncData} {c P : Addr} (F : Fun K x q st (ga K x) fd) (g : PySem.W.nsIn K mainGlobals x = some (some (.ref (ga K x)))) (h : PySem.W.tabIn K x = some (c, P)) : fd.code = .ref c := by
  obtain ⟨oc, od, kV, doc, pm, an, cdv, ct, osl, rfl, lk, hcd⟩ := F.ex
  unfold PySem.W.tabIn at h
  rw [g] at h
  dsimp only at h
  rw [lk] at h
  dsimp only at h
  show cdv = .ref c
  cases cdv <;> dsimp only at h <;> first | cases h | skip
  rename_i b
  cases e2 : K.lookup b with
  | none => rw [e2] at h; cases h
  | some o =>
    rw [e2] at h
    obtain ⟨o1, o2, o3, o4⟩ := o
    cases o3 <;> dsimp only at h <;> first | cases h | skip
    split at h
    · cases h
      rfl
    · cases h
theorem inj_map {α β : Type} {f : α → β} : ∀ {l : List α}, (l.map f).Nodup → ∀ x, x ∈ l → ∀ y, y ∈ l → f x = f y → x = y
  | [], _, _, h, _, _, _ => nomatch h
  | a :: l, hn, x, hx, y, hy, e => by
    rw [List.map_cons, List.nodup_cons] at hn
    rcases List.mem_cons.mp hx with h1 | h1 <;> rcases List.mem_cons.mp hy with h2 | h2
    · exact h1.trans h2.symm
    · subst h1
      exact absurd (e ▸ List.mem_map_of_mem (f := f) h2) hn.1
    · subst h2
      exact absurd (e ▸ List.mem_map_of_mem (f := f) h1) hn.1
    · exact inj_map hn.2 x h1 y h2 e
/-- where lambdas are made -/
theorem lam_stat {K : PySem.W.Frag} {lams : List Str} {x : Str} {st : Stmt} {fd : FuncData} (hx : x ∈ lams) (hB : tabB K x = true) (hN : tabsB K lams = true) (F : Fun K x x st (ga K x) fd) (g : (Fa.glo x).ok K = true) :
    ∃ cc P, fd.code = .ref cc ∧ (cc, P) ∈ tabsOf K lams ∧ (P, lamName x) ∈ tOf K lams ∧ ∀ p ∈ tOf K lams, p.1 = P → p.2 = lamName x := by
  obtain ⟨h1, _⟩ := tabB_ok hB
  refine ⟨(tabC K x).1, (tabC K x).2, tab_code F (eqO_ok g) h1, List.mem_map.mpr ⟨x, hx, rfl⟩, List.mem_map.mpr ⟨x, hx, rfl⟩, fun p hp e => ?_⟩
  obtain ⟨y, hy, rfl⟩ := List.mem_map.mp hp
  have hN : (lams.map fun x => (tabC K x).2).Nodup := of_decide_eq_true hN
  rw [inj_map hN y hy x hx e]
theorem tabs_has {K : PySem.W.Frag} {lams : List Str} : ∀ p ∈ tOf K lams, ∃ c, (c, p.1) ∈ tabsOf K lams := fun p hp => by
  obtain ⟨y, hy, rfl⟩ := List.mem_map.mp hp
  exact ⟨(tabC K y).1, List.mem_map.mpr ⟨y, hy, rfl⟩⟩
/-- the method of a class's text -/
def clsStmt (s : Stmt) (i : Nat) : Stmt := match s with
  | .ClassDef _ _ _ body _ _ _ _ _ _ _ => body.getD i (.Pass ⟨0, 0, 0, 0⟩)
  | _ => .Pass ⟨0, 0, 0, 0⟩
/-! ### the Hook -/
/-- what the names reach, but for tables of code objects -/
def asX (g : Addr → Option Obj) (n : Nat) : List Addr := (asD g n).filter fun a => match g a with
  | some ⟨.none, _, .fields _, _⟩ => false
  | _ => true
def obsX (fa : List Fa) (fn : List DefD) (ex : List (PySem.W.Frag → Bool)) (K : PySem.W.Frag) : AlD := ((obsD fa fn K).1 && ex.all fun b => b K, (obsD fa fn K).2)
def SaysX (fa : List Fa) (fn : List DefD) (ex : List (PySem.W.Frag → Bool)) (K : PySem.W.Frag) : Prop := obsX fa fn ex K = valD fn
theorem SaysX.d {fa : List Fa} {fn : List DefD} {ex : List (PySem.W.Frag → Bool)} {K : PySem.W.Frag} (h : SaysX fa fn ex K) : SaysD fa fn K := by
  have h1 : ((obsD fa fn K).1 && ex.all fun b => b K) = true := congrArg (fun z : AlD => z.1) h
  have h2 : (obsX fa fn ex K).2 = (valD fn).2 := congrArg (fun z : AlD => z.2) h
  exact Prod.ext (ba h1).1 h2
theorem SaysX.x {fa : List Fa} {fn : List DefD} {ex : List (PySem.W.Frag → Bool)} {K : PySem.W.Frag} (h : SaysX fa fn ex K) (i : Nat) {b : PySem.W.Frag → Bool} (e : ex[i]? = some b := by rfl) : b K = true := by
  have h1 : ((obsD fa fn K).1 && ex.all fun b => b K) = true := congrArg (fun z : AlD => z.1) h
  exact List.all_eq_true.mp (ba h1).2 b (List.mem_of_getElem? e)
def obsXG (n : Nat) (fa : List Fa) (fn : List DefD) (ex : List (PySem.W.Frag → Bool)) (g : Addr → Option Obj) : AlD := obsX fa fn ex (frG g (asX g n))
def hookX (n : Nat) (fa : List Fa) (fn : List DefD) (ex : List (PySem.W.Frag → Bool)) : PySem.W.Hook where
  α := AlD
  obs := fun s => obsXG n fa fn ex s.heap.get?
  val := fun _ => valD fn
  says := fun _ h => ∃ K : PySem.W.Frag, K.In h ∧ SaysX fa fn ex K
  of := fun _ _ e => ⟨_, frG_in, e⟩
  keeps := fun _ _ _ ⟨K, hK, c⟩ k => ⟨K, PySem.W.Frag.In.keeps hK k, c⟩
theorem obsXG_eq {n : Nat} {fa : List Fa} {fn : List DefD} {ex : List (PySem.W.Frag → Bool)} {g : Addr → Option Obj} {s : Shared} (h : ∀ a, g a = s.heap.get? a) : obsXG n fa fn ex g = (hookX n fa fn ex).obs s := by
  have e : g = s.heap.get? := funext h
  rw [e] <;> rfl
/-! ### who tells -/
/-- NotUsable's instances, as the layer lays them -/
def xcUse (K : PySem.W.Frag) (C : Addr) : Xc := ⟨fun c fs F _ _ H cls od => c = 1 ∧ cls = .ref C ∧ ∃ d v1 v2 d1 d2, od = some d ∧ fs = [d1, d2] ∧ H d = some (.xd [(Str.ofString "at", v2), (Str.ofString "word", v1)]) ∧ Rf K F H v1 d1 ∧ Rf K F H v2 d2⟩
section
variable [TabName]
variable {X : Cx} {C : Addr}
theorem said_ok {x a n kx rx qs qr prm : Str} {stS stR : Stmt} {g f0 cK : Addr} {fdS fdR : FuncData} {Nr : List Str} {kk k1 : Nat} {p1 p2 p3 p4 p5 p6 p7 p8 p9 p10 p11 p12 : Pos}
    (mgS : X.mg x = some (.ref g)) (FuS : Fun X.K x qs stS g fdS) (SgS : FnScope [a, n] [a] (defScope stS)) (hbS : Binds X.K fdS [a] []) (okA : okName a = true)
    (bodyS : defBody stS = [.Try [.Return (some (.Tuple [.Constant (.str (Str.ofString "told")) k1 p1, .Call (.Name a p2) [] [] p3] kk p4)) p5] [.ExceptHandler (some (.Name kx p6)) (some n) [.Return (some (.Call (.Name rx p7) [.Name n p8] [] p9)) p10] p11] [] [] p12])
    (ln : (defScope stS).names.lookup n = some .local) (okN : okName n = true) (gk : (defScope stS).names.lookup kx = some .globalImplicit) (mk : X.mg kx = some (.ref cK)) (dk : (kx == ("__debug__" : Str)) = false)
    (gr : (defScope stS).names.lookup rx = some .globalImplicit) (mr : X.mg rx = some (.ref f0)) (dr : (rx == ("__debug__" : Str)) = false) (Fu : Fun X.K rx qr stR f0 fdR) (Sr : FnScope Nr [prm] (defScope stR)) (hb : Binds X.K fdR [prm] []) (exm : PySem.W.exmOne X.K (.ref C) (.ref cK) = some true)
    (refuses : ∀ (cdv : Value) (A : Around) (outer : List Env) (s : Shared) (H0 : Hp) (ae : Addr) (oe : Obj) (dd : Addr), Zc (.ref C) (some dd) oe → (∃ vs, oe.data = .fields vs) →
      ∃ t, PSs (L2H.cxH C8.CX0 X.prog X.w X.K X.mg X.base Nr qr (defScope stR) f0 cdv A outer s H0 C8.E0 (ae, oe)) (defBody stR) t ∧
        ∀ (H : Hp) (Q : VK) (fs : List (Str × V)) (w z : V), H dd = some (.xd fs) → fs.lookup (Str.ofString "word") = some w → fs.lookup (Str.ofString "at") = some z → (∀ H2 p, (∀ b o, H b = some o → H2 b = some o) → Pl H2 p [.str (Str.ofString "use"), w, z] → H p = none → Q (.ref p) H2) →
          t { nx := fun _ H' => Q .non H', rt := Q } (L2.start Nr [.ref ae]) H) : SaidOk X (xcUse X.K C) 0 x := by
  have kp : PySem.W.keepIn X.K (.ref g) = true := FuS.kp
  obtain ⟨oc, od, kV, doc, pm, an, cdv, ct, osl, rfl, lk, hcd⟩ := FuS.ex
  unfold okName at okN
  obtain ⟨o1, o2⟩ := ba okN
  refine ⟨a, qs, g, defArgs stS, defBody stS, defScope stS, .none, kV, doc, pm, cdv, ct, oc, an, od, osl, [a, n], exrUse C (Str.ofString "word") (Str.ofString "at"), mgS, kp, lk, hcd, hbS, SgS, rfl, (SgS.par a List.mem_cons_self).elim .inl fun z => .inr (.inl z), okA, fun nm => ?_, ?_⟩
  · rw [bodyS]
    exact said_gives SgS.nd ln ⟨by simpa using o1, by simpa using o2⟩ gk mk dk gr mr dr Fu Sr hb exm refuses
  · intro c fs F ex μ H cls od d e ⟨hc, hcls, dd, v1, v2, d1, d2, hod, hfs, hd, r1, r2⟩
    subst hc hfs
    cases e
    refine ⟨[.str (Str.ofString "use"), v1, v2], _, rfl, ⟨dd, _, v1, v2, hcls, hod, hd, rfl, rfl, rfl⟩, .cons (.str _) (.cons r1 (.cons r2 .nil)), show 3 ≤ sizeLine by decide⟩
end
end Ded
end

section
set_option Elab.async false
set_option linter.all false
set_option maxRecDepth 100000
set_option maxHeartbeats 1000000
/-! Who tells, for exceptions of several classes. -/
namespace Ded
open PySem PySem.Spec PyProof.Rows L2 He
/-- instances of several classes, as the layer lays them -/
def xcMany (K : PySem.W.Frag) (cs : List (Nat × Addr)) : Xc := ⟨fun c fs F _ _ H cls od => ∃ C d tbl vs, (c, C) ∈ cs ∧ cls = .ref C ∧ od = some d ∧ H d = some (.xd tbl) ∧ fldV c tbl vs ∧ RfA K F H vs fs⟩
theorem fldV_len {c : Nat} {fs : List (Str × V)} {vs : List V} (h : fldV c fs vs) : vs.length ≤ 2 := by
  have e := congrArg List.length h
  rw [List.length_map, List.length_map] at e
  have : (fldH c).length ≤ 2 := by
    unfold fldH
    split <;> decide
  omega
section
variable [TabName]
variable {X : Cx} {cs : List (Nat × Addr)} {x a n own sorts kx qs : Str} {stS : Stmt} {g cK : Addr} {fdS : FuncData} {hd0 : Stmt} {hds : List Stmt} {kk k1 : Nat} {p1 p2 p3 p4 p5 p6 p7 p8 p9 p10 p11 p12 : Pos}
theorem heard_ok (once : ∀ c C, (c, C) ∈ cs → c < 4 ∧ cs.lookup c = some C) (mgS : X.mg x = some (.ref g)) (FuS : Fun X.K x qs stS g fdS) (SgS : FnScope [a, n, own, sorts] [a] (defScope stS)) (hbS : Binds X.K fdS [a] []) (okA : okName a = true)
    (bodyS : defBody stS = [.Try [.Return (some (.Tuple [.Constant (.str (Str.ofString "told")) k1 p1, .Call (.Name a p2) [] [] p3] kk p4)) p5] [.ExceptHandler (some (.Name kx p6)) (some n) (hd0 :: hds) p11] [] [] p12])
    (ln : (defScope stS).names.lookup n = some .local) (gk : (defScope stS).names.lookup kx = some .globalImplicit) (mk : X.mg kx = some (.ref cK)) (dk : (kx == ("__debug__" : Str)) = false) (exm : ∀ c C, (c, C) ∈ cs → PySem.W.exmOne X.K (.ref C) (.ref cK) = some true)
    (refuses : ∀ c C, (c, C) ∈ cs → c < 4 → ∀ (cdv : Value) (s : Shared) (H0 : Hp) (ae : Addr) (oe : Obj) (dd : Addr) (pn : List (Addr × Obj)), Room 1 (X.A.deeper (envOfC qs (defScope stS) s.heap.objs.size g cdv)) → Zc (.ref C) (some dd) oe → (∃ vs, oe.data = .fields vs) →
      ∃ t, PSs ((cxOf C8.CX0 X.prog X.w X.K X.mg X.base [a, n, own, sorts] qs (defScope stS) g cdv X.A X.stack s H0 C8.E0).nox.suite ae ((ae, oe) :: pn)) (hd0 :: hds) t ∧
        ∀ (H : Hp) (Q : VK) (fs : List (Str × V)) (ws : List V) (σ : L2.St), σ.length = 4 → σ[1]? = some (some (.ref ae)) → H dd = some (.xd fs) → fldV c fs ws → (∀ H2 p, (∀ b o, H b = some o → H2 b = some o) → Pl H2 p (.str (wordH c) :: ws) → H p = none → Q (.ref p) H2) →
          ∀ (D : Ends), D.rt = Q → t D σ H) : SaidOk X (xcMany X.K cs) 1 x := by
  have kp : PySem.W.keepIn X.K (.ref g) = true := FuS.kp
  have mem : ∀ {c C}, cs.lookup c = some C → (c, C) ∈ cs := fun {c C} e => by
    clear once exm refuses
    induction cs with
    | nil => cases e
    | cons p cs ih =>
      obtain ⟨c', C'⟩ := p
      rw [List.lookup_cons] at e
      split at e
      · rename_i h
        obtain rfl := beq_iff_eq.mp h
        cases e
        exact List.mem_cons_self
      · exact List.mem_cons_of_mem _ (ih e)
  obtain ⟨oc, od, kV, doc, pm, an, cdv, ct, osl, rfl, lk, hcd⟩ := FuS.ex
  refine ⟨a, qs, g, defArgs stS, defBody stS, defScope stS, .none, kV, doc, pm, cdv, ct, oc, an, od, osl, [a, n, own, sorts], exrH (fun c => cs.lookup c), mgS, kp, lk, hcd, hbS, SgS, rfl, (SgS.par a List.mem_cons_self).elim .inl fun z => .inr (.inl z), okA, fun nm => ?_, ?_⟩
  · rw [bodyS]
    exact heard_gives SgS.nd ln gk mk dk (fun c C e => exm c C (mem e)) fun c C e lt s H0 ae oe dd pn room zc fl => refuses c C (mem e) lt cdv s H0 ae oe dd pn room zc fl
  · intro c fs F ex μ H cls od d e ⟨C, dd, tbl, vs, hm, hcls, hod, hd, hf, r⟩
    obtain ⟨lt, look⟩ := once c C hm
    have short := fldV_len hf
    have e : d = .tuple (.str (wordH c) :: fs) := by
      rcases c with _ | _ | _ | _ | c <;> first | (cases e; rfl) | omega
    subst e
    have fits : (V.str (wordH c) :: vs).length ≤ sizeLine := by
      rw [List.length_cons, sizeLine_eq]
      omega
    exact ⟨.str (wordH c) :: vs, _, rfl, ⟨c, C, dd, tbl, vs, lt, look, hcls, hod, hd, hf, rfl, fits⟩, .cons (.str _) r, fits⟩
/-- the room of an except suite in the telling def -/
theorem suite_units {A : Around} {env : Env} {m : Nat} (r : Room 1 (A.deeper env)) (h : m = (A.deeper env).units) : m + 64 < cLine := by
  have := r.un
  omega
end
end Ded
end

section
set_option linter.all false
set_option maxRecDepth 100000
/-! The evaluator, one step after another. -/
namespace Ded
open PySem
/-- it ends well, so -/
def wp {α : Type} (m : M α) (s : S) (P : α → S → Prop) : Prop := match m s with
  | .ok a t => P a t
  | _ => False
section
variable {α β : Type} {s : S} {P : α → S → Prop}
theorem wp_ok {m : M α} (h : wp m s P) : ∃ a t, m s = .ok a t ∧ P a t := by
  unfold wp at h
  cases e : m s with
  | ok a t => rw [e] at h; exact ⟨a, t, rfl, h⟩
  | exc _ _ _ => rw [e] at h; exact h.elim
  | bad => rw [e] at h; exact h.elim
theorem wp_of {m : M α} {a : α} {t : S} (e : m s = .ok a t) (h : P a t) : wp m s P := by
  unfold wp
  rw [e]
  exact h
theorem wp_mono {m : M α} {Q : α → S → Prop} (h : wp m s P) (q : ∀ a t, P a t → Q a t) : wp m s Q := by
  obtain ⟨a, t, e, z⟩ := wp_ok h
  exact wp_of e (q a t z)
theorem wp_ret {a : α} : wp (M.ret a) s P = P a s := rfl
theorem wp_bad : wp (M.bad : M α) s P = False := rfl
theorem wp_bind {m : M β} {f : β → M α} : wp (M.bind m f) s P = wp m s fun b t => wp (f b) t P := by
  unfold wp M.bind
  cases m s <;> rfl
theorem wp_optS {a : α} : wp (M.opt (some a)) s P = P a s := rfl
theorem wp_optN : wp (M.opt (none : Option α)) s P = False := rfl
theorem wp_optI {c : Prop} [Decidable c] {a : α} : wp (M.opt (if c then some a else none)) s P = (c ∧ P a s) := by
  by_cases h : c
  · rw [if_pos h, wp_optS]; simp [h]
  · rw [if_neg h, wp_optN]; simp [h]
end
section
variable {s : S} {i k : Nat} {d : D} {P : Val → S → Prop} {Q : D → S → Prop} {U : Unit → S → Prop} {ρ : List (Option Val)} {μ : List D}
theorem slot_mk : slot ⟨ρ, μ⟩ i = (ρ[i]?).join := rfl
def varK (P : Val → S → Prop) (i : Nat) (s : S) : Option Val → Prop
  | some (.dat d) => P (.dat d) s
  | some (.own _) => P (.loc i) s
  | some (.bor _) => P (.loc i) s
  | some (.ext k) => P (.ext k) s
  | _ => False
theorem wp_var : wp (mVar i) ⟨ρ, μ⟩ P = varK P i ⟨ρ, μ⟩ (ρ[i]?).join := by
  unfold wp mVar varK
  rw [slot_mk]
  cases (ρ[i]?).join with
  | none => rfl
  | some v => cases v <;> rfl
theorem opd_dat : wp (opd (.dat d)) s P = P (.dat d) s := rfl
theorem opd_own : wp (opd (.own d)) s P = P (.dat d) s := rfl
theorem opd_ext : wp (opd (.ext k)) s P = P (.ext k) s := rfl
theorem opd_loc : wp (opd (.loc k)) s P = P (.loc k) s := rfl
theorem wp_opd {m : M Val} : wp (mOpd m) s P = wp m s fun v t => wp (opd v) t P := wp_bind
theorem peek_dat : wp (peekM (.dat d)) s Q = Q d s := rfl
theorem peek_ext (h : μ[k]? = some d) : wp (peekM (.ext k)) ⟨ρ, μ⟩ Q = Q d ⟨ρ, μ⟩ := by
  unfold wp peekM peek
  dsimp only
  rw [h]
def locK (Q : D → S → Prop) (s : S) : Option Val → Prop
  | some (.own d) => Q d s
  | some (.bor d) => Q d s
  | _ => False
theorem peek_loc : wp (peekM (.loc i)) ⟨ρ, μ⟩ Q = locK Q ⟨ρ, μ⟩ (ρ[i]?).join := by
  unfold wp peekM peek locK
  dsimp only
  rw [slot_mk]
  cases (ρ[i]?).join with
  | none => rfl
  | some v => cases v <;> rfl
theorem frz_dat : wp (freeze (.dat d)) s Q = Q d s := rfl
theorem frz_own : wp (freeze (.own d)) s Q = Q d s := rfl
def frzK (Q : D → S → Prop) (i : Nat) (s : S) : Option Val → Prop
  | some (.own d) => Q d (setSlot s i (.dat d))
  | _ => False
theorem frz_loc : wp (freeze (.loc i)) ⟨ρ, μ⟩ Q = frzK Q i ⟨ρ, μ⟩ (ρ[i]?).join := by
  unfold wp freeze frzK
  dsimp only
  rw [slot_mk]
  cases (ρ[i]?).join with
  | none => rfl
  | some v => cases v <;> rfl
theorem wp_frz {m : M Val} : wp (mFrz m) s Q = wp m s fun v t => wp (freeze v) t Q := wp_bind
theorem wp_two {m n : M Val} {g : D → D → Option Val} : wp (mTwo m n g) s P = wp (mOpd m) s fun u s1 => wp (mOpd n) s1 fun v s2 => wp (peekM u) s2 fun x s3 => wp (peekM v) s3 fun y s4 => wp (M.opt (g x y)) s4 P := by
  unfold mTwo
  simp only [wp_bind]
theorem wp_one {m : M Val} {g : D → Option Val} : wp (mOne m g) s P = wp (mOpd m) s fun u s1 => wp (peekM u) s1 fun x s2 => wp (M.opt (g x)) s2 P := by
  unfold mOne
  simp only [wp_bind]
theorem wp_bin {o : Bop} {m n : M Val} : wp (mBin o m n) s P = wp (mTwo m n (binD o)) s P := rfl
theorem wp_cmp {o : Cop} {m n : M Val} : wp (mCmp o m n) s P = wp (mTwo m n (gCmp o)) s P := rfl
theorem wp_idx {m n : M Val} : wp (mIdx m n) s P = wp (mTwo m n gIdx) s P := rfl
theorem wp_litems {m : M Val} : wp (mLitems m) s P = wp (mOne m itemsD) s P := rfl
theorem wp_neg {m : M Val} : wp (mNeg m) s P = wp (mOne m gNeg) s P := rfl
theorem wp_not {m : M Val} : wp (mNot m) s P = wp (mOne m fun x => (truD x).map fun b => .dat (.bool (!b))) s P := rfl
theorem wp_isi {m : M Val} {ts : List Ty} : wp (mIsi m ts) s P = wp (mOne m fun x => some (.dat (.bool (ts.any fun t => isTy t x)))) s P := rfl
theorem wp_tru {m : M Val} {B : Bool → S → Prop} : wp (tTru m) s B = wp (mOpd m) s fun u s1 => wp (peekM u) s1 fun x s2 => wp (M.opt (truD x)) s2 B := by
  unfold tTru
  simp only [wp_bind]
theorem wp_ifb {α : Type} {b : Bool} {m n : M α} {P : α → S → Prop} : wp (if b = true then m else n) s P = ((b = true → wp m s P) ∧ (b = false → wp n s P)) := by
  cases b <;> simp
theorem wp_tand {m n : M Bool} {B : Bool → S → Prop} : wp (tAnd' m n) s B = wp m s fun x t => wp (if x = true then n else M.ret false) t B := wp_bind
theorem wp_tor {m n : M Bool} {B : Bool → S → Prop} : wp (tOr' m n) s B = wp m s fun x t => wp (if x = true then M.ret true else n) t B := wp_bind
theorem wp_tnot {m : M Bool} {B : Bool → S → Prop} : wp (tNot' m) s B = wp m s fun x t => B (!x) t := wp_bind
theorem wp_ite {t : M Bool} {m n : M Val} : wp (mIte t m n) s P = wp t s fun b s1 => wp (if b = true then m else n) s1 P := wp_bind
theorem wp_and {m n : M Val} : wp (mAnd m n) s P = wp (mOpd m) s fun u s1 => wp (peekM u) s1 fun x s2 => wp (M.opt (truD x)) s2 fun b s3 => wp (if b = true then n else M.ret u) s3 P := by
  unfold mAnd
  simp only [wp_bind]
theorem wp_or {m n : M Val} : wp (mOr m n) s P = wp (mOpd m) s fun u s1 => wp (peekM u) s1 fun x s2 => wp (M.opt (truD x)) s2 fun b s3 => wp (if b = true then M.ret u else n) s3 P := by
  unfold mOr
  simp only [wp_bind]
theorem wp_lnil {α : Type} {A : List α → S → Prop} : wp (lNil : M (List α)) s A = A [] s := rfl
theorem wp_lcons {α : Type} {m : M α} {l : M (List α)} {A : List α → S → Prop} : wp (lCons m l) s A = wp m s fun x s1 => wp l s1 fun xs s2 => A (x :: xs) s2 := by
  unfold lCons
  simp only [wp_bind, wp_ret]
theorem wp_peeks0 {A : List D → S → Prop} : wp (peeks []) s A = A [] s := rfl
theorem wp_peeks1 {v : Val} {vs : List Val} {A : List D → S → Prop} : wp (peeks (v :: vs)) s A = wp (peekM v) s fun x s1 => wp (peeks vs) s1 fun xs s2 => A (x :: xs) s2 := by
  show wp (M.bind (peekM v) fun x => M.bind (peeks vs) fun xs => M.ret (x :: xs)) s A = _
  simp only [wp_bind, wp_ret]
theorem wp_blt {f : Blt} {m : M (List Val)} : wp (mBlt f m) s P = wp m s fun vs s1 => wp (peeks vs) s1 fun ds s2 => wp (M.opt (bltD f ds)) s2 P := by
  unfold mBlt
  simp only [wp_bind]
theorem wp_tup {m : M (List D)} : wp (mTup m) s P = wp m s fun ds t => ds.length ≤ sizeLine ∧ P (.dat (.tuple ds)) t := by
  unfold mTup
  rw [wp_bind]
  congr 1
  funext ds t
  by_cases h : ds.length ≤ sizeLine
  · rw [if_pos h, wp_ret]; simp [h]
  · rw [if_neg h, wp_bad]; simp [h]
theorem wp_lst {m : M (List D)} : wp (mLst m) s P = wp m s fun ds t => ds.length ≤ sizeLine ∧ P (.own (.list ds)) t := by
  unfold mLst
  rw [wp_bind]
  congr 1
  funext ds t
  by_cases h : ds.length ≤ sizeLine
  · rw [if_pos h, wp_ret]; simp [h]
  · rw [if_neg h, wp_bad]; simp [h]
/-! ### statements -/
variable {X : Flow → S → Prop}
def flowK (k : M Flow) (X : Flow → S → Prop) (t : S) : Flow → Prop
  | .nx => wp k t X
  | .rt v => X (.rt v) t
  | .bk => X .bk t
  | .ct => X .ct t
theorem wp_then {m k : M Flow} : wp (thenK m k) s X = wp m s fun f t => flowK k X t f := by
  unfold thenK
  rw [wp_bind]
  congr 1
  funext f t
  cases f <;> rfl
theorem wp_exp {m : M Val} : wp (kExp m) s X = wp m s fun _ t => X .nx t := wp_bind
theorem wp_set {m : M Val} : wp (kSet i m) s X = wp m s fun v t => wp (setV i v) t fun _ t => X .nx t := by
  unfold kSet
  simp only [wp_bind, wp_ret]
theorem wp_slot {v : Val} : wp (putSlot i v) ⟨ρ, μ⟩ U = (i < ρ.length ∧ U () ⟨ρ.set i (some v), μ⟩) := by
  unfold wp putSlot
  by_cases h : i < ρ.length
  · simp [h, setSlot]
  · simp [h]
theorem setv_dat : wp (setV i (.dat d)) s U = wp (putSlot i (.dat d)) s U := rfl
theorem setv_own : wp (setV i (.own d)) s U = wp (putSlot i (.own d)) s U := rfl
theorem setv_ext : wp (setV i (.ext k)) s U = wp (putSlot i (.ext k)) s U := rfl
theorem setv_loc {j : Nat} : wp (setV i (.loc j)) s U = wp (freeze (.loc j)) s fun d t => wp (putSlot i (.dat d)) t U := wp_bind
theorem wp_par {j : Nat} {m n : M Val} : wp (kPar i j m n) s X = wp (mKeep m) s fun x s1 => wp (mKeep n) s1 fun y s2 => wp (putSlot i x) s2 fun _ s3 => wp (putSlot j y) s3 fun _ s4 => X .nx s4 := by
  unfold kPar
  simp only [wp_bind, wp_ret]
theorem wp_par3 {j l : Nat} {m n o : M Val} : wp (kPar3 i j l m n o) s X = wp (mKeep m) s fun x s1 => wp (mKeep n) s1 fun y s2 => wp (mKeep o) s2 fun z s3 => wp (putSlot i x) s3 fun _ s4 => wp (putSlot j y) s4 fun _ s5 => wp (putSlot l z) s5 fun _ s6 => X .nx s6 := by
  unfold kPar3
  simp only [wp_bind, wp_ret]
theorem wp_keep {m : M Val} : wp (mKeep m) s P = wp m s fun v t => wp (keepV v) t P := wp_bind
theorem keep_dat {d : D} : wp (keepV (.dat d)) s P = P (.dat d) s := rfl
theorem keep_own {d : D} : wp (keepV (.own d)) s P = P (.own d) s := rfl
theorem wp_kret {m : M Val} : wp (kRet m) s X = wp m s fun v t => wp (retV v) t fun v t => X (.rt v) t := by
  unfold kRet
  simp only [wp_bind, wp_ret]
theorem ret_dat : wp (retV (.dat d)) s P = P (.dat d) s := rfl
theorem ret_own : wp (retV (.own d)) s P = P (.own d) s := rfl
theorem ret_ext : wp (retV (.ext k)) s P = P (.ext k) s := rfl
def retK (P : Val → S → Prop) (s : S) : Option Val → Prop
  | some (.own d) => P (.own d) s
  | _ => False
theorem ret_loc : wp (retV (.loc i)) ⟨ρ, μ⟩ P = retK P ⟨ρ, μ⟩ (ρ[i]?).join := by
  unfold wp retV retK
  dsimp only
  rw [slot_mk]
  cases (ρ[i]?).join with
  | none => rfl
  | some v => cases v <;> rfl
theorem wp_kite {t : M Bool} {a b : M Flow} : wp (kIte t a b) s X = wp t s fun x s1 => wp (if x = true then a else b) s1 X := wp_bind
theorem wp_sti {m n : M Val} : wp (kSti i m n) s X = wp (mFrz n) s fun v s1 => wp (chkD i) s1 fun _ s2 => wp (mFrz m) s2 fun k s3 => wp (putD i k v) s3 X := by
  unfold kSti
  simp only [wp_bind]
theorem chk_ext {kvs : List (D × D)} (h0 : (ρ[i]?).join = some (.ext k)) (h : μ[k]? = some (.dict kvs)) : wp (chkD i) ⟨ρ, μ⟩ U = U () ⟨ρ, μ⟩ := by
  unfold wp chkD
  rw [slot_mk, h0]
  dsimp only
  rw [h]
theorem put_ext {kvs : List (D × D)} {y v : D} (h0 : (ρ[i]?).join = some (.ext k)) (h : μ[k]? = some (.dict kvs)) (hy : isKey y = true) (hl : kvs.length < sizeLine) : wp (putD i y v) ⟨ρ, μ⟩ X = X .nx ⟨ρ, μ.set k (.dict (putIn kvs y v))⟩ := by
  unfold wp putD
  rw [if_pos hy, slot_mk, h0]
  dsimp only
  rw [h]
  dsimp only
  rw [if_pos hl]
/-! the feed stands in the first slot, others hold it too -/
variable {kvs : List (D × D)} {y v : D}
theorem chk0 (h : μ[k]? = some (.dict kvs)) : wp (chkD 0) ⟨some (.ext k) :: ρ, μ⟩ U = U () ⟨some (.ext k) :: ρ, μ⟩ := chk_ext rfl h
theorem put0 (h : μ[k]? = some (.dict kvs)) (hy : isKey y = true) (hl : kvs.length < sizeLine) : wp (putD 0 y v) ⟨some (.ext k) :: ρ, μ⟩ X = X .nx ⟨some (.ext k) :: ρ, μ.set k (.dict (putIn kvs y v))⟩ := put_ext rfl h hy hl
theorem gset (h : k < μ.length) : (μ.set k d)[k]? = some d := List.getElem?_set_self h
theorem chk0s (h : k < μ.length) : wp (chkD 0) ⟨some (.ext k) :: ρ, μ.set k (.dict kvs)⟩ U = U () ⟨some (.ext k) :: ρ, μ.set k (.dict kvs)⟩ := chk0 (gset h)
theorem put0s (h : k < μ.length) (hy : isKey y = true) (hl : kvs.length < sizeLine) : wp (putD 0 y v) ⟨some (.ext k) :: ρ, μ.set k (.dict kvs)⟩ X = X .nx ⟨some (.ext k) :: ρ, μ.set k (.dict (putIn kvs y v))⟩ := by
  rw [put0 (gset h) hy hl, List.set_set]
theorem peeks_ (h : k < μ.length) : wp (peekM (.ext k)) ⟨ρ, μ.set k d⟩ Q = Q d ⟨ρ, μ.set k d⟩ := peek_ext (gset h)
end
end Ded
end

section
set_option linter.all false
set_option maxRecDepth 100000
/-! Calls and comprehensions, one step after another. -/
namespace Ded
open PySem
/-- a call's end -/
def wpc (r : R Val) (P : Val → List D → Prop) : Prop := match r with
  | .ok v t => P v t.μ
  | _ => False
theorem wpc_ok {r : R Val} {P : Val → List D → Prop} (h : wpc r P) : ∃ v t, r = .ok v t ∧ P v t.μ := by
  unfold wpc at h
  cases r with
  | ok v t => exact ⟨v, t, rfl, h⟩
  | exc _ _ _ => exact h.elim
  | bad => exact h.elim
theorem wpc_mono {r : R Val} {P Q : Val → List D → Prop} (h : wpc r P) (q : ∀ v μ, P v μ → Q v μ) : wpc r Q := by
  obtain ⟨v, t, rfl, z⟩ := wpc_ok h
  exact q _ _ z
section
variable {cd : Nat → List Val → List D → R Val} {s : S} {P : Val → S → Prop} {g : Nat}
def callK (cd : Nat → List Val → List D → R Val) (g : Nat) (s : S) (P : Val → S → Prop) : Option (List Val) → Prop
  | none => False
  | some us => wpc (cd g us s.μ) fun v μ => P v ⟨s.ρ, μ⟩
theorem wp_call {m : M (List Val)} : wp (mCall cd g m) s P = wp m s fun vs t => callK cd g t P (solveAll t vs) := by
  unfold mCall
  rw [wp_bind]
  congr 1
  funext vs t
  unfold wp callK wpc
  dsimp only
  cases h : solveAll t vs with
  | none => simp only
  | some us =>
    simp only
    cases cd g us t.μ <;> rfl
theorem argv_dat {d : D} : wp (argV (.dat d)) s P = P (.dat d) s := rfl
theorem argv_own {d : D} : wp (argV (.own d)) s P = P (.dat d) s := rfl
theorem argv_ext {k : Nat} : wp (argV (.ext k)) s P = P (.ext k) s := rfl
def argK (P : Val → S → Prop) (i : Nat) (s : S) : Option Val → Prop
  | some (.own d) => P (.dat d) (setSlot s i (.dat d))
  | _ => False
theorem argv_loc {i : Nat} {ρ : List (Option Val)} {μ : List D} : wp (argV (.loc i)) ⟨ρ, μ⟩ P = argK P i ⟨ρ, μ⟩ (ρ[i]?).join := by
  unfold wp argV argK
  dsimp only
  rw [slot_mk]
  cases (ρ[i]?).join with
  | none => rfl
  | some v => cases v <;> rfl
def lendK (P : Val → S → Prop) (i : Nat) (s : S) : Option Val → Prop
  | some (.own d) => P (.ext s.μ.length) ⟨s.ρ.set i (some (.ext s.μ.length)), s.μ ++ [d]⟩
  | some (.ext k) => P (.ext k) s
  | some (.scr ns) => P (.scr ns) s
  | _ => False
theorem wp_lend {i : Nat} {ρ : List (Option Val)} {μ : List D} : wp (mLend i) ⟨ρ, μ⟩ P = lendK P i ⟨ρ, μ⟩ (ρ[i]?).join := by
  unfold wp mLend lendK
  rw [slot_mk]
  cases (ρ[i]?).join with
  | none => rfl
  | some v => cases v <;> rfl
theorem solve_nil : solveAll s [] = some [] := rfl
theorem solve_dat {d : D} {vs : List Val} : solveAll s (.dat d :: vs) = (solveAll s vs).map (.dat d :: ·) := by
  show (match solve s (.dat d), solveAll s vs with
    | some u, some us => some (u :: us)
    | _, _ => none) = _
  cases solveAll s vs <;> rfl
theorem solve_ext {k : Nat} {vs : List Val} : solveAll s (.ext k :: vs) = (solveAll s vs).map (.ext k :: ·) := by
  show (match solve s (.ext k), solveAll s vs with
    | some u, some us => some (u :: us)
    | _, _ => none) = _
  cases solveAll s vs <;> rfl
theorem solve_scr {k : List Int} {vs : List Val} : solveAll s (.scr k :: vs) = (solveAll s vs).map (.scr k :: ·) := by
  show (match solve s (.scr k), solveAll s vs with
    | some u, some us => some (u :: us)
    | _, _ => none) = _
  cases solveAll s vs <;> rfl
/-- a def's body -/
def endK (P : Val → List D → Prop) : Flow → S → Prop := fun f t => match f with
  | .rt v => P v t.μ
  | .nx => P (.dat .none) t.μ
  | _ => False
theorem wpc_call {Ds : List Def} {L n g : Nat} {d : Def} {vs : List Val} {μ : List D} {P : Val → List D → Prop} (e : Ds[g]? = some d) (hl : vs.length = d.pars) (h : wp (run (callD Ds L n) L d.body) ⟨vs.map some ++ List.replicate (d.slots - vs.length) none, μ⟩ (endK P)) : wpc (callD Ds L (n + 1) g vs μ) P := by
  obtain ⟨f, t, er, z⟩ := wp_ok h
  unfold callD wpc
  rw [e]
  dsimp only
  rw [if_pos hl, er]
  cases f <;> exact z
/-! ### comprehensions -/
theorem wp_loop {turn : D → M (Option D)} (I : S → Prop) (R : D → Option D → Prop) : ∀ (ds : List D) {s : S}, I s → (∀ d ∈ ds, ∀ s, I s → wp (turn d) s fun o t => I t ∧ R d o) → wp (lcLoop turn ds) s fun ys t => I t ∧ ∃ os : List (Option D), ys = os.filterMap id ∧ os.length = ds.length ∧ ∀ (i : Nat) (d : D) (o : Option D), ds[i]? = some d → os[i]? = some o → R d o
  | [], s, hI, _ => ⟨hI, [], rfl, rfl, fun i d o h => by simp at h⟩
  | d :: ds, s, hI, h => by
    rw [lcLoop, wp_bind]
    refine wp_mono (h d List.mem_cons_self s hI) fun o t ⟨hI2, hr⟩ => ?_
    rw [wp_bind]
    refine wp_mono (wp_loop I R ds hI2 fun d hd => h d (List.mem_cons_of_mem _ hd)) fun ys t2 ⟨hI3, os, e1, e2, e3⟩ => ?_
    refine ⟨hI3, o :: os, ?_, by rw [List.length_cons, List.length_cons, e2], fun i d' o' h1 h2 => ?_⟩
    · subst e1
      cases o <;> rfl
    · cases i with
      | zero => cases h1; cases h2; exact hr
      | succ i => exact e3 i d' o' (by simpa using h1) (by simpa using h2)
/-- each element's part is told by its datum alone, the state stays -/
theorem wp_loop_pure {turn : D → M (Option D)} (f : D → Option D) (s : S) : ∀ (ds : List D), (∀ d ∈ ds, turn d s = .ok (f d) s) → lcLoop turn ds s = .ok (ds.filterMap f) s
  | [], _ => rfl
  | d :: ds, h => by
    rw [lcLoop]
    unfold M.bind
    rw [h d List.mem_cons_self]
    dsimp only
    rw [wp_loop_pure f s ds fun d hd => h d (List.mem_cons_of_mem _ hd)]
    rw [List.filterMap_cons]
    cases f d <;> rfl
theorem wp_lc {m : M Val} {g : D → M Unit} {w : M (List D)} {c : M Bool} {vs : List Nat} : wp (mLc m g w c vs) s P = wp w s fun ds s1 => wp (lcLoop (lcTurn g c m vs) ds) ⟨wipe s1.ρ vs, s1.μ⟩ fun ys t => (ys.length ≤ sizeLine ∧ restOk s1.ρ vs = true) ∧ P (.own (.list ys)) ⟨putBack s1.ρ t.ρ vs, t.μ⟩ := by
  unfold mLc
  rw [wp_bind]
  congr 1
  funext ds s1
  unfold wp
  dsimp only
  cases lcLoop (lcTurn g c m vs) ds ⟨wipe s1.ρ vs, s1.μ⟩ with
  | ok ys t =>
    simp only
    by_cases h : ys.length ≤ sizeLine ∧ restOk s1.ρ vs = true
    · rw [if_pos h]; simp [h]
    · rw [if_neg h]; simp [h]
  | exc _ _ _ => rfl
  | bad => rfl
theorem wp_wipe {vs : List Nat} {U : Unit → S → Prop} : wp (mWipe vs) s U = U () ⟨wipe s.ρ vs, s.μ⟩ := rfl
theorem wp_turn {m : M Val} {g : D → M Unit} {c : M Bool} {vs : List Nat} {d : D} {O : Option D → S → Prop} : wp (lcTurn g c m vs d) s O = wp (g d) s fun _ s1 => wp c s1 fun b s2 => (b = true → wp (mFrz m) s2 fun y t => O (some y) ⟨wipe t.ρ vs, t.μ⟩) ∧ (b = false → O none ⟨wipe s2.ρ vs, s2.μ⟩) := by
  unfold lcTurn
  simp only [wp_bind, wp_ifb, wp_wipe, wp_ret]
theorem eq_of_wp {α : Type} {m : M α} {a : α} {s t : S} (h : wp m s fun b u => b = a ∧ u = t) : m s = .ok a t := by
  obtain ⟨b, u, e, rfl, rfl⟩ := wp_ok h
  exact e
theorem wp_gvar {i : Nat} {d : D} {U : Unit → S → Prop} : wp (gVar i d) s U = wp (putSlot i (.dat d)) s U := rfl
theorem wp_wof {m : M Val} {W : List D → S → Prop} : wp (wOf m) s W = wp (mFrz m) s fun x t => wp (M.opt (itemsOf x)) t W := wp_bind
theorem wp_chn {o o' : Cop} {m n l : M Val} : wp (mChn o o' m n l) s P = wp (mOpd m) s fun u s1 => wp (mOpd n) s1 fun v s2 => wp (peekM u) s2 fun x s3 => wp (peekM v) s3 fun y s4 => wp (M.opt (cmpD o x y)) s4 fun r s5 => (r = true → wp (mOpd l) s5 fun w s6 => wp (peekM v) s6 fun y s7 => wp (peekM w) s7 fun z s8 => wp (M.opt (cmpD o' y z)) s8 fun r' s9 => P (.dat (.bool r')) s9) ∧ (r = false → P (.dat (.bool false)) s5) := by
  unfold mChn
  simp only [wp_bind, wp_ifb, wp_ret]
/-- a comprehension of one name, whose parts hang on the datum alone -/
theorem lc1 {ρ : List (Option Val)} {μ : List D} {i : Nat} {m : M Val} {w : M (List D)} {c : M Bool} {ds : List D} (f : D → Option D) (hw : wp w ⟨ρ, μ⟩ fun ds' t => ds' = ds ∧ t = ⟨ρ, μ⟩) (hi : i < ρ.length) (hset : ρ.set i none = ρ) (hl : (ds.filterMap f).length ≤ sizeLine)
    (h : ∀ d ∈ ds, wp c ⟨ρ.set i (some (.dat d)), μ⟩ fun b s2 => (b = true → wp (mFrz m) s2 fun y t => f d = some y ∧ t = ⟨ρ.set i (some (.dat d)), μ⟩) ∧ (b = false → f d = none ∧ s2 = ⟨ρ.set i (some (.dat d)), μ⟩)) :
    wp (mLc m (gVar i) w c [i]) ⟨ρ, μ⟩ fun v t => v = .own (.list (ds.filterMap f)) ∧ t = ⟨ρ, μ⟩ := by
  have hn : ρ[i]? = some none := by
    rw [← hset, List.getElem?_set_self hi]
  have hw1 : wipe ρ [i] = ρ := hset
  have hw2 : ∀ d, wipe (ρ.set i (some (Val.dat d))) [i] = ρ := fun d => by
    show ((ρ.set i (some (Val.dat d))).set i none) = ρ
    rw [List.set_set, hset]
  rw [wp_lc]
  refine wp_mono hw ?_
  rintro ds' t ⟨rfl, rfl⟩
  rw [hw1]
  refine wp_of (wp_loop_pure f _ ds' fun d hd => eq_of_wp ?_) ⟨⟨hl, ?_⟩, rfl, ?_⟩
  · rw [wp_turn, wp_gvar, wp_slot]
    refine ⟨hi, wp_mono (h d hd) fun b s2 ⟨h1, h2⟩ => ⟨fun e => wp_mono (h1 e) ?_, fun e => ?_⟩⟩
    · rintro y t ⟨e1, rfl⟩
      exact ⟨e1.symm, by dsimp only; rw [hw2]⟩
    · obtain ⟨e1, rfl⟩ := h2 e
      exact ⟨e1.symm, by dsimp only; rw [hw2]⟩
  · show restOk ρ [i] = true
    unfold restOk
    rw [List.all_cons, hn]
    rfl
  · show (⟨putBack ρ ρ [i], μ⟩ : S) = _
    have : putBack ρ ρ [i] = ρ := by
      show ρ.set i ((ρ[i]?).join) = ρ
      rw [hn]
      exact hset
    rw [this]
/-- a comprehension whose parts hang on the datum alone -/
theorem lcg {ρ : List (Option Val)} {μ : List D} {vs : List Nat} {m : M Val} {g : D → M Unit} {w : M (List D)} {c : M Bool} {ds : List D} (f : D → Option D) (hw : wp w ⟨ρ, μ⟩ fun ds' t => ds' = ds ∧ t = ⟨ρ, μ⟩) (h1 : wipe ρ vs = ρ) (h2 : restOk ρ vs = true) (h3 : putBack ρ ρ vs = ρ) (hl : (ds.filterMap f).length ≤ sizeLine)
    (h : ∀ d ∈ ds, wp (lcTurn g c m vs d) ⟨ρ, μ⟩ fun o t => o = f d ∧ t = ⟨ρ, μ⟩) : wp (mLc m g w c vs) ⟨ρ, μ⟩ fun v t => v = .own (.list (ds.filterMap f)) ∧ t = ⟨ρ, μ⟩ := by
  rw [wp_lc]
  refine wp_mono hw ?_
  rintro ds' t ⟨rfl, rfl⟩
  rw [h1]
  refine wp_of (wp_loop_pure f _ ds' fun d hd => eq_of_wp (h d hd)) ⟨⟨hl, h2⟩, rfl, ?_⟩
  dsimp only
  rw [h3]
theorem wp_gtupL {gs : List D → M Unit} {ds : List D} {U : Unit → S → Prop} : wp (gTup' gs (.list ds)) s U = wp (gs ds) s U := rfl
theorem wp_gtup {gs : List D → M Unit} {ds : List D} {U : Unit → S → Prop} : wp (gTup' gs (.tuple ds)) s U = wp (gs ds) s U := rfl
theorem wp_gcons {g : D → M Unit} {gs : List D → M Unit} {d : D} {ds : List D} {U : Unit → S → Prop} : wp (gCons' g gs (d :: ds)) s U = wp (g d) s fun _ t => wp (gs ds) t U := wp_bind
theorem wp_gnil {U : Unit → S → Prop} : wp (gNil' []) s U = U () s := rfl
theorem wp_zip {m : M (List D)} {W : List D → S → Prop} : wp (wZip m) s W = wp m s fun l t => wp (M.opt (zipD l)) t W := wp_bind
theorem wp_range {m : M (List Val)} {W : List D → S → Prop} : wp (wRange m) s W = wp m s fun vs t => wp (peeks vs) t fun ds t => wp (M.opt (rangeD ds)) t W := by
  unfold wRange
  simp only [wp_bind]
theorem wp_sli {m : M Val} {lo hi : M (Option Int)} : wp (mSli m lo hi) s P = wp (mOpd m) s fun u s1 => wp lo s1 fun i s2 => wp hi s2 fun j s3 => wp (peekM u) s3 fun x s4 => wp (M.opt (sliD x i j)) s4 P := by
  unfold mSli
  simp only [wp_bind]
theorem wp_oint {m : M Val} {i : Int} {O : Option Int → S → Prop} (h : wp m s fun v t => v = .dat (.int i) ∧ t = s) : wp (mOInt m) s O = O (some i) s := by
  obtain ⟨v, t, e, rfl, rfl⟩ := wp_ok h
  unfold mOInt mOpd
  rw [wp_bind, wp_bind]
  unfold wp
  rw [e]
  rfl
theorem oint_cst {i : Int} {O : Option Int → S → Prop} : wp (mOInt (M.ret (.dat (.int i)))) s O = O (some i) s := rfl
end
end Ded
end

section
set_option linter.all false
set_option maxRecDepth 100000
set_option maxHeartbeats 1000000
/-! Loops and comprehensions that draw: the state outside the frame changes. -/
namespace Ded
open PySem
section
variable {α : Type} {s : S}
theorem wp_for_ {I : S → Prop} {turn : D → M Flow} : ∀ (ds : List D) {s : S}, I s → (∀ d ∈ ds, ∀ s, I s → wp (turn d) s fun f t => f = .nx ∧ I t) → wp (forLoop turn ds) s fun f t => f = .nx ∧ I t
  | [], s, hI, _ => ⟨rfl, hI⟩
  | d :: ds, s, hI, h => by
    show wp (M.bind (turn d) fun f => match f with
    | .nx => forLoop turn ds
    | .ct => forLoop turn ds
    | .bk => M.ret .nx
    | .rt v => M.ret (.rt v)) s _
    rw [wp_bind]
    refine wp_mono (h d List.mem_cons_self s hI) ?_
    rintro f t ⟨rfl, ht⟩
    exact wp_for_ ds ht fun x hx => h x (List.mem_cons_of_mem _ hx)
/-- a for whose turns keep I -/
theorem wp_kfor {I : S → Prop} {g : D → M Unit} {w : M (List D)} {b : M Flow} {Q : List D → Prop} (hw : wp w s fun ds t => Q ds ∧ I t) (h : ∀ ds, Q ds → ∀ d ∈ ds, ∀ s, I s → wp (g d) s fun _ t => wp b t fun f t => f = .nx ∧ I t) : wp (kFor g w b) s fun f t => f = .nx ∧ I t := by
  unfold kFor
  rw [wp_bind]
  refine wp_mono hw ?_
  rintro ds t ⟨q, i⟩
  refine wp_for_ ds i fun d hd s hs => ?_
  rw [wp_bind]
  exact h ds q d hd s hs
/-- one that counts: I k ahead of turn k -/
theorem wp_for_n {I : Nat → S → Prop} {turn : D → M Flow} : ∀ (ds : List D) (k : Nat) {s : S}, I k s → (∀ d ∈ ds, ∀ k s, I k s → wp (turn d) s fun f t => f = .nx ∧ I (k + 1) t) → wp (forLoop turn ds) s fun f t => f = .nx ∧ I (k + ds.length) t
  | [], k, s, hI, _ => ⟨rfl, hI⟩
  | d :: ds, k, s, hI, h => by
    show wp (M.bind (turn d) fun f => match f with
    | .nx => forLoop turn ds
    | .ct => forLoop turn ds
    | .bk => M.ret .nx
    | .rt v => M.ret (.rt v)) s _
    rw [wp_bind]
    refine wp_mono (h d List.mem_cons_self k s hI) ?_
    rintro f t ⟨rfl, ht⟩
    refine wp_mono (wp_for_n ds (k + 1) ht fun x hx => h x (List.mem_cons_of_mem _ hx)) ?_
    rintro f t ⟨e, z⟩
    refine ⟨e, ?_⟩
    rw [List.length_cons]
    have : k + (ds.length + 1) = k + 1 + ds.length := by omega
    rw [this]
    exact z
/-- one that counts, k turns at most -/
theorem wp_for_b {I : Nat → S → Prop} {turn : D → M Flow} : ∀ (ds : List D) (k : Nat) {s : S}, I k s → (∀ d ∈ ds, ∀ j, j < k + ds.length → ∀ s, I j s → wp (turn d) s fun f t => f = .nx ∧ I (j + 1) t) → wp (forLoop turn ds) s fun f t => f = .nx ∧ I (k + ds.length) t
  | [], k, s, hI, _ => ⟨rfl, hI⟩
  | d :: ds, k, s, hI, h => by
    show wp (M.bind (turn d) fun f => match f with
    | .nx => forLoop turn ds
    | .ct => forLoop turn ds
    | .bk => M.ret .nx
    | .rt v => M.ret (.rt v)) s _
    rw [wp_bind]
    refine wp_mono (h d List.mem_cons_self k (by rw [List.length_cons]; omega) s hI) ?_
    rintro f t ⟨rfl, ht⟩
    refine wp_mono (wp_for_b ds (k + 1) ht fun x hx j hj => h x (List.mem_cons_of_mem _ hx) j (by rw [List.length_cons]; omega)) ?_
    rintro f t ⟨e, z⟩
    refine ⟨e, ?_⟩
    rw [List.length_cons]
    have : k + (ds.length + 1) = k + 1 + ds.length := by omega
    rw [this]
    exact z
/-- each turn gives one element, that has R -/
theorem wp_loop_all {turn : D → M (Option D)} (I : S → Prop) (R : D → Prop) : ∀ (ds : List D) {s : S}, I s → (∀ d ∈ ds, ∀ s, I s → wp (turn d) s fun o t => (∃ y, o = some y ∧ R y) ∧ I t) → wp (lcLoop turn ds) s fun ys t => (ys.length = ds.length ∧ ∀ y ∈ ys, R y) ∧ I t
  | [], s, hI, _ => ⟨⟨rfl, fun y hy => by cases hy⟩, hI⟩
  | d :: ds, s, hI, h => by
    rw [lcLoop, wp_bind]
    refine wp_mono (h d List.mem_cons_self s hI) ?_
    rintro o t ⟨⟨y, rfl, hy⟩, ht⟩
    rw [wp_bind]
    refine wp_mono (wp_loop_all I R ds ht fun x hx => h x (List.mem_cons_of_mem _ hx)) ?_
    rintro ys t ⟨⟨hl, hr⟩, ht⟩
    rw [wp_ret]
    refine ⟨⟨?_, fun z hz => ?_⟩, ht⟩
    · simp only [List.length_cons, hl]
    · rcases List.mem_cons.mp hz with e | e
      · exact e ▸ hy
      · exact hr z e
/-- a comprehension that draws: the frame stays, I holds of the rest -/
theorem lcn {ρ : List (Option Val)} {μ : List D} {vs : List Nat} {m : M Val} {g : D → M Unit} {w : M (List D)} {c : M Bool} (I : List D → Prop) (R : D → Prop) (Q : List D → Prop) (hw : wp w ⟨ρ, μ⟩ fun ds t => Q ds ∧ t.ρ = ρ ∧ I t.μ) (h1 : wipe ρ vs = ρ) (h2 : restOk ρ vs = true) (h3 : putBack ρ ρ vs = ρ) (hl : ∀ ds, Q ds → ds.length ≤ sizeLine)
    (h : ∀ ds, Q ds → ∀ d ∈ ds, ∀ μ, I μ → wp (lcTurn g c m vs d) ⟨ρ, μ⟩ fun o t => (∃ y, o = some y ∧ R y) ∧ t.ρ = ρ ∧ I t.μ) : wp (mLc m g w c vs) ⟨ρ, μ⟩ fun v t => ∃ ds ys μ', v = .own (.list ys) ∧ t = ⟨ρ, μ'⟩ ∧ I μ' ∧ Q ds ∧ ys.length = ds.length ∧ ∀ y ∈ ys, R y := by
  rw [wp_lc]
  refine wp_mono hw ?_
  rintro ds ⟨ρ', μ'⟩ ⟨q, rfl, i⟩
  dsimp only at h1 h2 h3 h hw ⊢
  rw [h1]
  refine wp_mono (wp_loop_all (fun t => t.ρ = ρ' ∧ I t.μ) R ds ⟨rfl, i⟩ ?_) ?_
  · rintro d hd ⟨ρ2, μ2⟩ ⟨e, i2⟩
    dsimp only at e i2
    subst e
    exact h ds q d hd μ2 i2
  · rintro ys ⟨ρ2, μ2⟩ ⟨⟨hy, hr⟩, e, i2⟩
    dsimp only at e i2 ⊢
    subst e
    refine ⟨⟨by rw [hy]; exact hl ds q, h2⟩, ds, ys, μ2, rfl, ?_, i2, q, hy, hr⟩
    rw [h3]
/-- lc1 from another state -/
theorem lc1s {s0 : S} {ρ : List (Option Val)} {μ : List D} {i : Nat} {m : M Val} {w : M (List D)} {c : M Bool} {ds : List D} (f : D → Option D) (hw : wp w s0 fun ds' t => ds' = ds ∧ t = ⟨ρ, μ⟩) (hi : i < ρ.length) (hset : ρ.set i none = ρ) (hl : (ds.filterMap f).length ≤ sizeLine)
    (h : ∀ d ∈ ds, wp c ⟨ρ.set i (some (.dat d)), μ⟩ fun b s2 => (b = true → wp (mFrz m) s2 fun y t => f d = some y ∧ t = ⟨ρ.set i (some (.dat d)), μ⟩) ∧ (b = false → f d = none ∧ s2 = ⟨ρ.set i (some (.dat d)), μ⟩)) :
    wp (mLc m (gVar i) w c [i]) s0 fun v t => v = .own (.list (ds.filterMap f)) ∧ t = ⟨ρ, μ⟩ := by
  have z := lc1 (w := M.ret ds) (m := m) (c := c) f (μ := μ) ⟨rfl, rfl⟩ hi hset hl h
  rw [wp_lc, wp_ret] at z
  rw [wp_lc]
  refine wp_mono hw ?_
  rintro ds' t ⟨rfl, rfl⟩
  exact z
theorem wp_seq {m k : M Flow} {X : Flow → S → Prop} {I : S → Prop} (h : wp m s fun f t => f = .nx ∧ I t) (h2 : ∀ t, I t → wp k t X) : wp (thenK m k) s X := by
  rw [wp_then]
  refine wp_mono h ?_
  rintro f t ⟨rfl, ht⟩
  exact h2 t ht
/-- the same, never looked into -/
@[irreducible] def wpI {α : Type} (m : M α) (s : S) (P : α → S → Prop) : Prop := wp m s P
theorem wpI_eq {α : Type} {m : M α} {s : S} {P : α → S → Prop} : wpI m s P = wp m s P := by
  unfold wpI
  rfl
theorem wpI_seq {m k : M Flow} {X : Flow → S → Prop} {I : S → Prop} (h : wpI m s fun f t => f = .nx ∧ I t) (h2 : ∀ t, I t → wpI k t X) : wpI (thenK m k) s X := by
  rw [wpI_eq] at h ⊢
  exact wp_seq h fun t ht => by
    have := h2 t ht
    rwa [wpI_eq] at this
theorem wpI_mono {α : Type} {m : M α} {P Q : α → S → Prop} (h : wpI m s P) (q : ∀ a t, P a t → Q a t) : wpI m s Q := by
  rw [wpI_eq] at h ⊢
  exact wp_mono h q
theorem wpI_for {I : S → Prop} {turn : D → M Flow} {ds : List D} (hI : I s) (h : ∀ d ∈ ds, ∀ s, I s → wp (turn d) s fun f t => f = .nx ∧ I t) : wpI (forLoop turn ds) s fun f t => f = .nx ∧ I t := by
  rw [wpI_eq]
  exact wp_for_ ds hI h
theorem wpI_for_b {I : Nat → S → Prop} {turn : D → M Flow} {ds : List D} {k : Nat} (hI : I k s) (h : ∀ d ∈ ds, ∀ j, j < k + ds.length → ∀ s, I j s → wp (turn d) s fun f t => f = .nx ∧ I (j + 1) t) : wpI (forLoop turn ds) s fun f t => f = .nx ∧ I (k + ds.length) t := by
  rw [wpI_eq]
  exact wp_for_b ds k hI h
theorem wp_ite_ {t : M Bool} {a b : M Flow} {X : Flow → S → Prop} (h : wp t s fun x s1 => (x = true → wp a s1 X) ∧ (x = false → wp b s1 X)) : wp (kIte t a b) s X := by
  rw [wp_kite]
  refine wp_mono h ?_
  rintro x t ⟨h1, h2⟩
  rw [wp_ifb]
  exact ⟨h1, h2⟩
end
section
variable {s : S} {P : Val → S → Prop} {ρ : List (Option Val)} {μ : List D}
theorem wp_dct {m : M (List (D × D))} : wp (mDct m) s P = wp m s fun ps t => ps.length ≤ 15 ∧ P (.own (.dict (ps.foldl (fun acc p => putIn acc p.1 p.2) []))) t := by
  unfold mDct
  rw [wp_bind]
  congr 1
  funext ps t
  by_cases h : ps.length ≤ 15
  · rw [if_pos h, wp_ret]; simp [h]
  · rw [if_neg h, wp_bad]; simp [h]
theorem wp_lkv {a b : M Val} {l : M (List (D × D))} {A : List (D × D) → S → Prop} : wp (lKv a b l) s A = wp (mFrz a) s fun x s1 => wp (mFrz b) s1 fun y s2 => wp l s2 fun ps s3 => isKey x = true ∧ A ((x, y) :: ps) s3 := by
  unfold lKv
  simp only [wp_bind]
  congr 1; funext x s1; congr 1; funext y s2; congr 1; funext ps s3
  cases h : isKey x <;> simp [wp_bad, wp_ret]
def slsK (lo hi : Option Int) (P : Val → S → Prop) (s : S) : Option Val → Prop
  | some (.scr ns) => ns.length ≤ sizeLine ∧ P (.own (.list ((cutL ns lo hi).map .int))) s
  | _ => False
theorem wp_sls {i : Nat} {lo hi : Option Int} : wp (mSls i lo hi) ⟨ρ, μ⟩ P = slsK lo hi P ⟨ρ, μ⟩ (ρ[i]?).join := by
  unfold wp mSls slsK
  rw [slot_mk]
  cases (ρ[i]?).join with
  | none => rfl
  | some v =>
    cases v with
    | scr ns =>
      dsimp only
      by_cases h : ns.length ≤ sizeLine
      · rw [if_pos h]; simp [h]
      · rw [if_neg h]; simp [h]
    | _ => rfl
theorem wp_rev {m : M Val} : wp (mRev m) s P = wp (mOne m revD) s P := rfl
theorem wp_kfor_ {g : D → M Unit} {w : M (List D)} {b : M Flow} {X : Flow → S → Prop} : wp (kFor g w b) s X = wp w s fun ds t => wp (forLoop (fun d => M.bind (g d) fun _ => b) ds) t X := wp_bind
theorem wp_asg {g : D → M Unit} {m : M Val} {X : Flow → S → Prop} : wp (kAsg g m) s X = wp (mFrz m) s fun d t => wp (g d) t fun _ t => X .nx t := by
  unfold kAsg
  simp only [wp_bind, wp_ret]
theorem wp_dot {k : D → Bool} {m : M Val} : wp (mDot k m) s P = wp (mOpd m) s fun u s1 => wp (peekM u) s1 fun x s2 => k x = true ∧ P u s2 := by
  unfold mDot
  simp only [wp_bind]
  congr 1; funext u s1; congr 1; funext x s2
  cases h : k x <;> simp [wp_bad, wp_ret]
theorem wp_join {m n : M Val} : wp (mJoin m n) s P = wp (mDot isStrD m) s fun u s1 => wp (mOpd n) s1 fun v s2 => wp (peekM u) s2 fun x s3 => wp (peekM v) s3 fun y s4 => wp (M.opt (gJoin x y)) s4 P := by
  unfold mJoin
  simp only [wp_bind]
def ointK (O : Option Int → S → Prop) (s : S) : D → Prop
  | .int i => O (some i) s
  | _ => False
theorem wp_ointg {m : M Val} {O : Option Int → S → Prop} : wp (mOInt m) s O = wp (mOpd m) s fun u s1 => wp (peekM u) s1 fun x s2 => ointK O s2 x := by
  unfold mOInt
  simp only [wp_bind]
  congr 1; funext u s1; congr 1; funext x s2
  cases x <;> simp [wp_bad, wp_ret, ointK]
def chkK (U : Unit → S → Prop) (s : S) : Option Val → Prop
  | some (.own (.list _)) => U () s
  | some (.ext k) => ∃ xs, s.μ[k]? = some (.list xs) ∧ U () s
  | _ => False
theorem wp_chkl {i : Nat} {U : Unit → S → Prop} : wp (chkL i) ⟨ρ, μ⟩ U = chkK U ⟨ρ, μ⟩ (ρ[i]?).join := by
  unfold wp chkL chkK
  rw [slot_mk]
  cases (ρ[i]?).join with
  | none => rfl
  | some v =>
    cases v with
    | own d => cases d <;> rfl
    | ext k =>
      dsimp only
      cases h : μ[k]? with
      | none => simp
      | some d => cases d <;> simp
    | _ => rfl
def putO (i : Nat) (P : Val → S → Prop) (s : S) : Option (List D × D) → Prop
  | some p => P (.dat p.2) (setSlot s i (.own (.list p.1)))
  | none => False
theorem putO_ite {i : Nat} {c : Prop} [Decidable c] {p : List D × D} : putO i P s (if c then some p else none) = (c ∧ P (.dat p.2) (setSlot s i (.own (.list p.1)))) := by
  by_cases h : c <;> simp [h, putO]
theorem putO_some {i : Nat} {p : List D × D} : putO i P s (some p) = P (.dat p.2) (setSlot s i (.own (.list p.1))) := rfl
def putK (i : Nat) (f : List D → Option (List D × D)) (P : Val → S → Prop) (s : S) : Option Val → Prop
  | some (.own (.list xs)) => putO i P s (f xs)
  | some (.ext k) => ∃ xs ys d, s.μ[k]? = some (.list xs) ∧ f xs = some (ys, d) ∧ P (.dat d) { s with μ := s.μ.set k (.list ys) }
  | _ => False
theorem wp_putl {i : Nat} {f : List D → Option (List D × D)} : wp (putL i f) ⟨ρ, μ⟩ P = putK i f P ⟨ρ, μ⟩ (ρ[i]?).join := by
  unfold wp putL putK putO
  rw [slot_mk]
  cases (ρ[i]?).join with
  | none => rfl
  | some v =>
    cases v with
    | own d =>
      cases d with
      | list xs =>
        dsimp only
        cases f xs <;> rfl
      | _ => rfl
    | ext k =>
      dsimp only
      cases h : μ[k]? with
      | none => simp
      | some d =>
        cases d with
        | list xs =>
          dsimp only
          cases h2 : f xs with
          | none => simp [h2]
          | some p => 
            obtain ⟨p1, p2⟩ := p
            simp only [h2, Option.some.injEq, Prod.mk.injEq]
            exact propext ⟨fun h => ⟨xs, p1, p2, rfl, h2, h⟩, fun ⟨xs', y, z, e1, e2, e3⟩ => by
              subst_vars
              simp_all⟩
        | _ => simp
    | _ => rfl
theorem wp_app {i : Nat} {m : M Val} : wp (mApp i m) s P = wp (chkL i) s fun _ s1 => wp (mFrz m) s1 fun d s2 => wp (putL i (appF d)) s2 P := by
  unfold mApp
  simp only [wp_bind]
def popJ (i : Nat) (P : Val → S → Prop) (s : S) : D → Prop
  | .int j => wp (putL i (popF j)) s P
  | _ => False
theorem wp_pop1 {i : Nat} {m : M Val} : wp (mPop1 i m) s P = wp (chkL i) s fun _ s1 => wp (mOpd m) s1 fun v s2 => wp (peekM v) s2 fun x s3 => popJ i P s3 x := by
  unfold mPop1
  simp only [wp_bind]
  congr 1; funext u s1; congr 1; funext x s2; congr 1; funext y s3
  cases y <;> simp [wp_bad, popJ]
theorem app_f {d : D} {xs : List D} (h : xs.length < sizeLine) : appF d xs = some (xs ++ [d], .none) := by
  unfold appF
  rw [if_pos h]
end
theorem len_list {ds : List D} {s : S} {P : Val → S → Prop} : wp (M.opt (bltD .len [.list ds])) s P = P (.dat (.int (ds.length : Int))) s := rfl
theorem len_tup {ds : List D} {s : S} {K : Val → S → Prop} : wp (M.opt (bltD .len [.tuple ds])) s K = K (.dat (.int (ds.length : Int))) s := rfl
theorem idx_list {ds : List D} {r : Int} {e : D} {s : S} {P : Val → S → Prop} (h : L2.atI ds r = some e) : wp (M.opt ((idxD (.list ds) (.int r)).map .dat)) s P = P (.dat e) s := by
  have : idxD (.list ds) (.int r) = some e := h
  rw [this]; rfl
theorem idx_tup {ds : List D} {r : Int} {e : D} {s : S} {P : Val → S → Prop} (h : L2.atI ds r = some e) : wp (M.opt ((idxD (.tuple ds) (.int r)).map .dat)) s P = P (.dat e) s := by
  have : idxD (.tuple ds) (.int r) = some e := h
  rw [this]; rfl
theorem len_lst1 {ds : List D} : bltD .len [.list ds] = some (.dat (.int (ds.length : Int))) := rfl
theorem cmp_gt {i j : Int} : cmpD .gt (.int i) (.int j) = some (decide (j < i)) := rfl
theorem cmp_lt {i j : Int} : cmpD .lt (.int i) (.int j) = some (decide (i < j)) := rfl
theorem cmp_ge {i j : Int} : cmpD .ge (.int i) (.int j) = some (decide (j ≤ i)) := rfl
theorem cmp_le {i j : Int} : cmpD .le (.int i) (.int j) = some (decide (i ≤ j)) := rfl
theorem cmp_eqi {i j : Int} : cmpD .eq (.int i) (.int j) = some (decide (i = j)) := by
  show eqD (.int i) (.int j) = _
  show some (i == j) = some (decide (i = j))
  by_cases h : i = j <;> simp [h]
theorem sli_tup {xs : List D} {lo hi : Option Int} : sliD (.tuple xs) lo hi = some (.dat (.tuple (cutL xs lo hi))) := rfl
theorem sli_list {xs : List D} {lo hi : Option Int} : sliD (.list xs) lo hi = some (.own (.list (cutL xs lo hi))) := rfl
theorem rev_tup {xs : List D} : revD (.tuple xs) = some (.dat (.tuple xs.reverse)) := rfl
theorem add_tup {xs ys : List D} : binD .add (.tuple xs) (.tuple ys) = if xs.length + ys.length ≤ sizeLine then some (.dat (.tuple (xs ++ ys))) else none := rfl
theorem add_list {xs ys : List D} : binD .add (.list xs) (.list ys) = if xs.length + ys.length ≤ sizeLine then some (.own (.list (xs ++ ys))) else none := rfl
theorem add_str {x y : Str} : binD .add (.str x) (.str y) = if x.length + y.length ≤ sizeLine then some (.dat (.str (x ++ y))) else none := rfl
theorem add_int {i j : Int} : binD .add (.int i) (.int j) = some (.dat (.int (i + j))) := rfl
theorem sub_int {i j : Int} : binD .sub (.int i) (.int j) = some (.dat (.int (i - j))) := rfl
theorem ixn_nat {n : Nat} {j : Int} (h0 : 0 ≤ j) (h1 : j < (n : Int)) : ixAt n j = some j.toNat := by
  show L2.ixN n j = _
  unfold L2.ixN
  rw [if_pos h0, if_pos h1]
theorem pop_f {xs : List D} {j : Int} (h0 : 0 ≤ j) (h1 : j < (xs.length : Int)) : ∃ d ∈ xs, popF j xs = some (xs.eraseIdx j.toNat, d) := by
  have hj : j.toNat < xs.length := by omega
  refine ⟨xs[j.toNat], List.getElem_mem _, ?_⟩
  unfold popF
  rw [ixn_nat h0 h1]
  dsimp only
  rw [List.getElem?_eq_getElem hj]
theorem tru_bool {b : Bool} : truD (.bool b) = some b := rfl
theorem tru_int {b : Int} : truD (.int b) = some (decide (b ≠ 0)) := rfl
theorem tru_none : truD .none = some false := rfl
theorem tru_list {b : List D} : truD (.list b) = some (!b.isEmpty) := rfl
theorem tru_tup {b : List D} : truD (.tuple b) = some (!b.isEmpty) := rfl
section
variable {x : Str} {xs : List D} {i : Int}
theorem ty1 : isTy .tuple (.tuple xs) = true := rfl
theorem ty2 : isTy .tuple (.str x) = false := rfl
theorem ty3 : isTy .int (.tuple xs) = false := rfl
theorem ty4 : isTy .int (.str x) = false := rfl
theorem ty5 : isTy .str (.str x) = true := rfl
theorem ty6 : isTy .int (.int i) = true := rfl
theorem ty7 : isTy .bool (.int i) = false := rfl
theorem ty8 : isTy .tuple (.int i) = false := rfl
end
theorem sz {k : Nat} (h : k ≤ 1000) : (k ≤ sizeLine) = True := eq_true (Nat.le_trans h (by decide))
/-! slices -/
theorem cut_mem {xs : List D} {lo hi : Option Int} {d : D} (h : d ∈ cutL xs lo hi) : d ∈ xs := by
  unfold cutL at h
  exact List.mem_of_mem_drop (List.mem_of_mem_take h)
theorem cut_len {α : Type} {xs : List α} {lo hi : Option Int} : (cutL xs lo hi).length ≤ xs.length := by
  unfold cutL
  rw [List.length_take, List.length_drop]
  omega
theorem at_nat {ds : List D} {r : Int} (h0 : 0 ≤ r) (h1 : r < (ds.length : Int)) : ∃ d ∈ ds, L2.atI ds r = some d := by
  obtain ⟨j, rfl⟩ := Int.eq_ofNat_of_zero_le h0
  have hj : j < ds.length := by omega
  exact ⟨ds[j], List.getElem_mem _, L2.atI_nat (List.getElem?_eq_getElem hj)⟩
end Ded
end

section
set_option Elab.async false
set_option linter.all false
set_option maxRecDepth 100000
/-! Loops and comprehensions that know what they have gone through. -/
namespace Ded
open PySem
section
variable {s : S}
theorem wp_for_p {I : List D → S → Prop} {turn : D → M Flow} : ∀ (ds pre : List D) {s : S}, I pre s → (∀ p d q, pre ++ ds = p ++ d :: q → ∀ s, I p s → wp (turn d) s fun f t => f = .nx ∧ I (p ++ [d]) t) → wp (forLoop turn ds) s fun f t => f = .nx ∧ I (pre ++ ds) t
  | [], pre, s, hI, _ => ⟨rfl, by rw [List.append_nil]; exact hI⟩
  | d :: ds, pre, s, hI, h => by
    show wp (M.bind (turn d) fun f => match f with
    | .nx => forLoop turn ds
    | .ct => forLoop turn ds
    | .bk => M.ret .nx
    | .rt v => M.ret (.rt v)) s _
    rw [wp_bind]
    refine wp_mono (h pre d ds rfl s hI) ?_
    rintro f t ⟨rfl, ht⟩
    have e : (pre ++ [d]) ++ ds = pre ++ d :: ds := by rw [List.append_assoc]; rfl
    have z := wp_for_p ds (pre ++ [d]) ht fun p x q e' => h p x q (e ▸ e')
    rw [e] at z
    exact z
theorem wpI_for_p {I : List D → S → Prop} {turn : D → M Flow} {ds : List D} (hI : I [] s) (h : ∀ p d q, ds = p ++ d :: q → ∀ s, I p s → wp (turn d) s fun f t => f = .nx ∧ I (p ++ [d]) t) : wpI (forLoop turn ds) s fun f t => f = .nx ∧ I ds t := by
  rw [wpI_eq]
  exact wp_for_p ds [] hI h
theorem wp_loop_g {turn : D → M (Option D)} (I : List D → List D → S → Prop) : ∀ (ds pre acc : List D) {s : S}, I pre acc s → (∀ p d q acc s, pre ++ ds = p ++ d :: q → I p acc s → wp (turn d) s fun o t => I (p ++ [d]) (acc ++ o.toList) t) →
    wp (lcLoop turn ds) s fun ys t => I (pre ++ ds) (acc ++ ys) t
  | [], pre, acc, s, hI, _ => by
    show I (pre ++ []) (acc ++ []) s
    rw [List.append_nil, List.append_nil]; exact hI
  | d :: ds, pre, acc, s, hI, h => by
    rw [lcLoop, wp_bind]
    refine wp_mono (h pre d ds acc s rfl hI) ?_
    intro o t ht
    rw [wp_bind]
    have e : (pre ++ [d]) ++ ds = pre ++ d :: ds := by rw [List.append_assoc]; rfl
    have z := wp_loop_g I ds (pre ++ [d]) (acc ++ o.toList) ht fun p x q acc s e' => h p x q acc s (e ▸ e')
    rw [e] at z
    refine wp_mono z ?_
    intro ys t ht
    rw [wp_ret]
    cases o with
    | none => simpa using ht
    | some y => simpa using ht
/-- a comprehension whose turns draw -/
theorem lcg' {ρ : List (Option Val)} {s0 : S} {vs : List Nat} {m : M Val} {g : D → M Unit} {w : M (List D)} {c : M Bool} {ds : List D} (I : List D → List D → List D → Prop) (hw : wp w s0 fun ds' t => ds' = ds ∧ t.ρ = ρ ∧ I [] [] t.μ) (h1 : wipe ρ vs = ρ) (h2 : restOk ρ vs = true) (h3 : putBack ρ ρ vs = ρ) (hl : ds.length ≤ sizeLine)
    (hlen : ∀ ys μ, I ds ys μ → ys.length ≤ sizeLine)
    (h : ∀ p d q acc μ, ds = p ++ d :: q → I p acc μ → wp (lcTurn g c m vs d) ⟨ρ, μ⟩ fun o t => t.ρ = ρ ∧ I (p ++ [d]) (acc ++ o.toList) t.μ) : wp (mLc m g w c vs) s0 fun v t => ∃ ys μ', v = .own (.list ys) ∧ t = ⟨ρ, μ'⟩ ∧ I ds ys μ' := by
  rw [wp_lc]
  refine wp_mono hw ?_
  rintro ds' ⟨ρ', μ'⟩ ⟨rfl, rfl, i⟩
  dsimp only at h1 h2 h3 h i ⊢
  rw [h1]
  have z := wp_loop_g (turn := lcTurn g c m vs) (fun p acc t => t.ρ = ρ' ∧ I p acc t.μ) ds' [] [] (s := ⟨ρ', μ'⟩) ⟨rfl, i⟩ ?_
  · refine wp_mono z ?_
    rintro ys ⟨ρ2, μ2⟩ ⟨e, i2⟩
    dsimp only [List.nil_append] at e i2 ⊢
    subst e
    refine ⟨⟨hlen _ _ i2, h2⟩, ys, μ2, rfl, ?_, i2⟩
    rw [h3]
  · rintro p d q acc ⟨ρ2, μ2⟩ e ⟨er, i2⟩
    dsimp only at er i2
    subst er
    exact h p d q acc μ2 e i2
/-- the same where its names held data -/
theorem lcgw {ρ ρw : List (Option Val)} {s0 : S} {vs : List Nat} {m : M Val} {g : D → M Unit} {w : M (List D)} {c : M Bool} {ds : List D} (I : List D → List D → List D → Prop) (hw : wp w s0 fun ds' t => ds' = ds ∧ t.ρ = ρ ∧ I [] [] t.μ) (h1 : wipe ρ vs = ρw) (h2 : restOk ρ vs = true) (h3 : putBack ρ ρw vs = ρ) (hl : ds.length ≤ sizeLine)
    (hlen : ∀ ys μ, I ds ys μ → ys.length ≤ sizeLine)
    (h : ∀ p d q acc μ, ds = p ++ d :: q → I p acc μ → wp (lcTurn g c m vs d) ⟨ρw, μ⟩ fun o t => t.ρ = ρw ∧ I (p ++ [d]) (acc ++ o.toList) t.μ) : wp (mLc m g w c vs) s0 fun v t => ∃ ys μ', v = .own (.list ys) ∧ t = ⟨ρ, μ'⟩ ∧ I ds ys μ' := by
  rw [wp_lc]
  refine wp_mono hw ?_
  rintro ds' ⟨ρ', μ'⟩ ⟨rfl, rfl, i⟩
  dsimp only at h1 h2 h3 h i ⊢
  rw [h1]
  have z := wp_loop_g (turn := lcTurn g c m vs) (fun p acc t => t.ρ = ρw ∧ I p acc t.μ) ds' [] [] (s := ⟨ρw, μ'⟩) ⟨rfl, i⟩ ?_
  · refine wp_mono z ?_
    rintro ys ⟨ρ2, μ2⟩ ⟨e, i2⟩
    dsimp only [List.nil_append] at e i2 ⊢
    subst e
    refine ⟨⟨hlen _ _ i2, h2⟩, ys, μ2, rfl, ?_, i2⟩
    rw [h3]
  · rintro p d q acc ⟨ρ2, μ2⟩ e ⟨er, i2⟩
    dsimp only at er i2
    subst er
    exact h p d q acc μ2 e i2
end
end Ded
end

section
set_option Elab.async false
set_option linter.all false
set_option maxRecDepth 100000
/-! Stars, and comprehensions of dicts. -/
namespace Ded
open PySem
section
variable {s : S} {P : Val → S → Prop}
theorem wp_lstar {m : M Val} {l : M (List D)} {A : List D → S → Prop} : wp (lStar m l) s A = wp (mFrz m) s fun x s1 => wp (M.opt (starOf x)) s1 fun ys s2 => wp l s2 fun xs s3 => A (ys ++ xs) s3 := by
  unfold lStar
  simp only [wp_bind, wp_ret]
theorem wp_dlc {mk mv : M Val} {g : D → M Unit} {w : M (List D)} {c : M Bool} {vs : List Nat} : wp (mDlc mk mv g w c vs) s P = wp w s fun ds s1 => wp (lcLoop (dcTurn g c mk mv vs) ds) ⟨wipe s1.ρ vs, s1.μ⟩ fun ps t => (ps.length ≤ sizeLine ∧ restOk s1.ρ vs = true) ∧ P (.own (.dict (dictOf ps))) ⟨putBack s1.ρ t.ρ vs, t.μ⟩ := by
  unfold mDlc
  rw [wp_bind]
  congr 1
  funext ds s1
  unfold wp
  dsimp only
  cases lcLoop (dcTurn g c mk mv vs) ds ⟨wipe s1.ρ vs, s1.μ⟩ with
  | ok ps t =>
    simp only
    by_cases h : ps.length ≤ sizeLine ∧ restOk s1.ρ vs = true
    · rw [if_pos h]; simp [h]
    · rw [if_neg h]; simp [h]
  | exc c fs t => simp
  | bad => simp
theorem wp_loop_pure' {α : Type} (f : D → Option α) (turn : D → M (Option α)) : ∀ (ds : List D) {s : S}, (∀ d ∈ ds, turn d s = .ok (f d) s) → lcLoop turn ds s = .ok (ds.filterMap f) s
  | [], s, _ => rfl
  | d :: ds, s, h => by
    have e := h d List.mem_cons_self
    have r := wp_loop_pure' f turn ds (s := s) fun x hx => h x (List.mem_cons_of_mem _ hx)
    rw [lcLoop]
    unfold M.bind
    rw [e]
    dsimp only
    rw [r]
    cases hf : f d with
    | none => rw [List.filterMap_cons, hf]; rfl
    | some y => rw [List.filterMap_cons, hf]; rfl
/-- a loop that may end in a return -/
theorem wp_for_r {I : List D → S → Prop} {Rr : Flow → S → Prop} {turn : D → M Flow} : ∀ (ds pre : List D) {s : S}, I pre s → (∀ p d q, pre ++ ds = p ++ d :: q → ∀ s, I p s → wp (turn d) s fun f t => (f = .nx ∧ I (p ++ [d]) t) ∨ ((∃ v, f = .rt v) ∧ Rr f t)) →
    wp (forLoop turn ds) s fun f t => (f = .nx ∧ I (pre ++ ds) t) ∨ ((∃ v, f = .rt v) ∧ Rr f t)
  | [], pre, s, hI, _ => .inl ⟨rfl, by rw [List.append_nil]; exact hI⟩
  | d :: ds, pre, s, hI, h => by
    show wp (M.bind (turn d) fun f => match f with
    | .nx => forLoop turn ds
    | .ct => forLoop turn ds
    | .bk => M.ret .nx
    | .rt v => M.ret (.rt v)) s _
    rw [wp_bind]
    refine wp_mono (h pre d ds rfl s hI) ?_
    rintro f t (⟨rfl, ht⟩ | ⟨⟨v, rfl⟩, hr⟩)
    · have e : (pre ++ [d]) ++ ds = pre ++ d :: ds := by rw [List.append_assoc]; rfl
      have z := wp_for_r (Rr := Rr) ds (pre ++ [d]) ht fun p x q e' => h p x q (e ▸ e')
      rw [e] at z
      exact z
    · show wp (M.ret (Flow.rt v)) t _
      rw [wp_ret]
      exact .inr ⟨⟨v, rfl⟩, hr⟩
/-- a comprehension whose turns change the frame -/
theorem lcS {s0 : S} {vs : List Nat} {m : M Val} {g : D → M Unit} {w : M (List D)} {c : M Bool} {ds : List D} (s1 : S) (I : List D → List D → S → Prop) (hw : wp w s0 fun ds' t => ds' = ds ∧ t = s1) (h0 : I [] [] ⟨wipe s1.ρ vs, s1.μ⟩) (h2 : restOk s1.ρ vs = true) (hlen : ∀ ys t, I ds ys t → ys.length ≤ sizeLine)
    (h : ∀ p d q acc s, ds = p ++ d :: q → I p acc s → wp (lcTurn g c m vs d) s fun o t => I (p ++ [d]) (acc ++ o.toList) t) : wp (mLc m g w c vs) s0 fun v t => ∃ ys t', v = .own (.list ys) ∧ t = ⟨putBack s1.ρ t'.ρ vs, t'.μ⟩ ∧ I ds ys t' := by
  rw [wp_lc]
  refine wp_mono hw ?_
  rintro ds' t ⟨rfl, rfl⟩
  have z := wp_loop_g (turn := lcTurn g c m vs) I ds' [] [] h0 fun p d q acc s e i => h p d q acc s e i
  refine wp_mono z ?_
  intro ys t' i
  exact ⟨⟨hlen _ _ i, h2⟩, ys, t', rfl, rfl, i⟩
/-- a dict of one name's comprehension, whose parts hang on the datum alone -/
theorem dlc1 {ρ : List (Option Val)} {μ : List D} {i : Nat} {mk mv : M Val} {w : M (List D)} {ds : List D} (f : D → D × D) (hw : wp w ⟨ρ, μ⟩ fun ds' t => ds' = ds ∧ t = ⟨ρ, μ⟩) (hi : i < ρ.length) (hset : ρ.set i none = ρ) (hl : ds.length ≤ sizeLine)
    (h : ∀ d ∈ ds, wp (mFrz mk) ⟨ρ.set i (some (.dat d)), μ⟩ fun x s2 => x = (f d).1 ∧ isKey x = true ∧ s2 = ⟨ρ.set i (some (.dat d)), μ⟩ ∧ wp (mFrz mv) s2 fun y t => y = (f d).2 ∧ t = ⟨ρ.set i (some (.dat d)), μ⟩) :
    wp (mDlc mk mv (gVar i) w (M.ret true) [i]) ⟨ρ, μ⟩ fun v t => v = .own (.dict (dictOf (ds.map f))) ∧ t = ⟨ρ, μ⟩ := by
  have hn : ρ[i]? = some none := by
    rw [← hset, List.getElem?_set_self hi]
  have hw1 : wipe ρ [i] = ρ := hset
  have hw2 : ∀ d, wipe (ρ.set i (some (Val.dat d))) [i] = ρ := fun d => by
    show ((ρ.set i (some (Val.dat d))).set i none) = ρ
    rw [List.set_set, hset]
  have fm : ds.filterMap (fun d => some (f d)) = ds.map f := by
    clear hw hl h
    induction ds with
    | nil => rfl
    | cons d ds ih => rw [List.filterMap_cons, ih]; rfl
  rw [wp_dlc]
  refine wp_mono hw ?_
  rintro ds' t ⟨rfl, rfl⟩
  rw [hw1]
  have key := wp_loop_pure' (fun d => some (f d)) (dcTurn (gVar i) (M.ret true) mk mv [i]) ds' (s := ⟨ρ, μ⟩) fun d hd => ?_
  · refine wp_of key ⟨⟨?_, ?_⟩, ?_, ?_⟩
    · rw [fm, List.length_map]; exact hl
    · show restOk ρ [i] = true
      unfold restOk
      rw [List.all_cons, hn]
      rfl
    · rw [fm]
    · show (⟨putBack ρ ρ [i], μ⟩ : S) = _
      have : putBack ρ ρ [i] = ρ := by
        show ρ.set i ((ρ[i]?).join) = ρ
        rw [hn]
        exact hset
      rw [this]
  · refine eq_of_wp ?_
    unfold dcTurn
    rw [wp_bind, wp_gvar, wp_slot]
    refine ⟨hi, ?_⟩
    rw [wp_bind, wp_ret]
    show wp (M.bind (mFrz mk) fun x => M.bind (mFrz mv) fun y => if isKey x then M.bind (mWipe [i]) fun _ => M.ret (some (x, y)) else M.bad) _ _
    rw [wp_bind]
    refine wp_mono (h d hd) ?_
    rintro x s2 ⟨rfl, hk, rfl, h2⟩
    rw [wp_bind]
    refine wp_mono h2 ?_
    rintro y t ⟨rfl, rfl⟩
    rw [if_pos hk, wp_bind]
    refine wp_of (m := mWipe [i]) (a := ()) (t := ⟨wipe (ρ.set i (some (Val.dat d))) [i], μ⟩) rfl ?_
    rw [wp_ret, hw2]
    exact ⟨rfl, rfl⟩
end
end Ded
end

section
set_option Elab.async false
set_option linter.all false
set_option maxRecDepth 100000
/-! Look-ups with a default, dicts of one's own that change. -/
namespace Ded
open PySem
section
variable {s : S} {P : Val → S → Prop} {ρ : List (Option Val)} {μ : List D} {i : Nat} {U : Unit → S → Prop} {X : Flow → S → Prop} {y v : D}
theorem wp_get2 {m n l : M Val} : wp (mGet2 m n l) s P = wp (mDot isDictD m) s fun u s1 => wp (mOpd n) s1 fun v s2 => wp (mFrz l) s2 fun z s3 => wp (peekM u) s3 fun x s4 => wp (peekM v) s4 fun y s5 => wp (M.opt (gGet x y z)) s5 P := by
  unfold mGet2
  simp only [wp_bind]
theorem wp_get1 {m n : M Val} : wp (mGet1 m n) s P = wp (mDot isDictD m) s fun u s1 => wp (mOpd n) s1 fun v s2 => wp (peekM u) s2 fun x s3 => wp (peekM v) s3 fun y s4 => wp (M.opt (gGet x y .none)) s4 P := by
  unfold mGet1
  simp only [wp_bind]
def chkDK (U : Unit → S → Prop) (s : S) : Option Val → Prop
  | some (.own (.dict _)) => U () s
  | some (.ext k) => ∃ kvs, s.μ[k]? = some (.dict kvs) ∧ U () s
  | _ => False
theorem wp_chkd : wp (chkD i) ⟨ρ, μ⟩ U = chkDK U ⟨ρ, μ⟩ (ρ[i]?).join := by
  unfold wp chkD chkDK
  rw [slot_mk]
  cases (ρ[i]?).join with
  | none => rfl
  | some v =>
    cases v with
    | own d => cases d <;> rfl
    | ext k =>
      dsimp only
      cases h : μ[k]? with
      | none => simp
      | some d => cases d <;> simp
    | _ => rfl
def putDK (i : Nat) (y v : D) (X : Flow → S → Prop) (s : S) : Option Val → Prop
  | some (.own (.dict kvs)) => kvs.length < sizeLine ∧ X .nx (setSlot s i (.own (.dict (putIn kvs y v))))
  | some (.ext k) => ∃ kvs, s.μ[k]? = some (.dict kvs) ∧ kvs.length < sizeLine ∧ X .nx { s with μ := s.μ.set k (.dict (putIn kvs y v)) }
  | _ => False
theorem wp_putd (hy : isKey y = true) : wp (putD i y v) ⟨ρ, μ⟩ X = putDK i y v X ⟨ρ, μ⟩ (ρ[i]?).join := by
  unfold wp putD putDK
  rw [if_pos hy, slot_mk]
  cases (ρ[i]?).join with
  | none => rfl
  | some w =>
    cases w with
    | own d =>
      cases d with
      | dict kvs =>
        dsimp only
        by_cases h : kvs.length < sizeLine
        · rw [if_pos h]; simp [h]
        · rw [if_neg h]; simp [h]
      | _ => rfl
    | ext k =>
      dsimp only
      cases h : μ[k]? with
      | none => simp
      | some d =>
        cases d with
        | dict kvs =>
          dsimp only
          by_cases h2 : kvs.length < sizeLine
          · rw [if_pos h2]; simp [h2]
          · rw [if_neg h2]; simp [h2]
        | _ => simp
    | _ => rfl
theorem put_str {x : Str} : wp (putD i (.str x) v) ⟨ρ, μ⟩ X = putDK i (.str x) v X ⟨ρ, μ⟩ (ρ[i]?).join := wp_putd rfl
theorem isdict {kvs : List (D × D)} : isDictD (.dict kvs) = true := rfl
end
end Ded
end

section
set_option Elab.async false
set_option linter.all false
set_option maxRecDepth 100000
/-! All steps in one. -/
namespace Ded
open PySem
theorem Wa : (type_of% @wp_then) ∧
  (type_of% @wp_exp) ∧
  (type_of% @wp_set) ∧
  (type_of% @wp_kite) ∧
  (type_of% @wp_kret) ∧
  (type_of% @wp_sti) ∧
  (type_of% @wp_par) ∧
  (type_of% @wp_bind) ∧
  (type_of% @wp_ret) ∧
  (type_of% @wp_optS) ∧
  (type_of% @wp_optI) ∧
  (type_of% @wp_opd) ∧
  (type_of% @wp_frz) ∧
  (type_of% @wp_two) ∧
  (type_of% @wp_one) ∧
  (type_of% @wp_bin) ∧
  (type_of% @wp_cmp) ∧
  (type_of% @wp_idx) ∧
  (type_of% @wp_neg) ∧
  (type_of% @wp_not) ∧
  (type_of% @wp_isi) ∧
  (type_of% @wp_tru) ∧
  (type_of% @wp_tand) ∧
  (type_of% @wp_tor) ∧
  (type_of% @wp_tnot) ∧
  (type_of% @wp_ite) ∧
  (type_of% @wp_and) ∧
  (type_of% @wp_or) ∧
  (type_of% @wp_lnil) ∧
  (type_of% @wp_lcons) ∧
  (type_of% @wp_peeks0) ∧
  (type_of% @wp_peeks1) ∧
  (type_of% @wp_blt) ∧
  (type_of% @wp_tup) ∧
  (type_of% @wp_lst) ∧
  (type_of% @wp_var) ∧
  (type_of% @opd_dat) ∧
  (type_of% @opd_own) ∧
  (type_of% @opd_ext) ∧
  (type_of% @opd_loc) ∧
  (type_of% @peek_dat) ∧
  (type_of% @peek_loc) ∧
  (type_of% @frz_dat) ∧
  (type_of% @frz_own) ∧
  (type_of% @frz_loc) ∧
  (type_of% @setv_dat) ∧
  (type_of% @setv_own) ∧
  (type_of% @setv_ext) ∧
  (type_of% @ret_dat) ∧
  (type_of% @ret_own) ∧
  (type_of% @ret_ext) ∧
  (type_of% @ret_loc) ∧
  (type_of% @wp_call) ∧
  (type_of% @argv_dat) ∧
  (type_of% @argv_own) ∧
  (type_of% @argv_ext) ∧
  (type_of% @argv_loc) ∧
  (type_of% @wp_lend) ∧
  (type_of% @wp_slot) ∧
  (type_of% @wp_chn) ∧
  (type_of% @wp_sli) ∧
  (type_of% @wp_ifb) ∧
  (type_of% @wp_dct) ∧
  (type_of% @wp_lkv) ∧
  (type_of% @wp_sls) ∧
  (type_of% @wp_rev) ∧
  (type_of% @wp_asg) ∧
  (type_of% @wp_dot) ∧
  (type_of% @wp_join) ∧
  (type_of% @wp_app) ∧
  (type_of% @wp_pop1) ∧
  (type_of% @wp_ointg) ∧
  (type_of% @wp_chkl) ∧
  (type_of% @wp_putl) ∧
  (type_of% @len_list) ∧
  (type_of% @len_tup) ∧
  (type_of% @wp_keep) ∧
  (type_of% @keep_dat) ∧
  (type_of% @keep_own) ∧
  (type_of% @wp_par3) ∧
  (type_of% @wp_get2) ∧
  (type_of% @wp_get1) ∧
  (type_of% @wp_chkd) ∧
  (type_of% @put_str) ∧
  (type_of% @wp_litems) ∧
  (type_of% @wp_gtup) ∧
  (type_of% @wp_gtupL) ∧
  (type_of% @wp_gcons) ∧
  (type_of% @wp_gnil) ∧
  (type_of% @wp_gvar) ∧
  (type_of% @wp_wof) := ⟨@wp_then, @wp_exp, @wp_set, @wp_kite, @wp_kret, @wp_sti, @wp_par, @wp_bind, @wp_ret, @wp_optS, @wp_optI, @wp_opd, @wp_frz, @wp_two, @wp_one, @wp_bin, @wp_cmp, @wp_idx, @wp_neg, @wp_not, @wp_isi, @wp_tru, @wp_tand, @wp_tor, @wp_tnot, @wp_ite, @wp_and, @wp_or, @wp_lnil, @wp_lcons, @wp_peeks0, @wp_peeks1, @wp_blt, @wp_tup, @wp_lst, @wp_var, @opd_dat, @opd_own, @opd_ext, @opd_loc, @peek_dat, @peek_loc, @frz_dat, @frz_own, @frz_loc, @setv_dat, @setv_own, @setv_ext, @ret_dat, @ret_own, @ret_ext, @ret_loc, @wp_call, @argv_dat, @argv_own, @argv_ext, @argv_loc, @wp_lend, @wp_slot, @wp_chn, @wp_sli, @wp_ifb, @wp_dct, @wp_lkv, @wp_sls, @wp_rev, @wp_asg, @wp_dot, @wp_join, @wp_app, @wp_pop1, @wp_ointg, @wp_chkl, @wp_putl, @len_list, @len_tup, @wp_keep, @keep_dat, @keep_own, @wp_par3, @wp_get2, @wp_get1, @wp_chkd, @put_str, @wp_litems, @wp_gtup, @wp_gtupL, @wp_gcons, @wp_gnil, @wp_gvar, @wp_wof⟩
theorem Wb : (type_of% @solve_nil) ∧
  (type_of% @solve_dat) ∧
  (type_of% @solve_ext) ∧
  (type_of% @solve_scr) ∧
  (type_of% @List.getElem?_cons_zero.{0}) ∧
  (type_of% @List.getElem?_cons_succ.{0}) ∧
  (type_of% @Option.join_some.{0}) ∧
  (type_of% @Option.map_some.{0,0}) ∧
  (type_of% @List.length_cons.{0}) ∧
  (type_of% @List.length_nil.{0}) ∧
  (type_of% @List.set_cons_zero.{0}) ∧
  (type_of% @List.set_cons_succ.{0}) ∧
  (type_of% @true_and) ∧
  (type_of% @and_true) ∧
  (type_of% @true_implies) ∧
  (type_of% @false_implies) ∧
  (type_of% @Bool.true_eq_false) ∧
  (type_of% @Bool.false_eq_true) ∧
  (type_of% @and_self) ∧
  (type_of% @List.any_cons.{0}) ∧
  (type_of% @List.any_nil.{0}) ∧
  (type_of% @Bool.or_false) ∧
  (type_of% @tru_bool) ∧
  (type_of% @tru_int) ∧
  (type_of% @tru_none) ∧
  (type_of% @tru_list) ∧
  (type_of% @tru_tup) ∧
  (type_of% @ty1) ∧
  (type_of% @ty2) ∧
  (type_of% @ty3) ∧
  (type_of% @ty4) ∧
  (type_of% @ty5) ∧
  (type_of% @ty6) ∧
  (type_of% @ty7) ∧
  (type_of% @ty8) ∧
  (type_of% @Bool.not_true) ∧
  (type_of% @Bool.not_false) ∧
  (type_of% @cmp_gt) ∧
  (type_of% @cmp_lt) ∧
  (type_of% @cmp_ge) ∧
  (type_of% @cmp_le) ∧
  (type_of% @cmp_eqi) ∧
  (type_of% @sli_tup) ∧
  (type_of% @sli_list) ∧
  (type_of% @rev_tup) ∧
  (type_of% @add_tup) ∧
  (type_of% @add_list) ∧
  (type_of% @add_str) ∧
  (type_of% @add_int) ∧
  (type_of% @sub_int) ∧
  (type_of% @putO_ite) ∧
  (type_of% @putO_some) ∧
  (type_of% @decide_eq_true_eq) ∧
  (type_of% @decide_eq_false_iff_not) ∧
  (type_of% @sz) := ⟨@solve_nil, @solve_dat, @solve_ext, @solve_scr, @List.getElem?_cons_zero.{0}, @List.getElem?_cons_succ.{0}, @Option.join_some.{0}, @Option.map_some.{0,0}, @List.length_cons.{0}, @List.length_nil.{0}, @List.set_cons_zero.{0}, @List.set_cons_succ.{0}, @true_and, @and_true, @true_implies, @false_implies, @Bool.true_eq_false, @Bool.false_eq_true, @and_self, @List.any_cons.{0}, @List.any_nil.{0}, @Bool.or_false, @tru_bool, @tru_int, @tru_none, @tru_list, @tru_tup, @ty1, @ty2, @ty3, @ty4, @ty5, @ty6, @ty7, @ty8, @Bool.not_true, @Bool.not_false, @cmp_gt, @cmp_lt, @cmp_ge, @cmp_le, @cmp_eqi, @sli_tup, @sli_list, @rev_tup, @add_tup, @add_list, @add_str, @add_int, @sub_int, @putO_ite, @putO_some, @decide_eq_true_eq, @decide_eq_false_iff_not, @sz⟩
end Ded
end

section
set_option maxRecDepth 100000
namespace Ded.P
open PySem Ded
def d_packs_in : Def := { slots := 2, pars := 1, body := (.ret (.dlc (.idx (.var 1) (.cst (.int 0))) (.var 1) (.var 1) (.idx (.var 0) (.cst (.int 2))) .nil [1])) }
def d_sheets_in : Def := { slots := 2, pars := 1, body := (.ret (.dlc (.idx (.var 1) (.cst (.int 0))) (.idx (.var 1) (.cst (.int 3))) (.var 1) (.idx (.var 0) (.cst (.int 2))) .nil [1])) }
def d_pieces_in : Def := { slots := 2, pars := 1, body := (.ret (.dlc (.idx (.var 1) (.cst (.int 0))) (.idx (.var 1) (.cst (.int 1))) (.var 1) (.lst (.star (.idx (.var 0) (.cst (.int 0))) (.star (.idx (.var 0) (.cst (.int 2))) .nil))) .nil [1])) }
def d_names_in : Def := { slots := 3, pars := 1, body := (.ret (.lc2 (.idx (.var 2) (.cst (.int 0))) (.var 1) (.var 0) .nil (.var 2) (.var 1) .nil [1, 2] [2])) }
def d_is_integer : Def := { slots := 1, pars := 1, body := (.ret (.and (.isi (.var 0) [.int]) (.not (.isi (.var 0) [.bool])))) }
def d_is_positive : Def := { slots := 1, pars := 1, body := (.ret (.and (.call 4 (.cons (.var 0) .nil)) (.cmp .ge (.var 0) (.cst (.int 1))))) }
def d_is_tuple_of : Def := { slots := 2, pars := 2, body := (.ret (.and (.isi (.var 0) [.tuple]) (.cmp .eq (.blt .len (.cons (.var 0) .nil)) (.var 1)))) }
def d_are_rising : Def := { slots := 3, pars := 1, body := (.ret (.blt .all (.cons (.lc (.cmp .lt (.var 1) (.var 2)) (.tup (.cons (.var 1) (.cons (.var 2) .nil))) (.zip (.var 0) (.sli (.var 0) (.cst (.int 1)) .nil)) .nil [1, 2]) .nil))) }
def d_rise_by_name : Def := { slots := 2, pars := 1, body := (.ret (.call 7 (.cons (.lc (.idx (.var 1) (.cst (.int 0))) (.var 1) (.var 0) .nil [1]) .nil))) }
def d_is_one_of : Def := { slots := 2, pars := 2, body := (.ret (.and (.isi (.var 0) [.str]) (.cmp .in_ (.var 0) (.var 1)))) }
def d_is_row : Def := { slots := 4, pars := 2, body := (.ite (.or (.not (.isi (.var 1) [.tuple])) (.not (.blt .all (.cons (.lc (.call 6 (.cons (.var 3) (.cons (.cst (.int 2)) .nil))) (.var 3) (.var 1) .nil [3]) .nil)))) (.ret (.cst (.bool false))) .nop (.set 2 (.call 2 (.cons (.var 0) .nil)) (.ite (.not (.blt .all (.cons (.lc (.and (.call 9 (.cons (.idx (.var 3) (.cst (.int 0))) (.cons (.var 2) .nil))) (.call 5 (.cons (.idx (.var 3) (.cst (.int 1))) .nil))) (.var 3) (.var 1) .nil [3]) .nil))) (.ret (.cst (.bool false))) .nop (.ret (.call 8 (.cons (.var 1) .nil)))))) }
def d_refuse_unless : Def := { slots := 2, pars := 2, body := (.ite (.not (.var 0)) (.rai 1 (.cons (.var 1) (.cons (.neg (.cst (.int 1))) .nil))) .nop .nop) }
def d_want_sales : Def := { slots := 2, pars := 2, body := (.exp (.call 11 (.cons (.call 10 (.cons (.var 0) (.cons (.var 1) .nil))) (.cons (.cst (.str (PySem.Str.ofString "sales"))) .nil))) .nop) }
def d_first_free : Def := { slots := 6, pars := 2, body := (.set 2 (.dlc2 (.var 4) (.cst (.bool true)) (.var 3) (.var 1) .nil (.tup (.cons (.var 4) (.cons (.var 5) .nil))) (.idx (.var 0) (.var 3)) .nil [3, 4, 5] [4, 5]) (.ret (.idx (.lc (.var 3) (.var 3) (.var 1) (.cons (.cmp .notin (.var 3) (.var 2)) .nil) [3]) (.cst (.int 0))))) }
def d_outer_order : Def := { slots := 6, pars := 1, body := (.set 1 (.call 1 (.cons (.var 0) .nil)) (.set 2 (.blt .list (.cons (.var 1) .nil)) (.set 3 (.lst .nil) (.whl (.var 2) (.set 4 (.call 13 (.cons (.var 1) (.cons (.var 2) .nil))) (.exp (.app 3 (.var 4)) (.set 2 (.lc (.var 5) (.var 5) (.var 2) (.cons (.cmp .ne (.var 5) (.var 4)) .nil) [5]) .nop))) (.ret (.blt .tuple (.cons (.var 3) .nil))))))) }
def d_net_down : Def := { slots := 17, pars := 2, body := (.set 2 (.blt .dict (.cons (.var 1) .nil)) (.set 3 (.blt .dict (.cons (.lc (.tup (.cons (.var 13) (.cons (.get2 (.var 2) (.var 13) (.cst (.int 0))) .nil))) (.var 13) (.call 3 (.cons (.var 0) .nil)) .nil [13]) .nil)) (.set 4 (.call 0 (.cons (.var 0) .nil)) (.set 5 (.dct .nil) (.for_ (.var 6) (.call 14 (.cons (.var 0) .nil)) (.asg (.tup (.cons (.var 9) (.cons (.var 10) (.cons (.var 11) (.cons (.var 12) .nil))))) (.idx (.var 4) (.var 6)) (.set 8 (.bin .sub (.idx (.var 3) (.var 6)) (.var 10)) (.ite (.and (.cmp .lt (.var 8) (.cst (.int 0))) (.not (.var 11))) (.set 8 (.cst (.int 0)) .nop) .nop (.sti 5 (.var 6) (.var 8) (.for_ (.tup (.cons (.var 13) (.cons (.var 14) .nil))) (.var 12) (.sti 3 (.var 13) (.bin .add (.idx (.var 3) (.var 13)) (.bin .mul (.var 14) (.var 8))) .nop) .nop))))) (.set 7 (.dlc (.var 15) (.bin .sub (.var 16) (.idx (.var 3) (.var 15))) (.tup (.cons (.var 15) (.cons (.var 16) .nil))) (.idx (.var 0) (.cst (.int 0))) .nil [15, 16]) (.ret (.tup (.cons (.var 5) (.cons (.var 3) (.cons (.var 7) .nil))))))))))) }
def d_net_sets : Def := { slots := 9, pars := 2, body := (.asg (.tup (.cons (.var 4) (.cons (.var 5) (.cons (.var 6) .nil)))) (.call 15 (.cons (.var 0) (.cons (.var 1) .nil))) (.set 2 (.lc (.idx (.var 7) (.cst (.int 0))) (.var 7) (.lst (.star (.idx (.var 0) (.cst (.int 0))) (.star (.idx (.var 0) (.cst (.int 1))) .nil))) .nil [7]) (.set 3 (.lc (.tup (.cons (.var 8) (.cons (.idx (.var 5) (.var 8)) .nil))) (.var 8) (.var 2) .nil [8]) (.ret (.tup (.cons (.blt .tuple (.cons (.sitems (.var 4)) .nil)) (.cons (.blt .tuple (.cons (.blt .sorted (.cons (.var 3) .nil)) .nil)) (.cons (.blt .tuple (.cons (.sitems (.var 6)) .nil)) .nil)))))))) }
def d_netted : Def := { slots := 2, pars := 2, body := (.exp (.call 12 (.cons (.var 0) (.cons (.var 1) .nil))) (.ret (.call 16 (.cons (.var 0) (.cons (.var 1) .nil))))) }
def d__law_feed : Def := { slots := 2, pars := 1, body := (.ret (.dct (.kv (.cst (.str (PySem.Str.ofString "cells"))) (.lc (.blt .int (.cons (.var 1) .nil)) (.var 1) (.sls 0 none (some 63)) .nil [1]) (.kv (.cst (.str (PySem.Str.ofString "spot"))) (.cst (.int 0)) (.kv (.cst (.str (PySem.Str.ofString "rest"))) (.cst (.int 0)) (.kv (.cst (.str (PySem.Str.ofString "turn"))) (.cst (.int 0)) .nil)))))) }
def d__law_draw : Def := { slots := 7, pars := 2, body := (.sti 0 (.cst (.str (PySem.Str.ofString "turn"))) (.bin .add (.idx (.var 0) (.cst (.str (PySem.Str.ofString "turn")))) (.cst (.int 1))) (.ite (.cmp .gt (.idx (.var 0) (.cst (.str (PySem.Str.ofString "rest")))) (.cst (.int 0))) (.set 4 (.bin .mod (.blt .int (.cons (.idx (.var 0) (.cst (.str (PySem.Str.ofString "rest")))) .nil)) (.var 1)) (.sti 0 (.cst (.str (PySem.Str.ofString "rest"))) (.bin .fdiv (.idx (.var 0) (.cst (.str (PySem.Str.ofString "rest")))) (.var 1)) (.ret (.var 4)))) .nop (.par 5 6 (.idx (.var 0) (.cst (.str (PySem.Str.ofString "cells")))) (.idx (.var 0) (.cst (.str (PySem.Str.ofString "spot")))) (.sti 0 (.cst (.str (PySem.Str.ofString "spot"))) (.bin .add (.var 6) (.cst (.int 1))) (.set 2 (.ite (.cmp .ne (.var 5) (.lst .nil)) (.idx (.var 5) (.bin .mod (.blt .int (.cons (.var 6) .nil)) (.blt .len (.cons (.var 5) .nil)))) (.cst (.int 3517))) (.ite (.and (.cmp .ge (.var 2) (.bin .pow (.cst (.int 10)) (.cst (.int 18)))) (.cmp .lt (.var 6) (.blt .len (.cons (.var 5) .nil)))) (.sti 0 (.cst (.str (PySem.Str.ofString "rest"))) (.bin .fdiv (.var 2) (.var 1)) (.ret (.bin .mod (.blt .int (.cons (.var 2) .nil)) (.var 1)))) .nop (.set 3 (.bin .mod (.blt .int (.cons (.bin .add (.bin .add (.bin .mod (.blt .int (.cons (.var 2) .nil)) (.cst (.int 1000000033))) (.bin .mul (.cst (.int 61703)) (.idx (.var 0) (.cst (.str (PySem.Str.ofString "turn")))))) (.cst (.int 331))) .nil)) (.cst (.int 2147483629))) (.set 3 (.bin .mod (.blt .int (.cons (.bin .add (.bin .add (.bin .mul (.var 3) (.var 3)) (.bin .mul (.cst (.int 2750159)) (.idx (.var 0) (.cst (.str (PySem.Str.ofString "turn")))))) (.cst (.int 271))) .nil)) (.cst (.int 2147483543))) (.ret (.bin .mod (.blt .int (.cons (.bin .fdiv (.bin .mod (.blt .int (.cons (.bin .add (.bin .mul (.var 3) (.var 3)) (.bin .mul (.cst (.int 367)) (.var 3))) .nil)) (.cst (.int 2147483399))) (.cst (.int 32))) .nil)) (.var 1))))))))))) }
def d__law_any : Def := { slots := 2, pars := 2, body := (.ret (.idx (.var 1) (.call 19 (.cons (.lend 0) (.cons (.blt .len (.cons (.var 1) .nil)) .nil))))) }
def d__law_names : Def := { slots := 2, pars := 1, body := (.set 1 (.lst (.cons (.lst (.cons (.cst (.str (PySem.Str.ofString "box"))) (.cons (.cst (.str (PySem.Str.ofString "bulb"))) (.cons (.cst (.str (PySem.Str.ofString "candle"))) (.cons (.cst (.str (PySem.Str.ofString "lamp"))) (.cons (.cst (.str (PySem.Str.ofString "light"))) (.cons (.cst (.str (PySem.Str.ofString "plug"))) (.cons (.cst (.str (PySem.Str.ofString "trio"))) .nil)))))))) (.cons (.lst (.cons (.cst (.str (PySem.Str.ofString "a"))) (.cons (.cst (.str (PySem.Str.ofString "ab"))) (.cons (.cst (.str (PySem.Str.ofString "abc"))) (.cons (.cst (.str (PySem.Str.ofString "b"))) (.cons (.cst (.str (PySem.Str.ofString "ba"))) (.cons (.cst (.str (PySem.Str.ofString "zz"))) (.cons (.cst (.str (PySem.Str.ofString "zzzzzzzz"))) .nil)))))))) .nil))) (.ret (.call 20 (.cons (.lend 0) (.cons (.bin .add (.var 1) (.lst (.cons (.lst (.cons (.cst (.str (PySem.Str.ofString "apart"))) (.cons (.cst (.str (PySem.Str.ofString "build"))) (.cons (.cst (.str (PySem.Str.ofString "choice"))) (.cons (.cst (.str (PySem.Str.ofString "held"))) (.cons (.cst (.str (PySem.Str.ofString "part"))) (.cons (.cst (.str (PySem.Str.ofString "sell"))) (.cons (.cst (.str (PySem.Str.ofString "turn"))) .nil)))))))) .nil))) .nil))))) }
def d__law_head : Def := { slots := 9, pars := 1, body := (.asg (.tup (.cons (.var 2) (.cons (.var 3) (.cons (.var 4) (.cons (.var 5) (.cons (.var 6) (.cons (.var 7) (.cons (.var 8) .nil)))))))) (.var 0) (.set 1 (.tup (.cons (.tup (.cons (.var 2) (.cons (.cst (.int 1)) (.cons (.cst (.bool false)) (.cons (.tup (.cons (.tup (.cons (.var 5) (.cons (.cst (.int 1)) .nil))) (.cons (.tup (.cons (.var 6) (.cons (.cst (.int 1)) .nil))) (.cons (.tup (.cons (.var 8) (.cons (.cst (.int 1)) .nil))) .nil)))) .nil))))) (.cons (.tup (.cons (.var 8) (.cons (.cst (.int 1)) (.cons (.cst (.bool true)) (.cons (.tup (.cons (.tup (.cons (.var 5) (.cons (.cst (.int 1)) .nil))) (.cons (.tup (.cons (.var 7) (.cons (.cst (.int 2)) .nil))) .nil))) .nil))))) .nil))) (.ret (.tup (.cons (.tup (.cons (.tup (.cons (.var 3) (.cons (.cst (.int 2)) .nil))) (.cons (.tup (.cons (.var 4) (.cons (.cst (.int 1)) .nil))) (.cons (.tup (.cons (.var 5) (.cons (.cst (.int 4)) .nil))) (.cons (.tup (.cons (.var 7) (.cons (.cst (.int 5)) .nil))) .nil))))) (.cons (.tup (.cons (.tup (.cons (.var 6) (.cons (.tup (.cons (.var 3) (.cons (.var 4) .nil))) .nil))) .nil)) (.cons (.var 1) .nil))))))) }
def d__law_head_scenes : Def := { slots := 13, pars := 1, body := (.asg (.tup (.cons (.var 2) (.cons (.var 3) (.cons (.var 4) (.cons (.var 5) (.cons (.var 6) (.cons (.var 7) (.cons (.var 8) .nil)))))))) (.var 0) (.set 1 (.lst (.cons (.tup (.cons (.tup .nil) (.cons (.tup (.cons (.tup (.cons (.var 2) (.cons (.cst (.int 0)) .nil))) (.cons (.tup (.cons (.var 8) (.cons (.neg (.cst (.int 1))) .nil))) .nil))) (.cons (.tup (.cons (.tup (.cons (.var 3) (.cons (.cst (.int 0)) .nil))) (.cons (.tup (.cons (.var 4) (.cons (.cst (.int 0)) .nil))) (.cons (.tup (.cons (.var 5) (.cons (.neg (.cst (.int 1))) .nil))) (.cons (.tup (.cons (.var 6) (.cons (.cst (.int 0)) .nil))) (.cons (.tup (.cons (.var 7) (.cons (.neg (.cst (.int 2))) .nil))) .nil)))))) (.cons (.tup (.cons (.tup (.cons (.var 3) (.cons (.cst (.int 2)) .nil))) (.cons (.tup (.cons (.var 4) (.cons (.cst (.int 1)) .nil))) (.cons (.tup (.cons (.var 5) (.cons (.cst (.int 5)) .nil))) (.cons (.tup (.cons (.var 7) (.cons (.cst (.int 7)) .nil))) .nil))))) .nil))))) .nil)) (.exp (.app 1 (.tup (.cons (.tup (.cons (.tup (.cons (.var 2) (.cons (.cst (.int 2)) .nil))) (.cons (.tup (.cons (.var 8) (.cons (.cst (.int 1)) .nil))) .nil))) (.cons (.tup (.cons (.tup (.cons (.var 2) (.cons (.cst (.int 1)) .nil))) (.cons (.tup (.cons (.var 8) (.cons (.cst (.int 1)) .nil))) .nil))) (.cons (.tup (.cons (.tup (.cons (.var 3) (.cons (.cst (.int 0)) .nil))) (.cons (.tup (.cons (.var 4) (.cons (.cst (.int 0)) .nil))) (.cons (.tup (.cons (.var 5) (.cons (.cst (.int 2)) .nil))) (.cons (.tup (.cons (.var 6) (.cons (.cst (.int 1)) .nil))) (.cons (.tup (.cons (.var 7) (.cons (.cst (.int 2)) .nil))) .nil)))))) (.cons (.tup (.cons (.tup (.cons (.var 3) (.cons (.cst (.int 2)) .nil))) (.cons (.tup (.cons (.var 4) (.cons (.cst (.int 1)) .nil))) (.cons (.tup (.cons (.var 5) (.cons (.cst (.int 2)) .nil))) (.cons (.tup (.cons (.var 7) (.cons (.cst (.int 3)) .nil))) .nil))))) .nil)))))) (.exp (.app 1 (.tup (.cons (.tup (.cons (.tup (.cons (.var 2) (.cons (.cst (.int 4)) .nil))) .nil)) (.cons (.tup (.cons (.tup (.cons (.var 2) (.cons (.cst (.int 3)) .nil))) (.cons (.tup (.cons (.var 8) (.cons (.cst (.int 2)) .nil))) .nil))) (.cons (.tup (.cons (.tup (.cons (.var 3) (.cons (.cst (.int 0)) .nil))) (.cons (.tup (.cons (.var 4) (.cons (.cst (.int 0)) .nil))) (.cons (.tup (.cons (.var 5) (.cons (.cst (.int 5)) .nil))) (.cons (.tup (.cons (.var 6) (.cons (.cst (.int 3)) .nil))) (.cons (.tup (.cons (.var 7) (.cons (.cst (.int 4)) .nil))) .nil)))))) (.cons (.tup (.cons (.tup (.cons (.var 3) (.cons (.cst (.int 2)) .nil))) (.cons (.tup (.cons (.var 4) (.cons (.cst (.int 1)) .nil))) (.cons (.tup (.cons (.var 5) (.cons (.neg (.cst (.int 1))) .nil))) (.cons (.tup (.cons (.var 7) (.cons (.cst (.int 1)) .nil))) .nil))))) .nil)))))) (.exp (.app 1 (.tup (.cons (.tup (.cons (.tup (.cons (.var 3) (.cons (.cst (.int 3)) .nil))) (.cons (.tup (.cons (.var 5) (.cons (.cst (.int 1)) .nil))) .nil))) (.cons (.tup (.cons (.tup (.cons (.var 2) (.cons (.cst (.int 0)) .nil))) (.cons (.tup (.cons (.var 8) (.cons (.neg (.cst (.int 1))) .nil))) .nil))) (.cons (.tup (.cons (.tup (.cons (.var 3) (.cons (.cst (.int 3)) .nil))) (.cons (.tup (.cons (.var 4) (.cons (.cst (.int 0)) .nil))) (.cons (.tup (.cons (.var 5) (.cons (.cst (.int 0)) .nil))) (.cons (.tup (.cons (.var 6) (.cons (.cst (.int 0)) .nil))) (.cons (.tup (.cons (.var 7) (.cons (.neg (.cst (.int 2))) .nil))) .nil)))))) (.cons (.tup (.cons (.tup (.cons (.var 3) (.cons (.neg (.cst (.int 1))) .nil))) (.cons (.tup (.cons (.var 4) (.cons (.cst (.int 1)) .nil))) (.cons (.tup (.cons (.var 5) (.cons (.cst (.int 4)) .nil))) (.cons (.tup (.cons (.var 7) (.cons (.cst (.int 7)) .nil))) .nil))))) .nil)))))) (.ret (.lc (.tup (.cons (.call 22 (.cons (.var 0) .nil)) (.cons (.var 9) (.cons (.tup (.cons (.var 10) (.cons (.var 11) (.cons (.var 12) .nil)))) .nil)))) (.tup (.cons (.var 9) (.cons (.var 10) (.cons (.var 11) (.cons (.var 12) .nil))))) (.var 1) .nil [9, 10, 11, 12]))))))) }
def d__law_other_scenes : Def := { slots := 11, pars := 1, body := (.asg (.tup (.cons (.var 4) (.cons (.var 5) (.cons (.var 6) (.cons (.var 7) (.cons (.var 8) (.cons (.var 9) (.cons (.var 10) .nil)))))))) (.var 0) (.set 1 (.tup (.cons (.tup (.cons (.tup (.cons (.var 6) (.cons (.cst (.int 1)) .nil))) (.cons (.tup (.cons (.var 7) (.cons (.cst (.int 0)) .nil))) .nil))) (.cons (.tup .nil) (.cons (.tup (.cons (.tup (.cons (.var 5) (.cons (.cst (.int 0)) (.cons (.cst (.bool false)) (.cons (.tup (.cons (.tup (.cons (.var 6) (.cons (.cst (.int 3)) .nil))) .nil)) .nil))))) (.cons (.tup (.cons (.var 8) (.cons (.cst (.int 2)) (.cons (.cst (.bool true)) (.cons (.tup (.cons (.tup (.cons (.var 5) (.cons (.cst (.int 2)) .nil))) (.cons (.tup (.cons (.var 7) (.cons (.cst (.int 1)) .nil))) .nil))) .nil))))) .nil))) .nil)))) (.set 2 (.tup (.cons (.tup (.cons (.tup (.cons (.var 4) (.cons (.cst (.int 3)) .nil))) .nil)) (.cons (.tup .nil) (.cons (.tup (.cons (.tup (.cons (.var 5) (.cons (.cst (.int 1)) (.cons (.cst (.bool true)) (.cons (.tup (.cons (.tup (.cons (.var 4) (.cons (.cst (.int 2)) .nil))) .nil)) .nil))))) (.cons (.tup (.cons (.var 6) (.cons (.cst (.int 1)) (.cons (.cst (.bool true)) (.cons (.tup (.cons (.tup (.cons (.var 4) (.cons (.cst (.int 1)) .nil))) (.cons (.tup (.cons (.var 5) (.cons (.cst (.int 2)) .nil))) .nil))) .nil))))) .nil))) .nil)))) (.set 3 (.lst (.cons (.tup (.cons (.var 1) (.cons (.tup .nil) (.cons (.tup (.cons (.tup (.cons (.tup (.cons (.var 5) (.cons (.cst (.int 0)) .nil))) (.cons (.tup (.cons (.var 8) (.cons (.neg (.cst (.int 2))) .nil))) .nil))) (.cons (.tup (.cons (.tup (.cons (.var 6) (.cons (.cst (.int 0)) .nil))) (.cons (.tup (.cons (.var 7) (.cons (.neg (.cst (.int 2))) .nil))) .nil))) (.cons (.tup (.cons (.tup (.cons (.var 6) (.cons (.cst (.int 1)) .nil))) (.cons (.tup (.cons (.var 7) (.cons (.cst (.int 2)) .nil))) .nil))) .nil)))) .nil)))) .nil)) (.exp (.app 3 (.tup (.cons (.var 1) (.cons (.tup (.cons (.tup (.cons (.var 5) (.cons (.cst (.int 5)) .nil))) .nil)) (.cons (.tup (.cons (.tup (.cons (.tup (.cons (.var 5) (.cons (.cst (.int 1)) .nil))) (.cons (.tup (.cons (.var 8) (.cons (.neg (.cst (.int 2))) .nil))) .nil))) (.cons (.tup (.cons (.tup (.cons (.var 6) (.cons (.cst (.int 3)) .nil))) (.cons (.tup (.cons (.var 7) (.cons (.neg (.cst (.int 2))) .nil))) .nil))) (.cons (.tup (.cons (.tup (.cons (.var 6) (.cons (.neg (.cst (.int 2))) .nil))) (.cons (.tup (.cons (.var 7) (.cons (.cst (.int 2)) .nil))) .nil))) .nil)))) .nil))))) (.exp (.app 3 (.tup (.cons (.var 1) (.cons (.tup (.cons (.tup (.cons (.var 5) (.cons (.cst (.int 4)) .nil))) (.cons (.tup (.cons (.var 8) (.cons (.cst (.int 1)) .nil))) .nil))) (.cons (.tup (.cons (.tup (.cons (.tup (.cons (.var 5) (.cons (.cst (.int 2)) .nil))) (.cons (.tup (.cons (.var 8) (.cons (.neg (.cst (.int 1))) .nil))) .nil))) (.cons (.tup (.cons (.tup (.cons (.var 6) (.cons (.cst (.int 6)) .nil))) (.cons (.tup (.cons (.var 7) (.cons (.neg (.cst (.int 1))) .nil))) .nil))) (.cons (.tup (.cons (.tup (.cons (.var 6) (.cons (.neg (.cst (.int 5))) .nil))) (.cons (.tup (.cons (.var 7) (.cons (.cst (.int 1)) .nil))) .nil))) .nil)))) .nil))))) (.exp (.app 3 (.tup (.cons (.var 1) (.cons (.tup (.cons (.tup (.cons (.var 7) (.cons (.cst (.int 7)) .nil))) (.cons (.tup (.cons (.var 8) (.cons (.cst (.int 3)) .nil))) .nil))) (.cons (.tup (.cons (.tup (.cons (.tup (.cons (.var 5) (.cons (.cst (.int 2)) .nil))) (.cons (.tup (.cons (.var 8) (.cons (.cst (.int 1)) .nil))) .nil))) (.cons (.tup (.cons (.tup (.cons (.var 6) (.cons (.cst (.int 6)) .nil))) (.cons (.tup (.cons (.var 7) (.cons (.cst (.int 8)) .nil))) .nil))) (.cons (.tup (.cons (.tup (.cons (.var 6) (.cons (.neg (.cst (.int 5))) .nil))) (.cons (.tup (.cons (.var 7) (.cons (.neg (.cst (.int 8))) .nil))) .nil))) .nil)))) .nil))))) (.exp (.app 3 (.tup (.cons (.var 2) (.cons (.tup .nil) (.cons (.tup (.cons (.tup (.cons (.tup (.cons (.var 5) (.cons (.neg (.cst (.int 3))) .nil))) (.cons (.tup (.cons (.var 6) (.cons (.neg (.cst (.int 1))) .nil))) .nil))) (.cons (.tup (.cons (.tup (.cons (.var 4) (.cons (.neg (.cst (.int 7))) .nil))) .nil)) (.cons (.tup (.cons (.tup (.cons (.var 4) (.cons (.cst (.int 10)) .nil))) .nil)) .nil)))) .nil))))) (.exp (.app 3 (.tup (.cons (.var 2) (.cons (.tup (.cons (.tup (.cons (.var 4) (.cons (.cst (.int 4)) .nil))) (.cons (.tup (.cons (.var 5) (.cons (.cst (.int 5)) .nil))) (.cons (.tup (.cons (.var 6) (.cons (.cst (.int 3)) .nil))) .nil)))) (.cons (.tup (.cons (.tup (.cons (.tup (.cons (.var 5) (.cons (.cst (.int 8)) .nil))) (.cons (.tup (.cons (.var 6) (.cons (.cst (.int 2)) .nil))) .nil))) (.cons (.tup (.cons (.tup (.cons (.var 4) (.cons (.cst (.int 22)) .nil))) .nil)) (.cons (.tup (.cons (.tup (.cons (.var 4) (.cons (.neg (.cst (.int 19))) .nil))) .nil)) .nil)))) .nil))))) (.exp (.app 3 (.tup (.cons (.var 2) (.cons (.tup (.cons (.tup (.cons (.var 5) (.cons (.cst (.int 3)) .nil))) .nil)) (.cons (.tup (.cons (.tup (.cons (.tup (.cons (.var 5) (.cons (.cst (.int 0)) .nil))) (.cons (.tup (.cons (.var 6) (.cons (.neg (.cst (.int 1))) .nil))) .nil))) (.cons (.tup (.cons (.tup (.cons (.var 4) (.cons (.neg (.cst (.int 1))) .nil))) .nil)) (.cons (.tup (.cons (.tup (.cons (.var 4) (.cons (.cst (.int 4)) .nil))) .nil)) .nil)))) .nil))))) (.exp (.app 3 (.tup (.cons (.tup (.cons (.tup (.cons (.tup (.cons (.var 9) (.cons (.cst (.int 7)) .nil))) .nil)) (.cons (.tup .nil) (.cons (.tup .nil) .nil)))) (.cons (.tup (.cons (.tup (.cons (.var 9) (.cons (.cst (.int 9)) .nil))) .nil)) (.cons (.tup (.cons (.tup .nil) (.cons (.tup (.cons (.tup (.cons (.var 9) (.cons (.cst (.int 9)) .nil))) .nil)) (.cons (.tup (.cons (.tup (.cons (.var 9) (.cons (.neg (.cst (.int 2))) .nil))) .nil)) .nil)))) .nil))))) (.ret (.bin .add (.var 3) (.lst (.cons (.tup (.cons (.tup (.cons (.tup (.cons (.tup (.cons (.var 10) (.cons (.cst (.int 0)) .nil))) .nil)) (.cons (.tup .nil) (.cons (.tup .nil) .nil)))) (.cons (.tup .nil) (.cons (.tup (.cons (.tup .nil) (.cons (.tup (.cons (.tup (.cons (.var 10) (.cons (.cst (.int 0)) .nil))) .nil)) (.cons (.tup (.cons (.tup (.cons (.var 10) (.cons (.cst (.int 0)) .nil))) .nil)) .nil)))) .nil)))) .nil))))))))))))))) }
def d__law_articles : Def := { slots := 3, pars := 1, body := (.ret (.blt .sorted (.cons (.bin .add (.lc (.idx (.var 1) (.cst (.int 0))) (.var 1) (.idx (.var 0) (.cst (.int 0))) .nil [1]) (.lc (.idx (.var 2) (.cst (.int 0))) (.var 2) (.idx (.var 0) (.cst (.int 2))) .nil [2])) .nil))) }
def d__law_odd_rows : Def := { slots := 6, pars := 2, body := (.set 2 (.call 25 (.cons (.var 0) .nil)) (.set 3 (.idx (.var 2) (.cst (.int 0))) (.set 4 (.lst (.cons (.cst .none) (.cons (.cst (.int 0)) (.cons (.cst (.bool true)) (.cons (.var 3) (.cons (.lst .nil) (.cons (.blt .list (.cons (.var 1) .nil)) (.cons (.tup (.cons (.tup (.cons (.var 3) (.cons (.cst (.int 0)) .nil))) .nil)) (.cons (.tup (.cons (.tup (.cons (.var 3) (.cons (.neg (.cst (.int 1))) .nil))) .nil)) (.cons (.tup (.cons (.tup (.cons (.var 3) (.cons (.cst (.bool true)) .nil))) .nil)) (.cons (.tup (.cons (.tup (.cons (.var 3) (.cons (.cst .none) .nil))) .nil)) (.cons (.tup (.cons (.tup (.cons (.var 3) (.cons (.cst (.str (PySem.Str.ofString "1"))) .nil))) .nil)) (.cons (.tup (.cons (.tup (.cons (.var 3) .nil)) .nil)) .nil))))))))))))) (.set 4 (.bin .add (.var 4) (.lst (.cons (.tup (.cons (.tup (.cons (.var 3) (.cons (.cst (.int 1)) (.cons (.cst (.int 1)) .nil)))) .nil)) (.cons (.tup (.cons (.lst (.cons (.var 3) (.cons (.cst (.int 1)) .nil))) .nil)) (.cons (.tup (.cons (.var 3) (.cons (.cst (.int 1)) .nil))) (.cons (.tup (.cons (.tup (.cons (.cst (.str (PySem.Str.ofString "nobody"))) (.cons (.cst (.int 1)) .nil))) .nil)) (.cons (.tup (.cons (.tup (.cons (.var 3) (.cons (.cst (.int 1)) .nil))) (.cons (.tup (.cons (.var 3) (.cons (.cst (.int 1)) .nil))) .nil))) (.cons (.tup (.cons (.tup (.cons (.cst (.str (PySem.Str.ofString ""))) (.cons (.cst (.int 1)) .nil))) .nil)) (.cons (.tup (.cons (.tup (.cons (.upper (.var 3)) (.cons (.cst (.int 1)) .nil))) .nil)) .nil))))))))) (.set 4 (.bin .add (.var 4) (.lst (.cons (.tup (.cons (.tup (.cons (.cst .none) (.cons (.cst (.int 1)) .nil))) .nil)) (.cons (.tup (.cons (.tup (.cons (.tup (.cons (.var 3) (.cons (.cst (.int 1)) .nil))) .nil)) .nil)) (.cons (.tup (.cons (.tup (.cons (.var 3) (.cons (.tup (.cons (.cst (.int 1)) .nil)) .nil))) .nil)) (.cons (.bin .add (.var 1) (.tup (.cons (.tup (.cons (.cst (.str (PySem.Str.ofString "zzzzzzzzz"))) (.cons (.cst (.int 1)) .nil))) .nil))) (.cons (.tup (.cons (.cst .none) .nil)) .nil))))))) (.ite (.cmp .gt (.blt .len (.cons (.var 2) .nil)) (.cst (.int 1))) (.set 4 (.bin .add (.var 4) (.lst (.cons (.tup (.cons (.tup (.cons (.idx (.var 2) (.cst (.int 1))) (.cons (.cst (.int 1)) .nil))) (.cons (.tup (.cons (.var 3) (.cons (.cst (.int 1)) .nil))) .nil))) (.cons (.tup (.cons (.tup (.cons (.var 3) (.cons (.cst (.int 1)) .nil))) (.cons (.tup (.cons (.idx (.var 2) (.cst (.int 1))) (.cons (.cst (.int 0)) .nil))) .nil))) .nil)))) .nop) .nop (.ret (.bin .add (.var 4) (.lc (.tup (.cons (.tup (.cons (.idx (.var 5) (.cst (.int 0))) (.cons (.cst (.int 1)) .nil))) .nil)) (.var 5) (.idx (.var 0) (.cst (.int 1))) .nil [5]))))))))) }
def d_law : Def := { slots := 9, pars := 1, body := (.set 1 (.call 18 (.cons (.lend 0) .nil)) (.set 2 (.call 21 (.cons (.lend 1) .nil)) (.set 3 (.bin .add (.call 23 (.cons (.var 2) .nil)) (.call 24 (.cons (.var 2) .nil))) (.set 4 (.blt .repr (.cons (.var 3) .nil)) (.for_ (.tup (.cons (.var 5) (.cons (.var 6) (.cons (.var 7) .nil)))) (.var 3) (.ite (.cmp .ne (.blt .repr (.cons (.lst (.cons (.call 17 (.cons (.var 5) (.cons (.var 6) .nil))) (.cons (.callp 17 [1,0] (.cons (.var 6) (.cons (.var 5) .nil))) .nil))) .nil)) (.blt .repr (.cons (.lst (.cons (.var 7) (.cons (.var 7) .nil))) .nil))) (.ret (.cst (.bool false))) .nop (.for_ (.var 8) (.call 26 (.cons (.var 5) (.cons (.var 6) .nil))) (.ite (.cmp .ne (.blt .repr (.cons (.said 1 (.call 17 (.cons (.var 5) (.cons (.var 8) .nil)))) .nil)) (.blt .repr (.cons (.tup (.cons (.cst (.str (PySem.Str.ofString "use"))) (.cons (.cst (.str (PySem.Str.ofString "sales"))) (.cons (.neg (.cst (.int 1))) .nil)))) .nil))) (.ret (.cst (.bool false))) .nop .nop) .nop)) (.ret (.cmp .eq (.blt .repr (.cons (.var 3) .nil)) (.var 4)))))))) }
def Ds : List Def := [d_packs_in, d_sheets_in, d_pieces_in, d_names_in, d_is_integer, d_is_positive, d_is_tuple_of, d_are_rising, d_rise_by_name, d_is_one_of, d_is_row, d_refuse_unless, d_want_sales, d_first_free, d_outer_order, d_net_down, d_net_sets, d_netted, d__law_feed, d__law_draw, d__law_any, d__law_names, d__law_head, d__law_head_scenes, d__law_other_scenes, d__law_articles, d__law_odd_rows, d_law]
end Ded.P
end

section
set_option linter.all false
set_option maxRecDepth 100000
set_option maxHeartbeats 1000000
namespace Ded.DM
open PySem Ded.P
abbrev S1 : Str := Str.ofString "cells"
abbrev S2 : Str := Str.ofString "spot"
abbrev S3 : Str := Str.ofString "rest"
abbrev S4 : Str := Str.ofString "turn"
def feedD (cells : List Int) (sp le dr : Int) : D := .dict [(.str S1, .list (cells.map .int)), (.str S2, .int sp), (.str S3, .int le), (.str S4, .int dr)]
theorem ne12 : (decide (S1 = S2)) = false := by decide +kernel
theorem ne13 : (decide (S1 = S3)) = false := by decide +kernel
theorem ne14 : (decide (S1 = S4)) = false := by decide +kernel
theorem ne21 : (decide (S2 = S1)) = false := by decide +kernel
theorem ne23 : (decide (S2 = S3)) = false := by decide +kernel
theorem ne24 : (decide (S2 = S4)) = false := by decide +kernel
theorem ne31 : (decide (S3 = S1)) = false := by decide +kernel
theorem ne32 : (decide (S3 = S2)) = false := by decide +kernel
theorem ne34 : (decide (S3 = S4)) = false := by decide +kernel
theorem ne41 : (decide (S4 = S1)) = false := by decide +kernel
theorem ne42 : (decide (S4 = S2)) = false := by decide +kernel
theorem ne43 : (decide (S4 = S3)) = false := by decide +kernel
section
variable {c : List Int} {sp le dr v : Int}
theorem get1 : keyIn [(.str S1, .list (c.map .int)), (.str S2, .int sp), (.str S3, .int le), (.str S4, .int dr)] (.str S1) = some (.list (c.map .int)) := by
  simp [keyIn, sameKey]
theorem get2 : keyIn [(.str S1, .list (c.map .int)), (.str S2, .int sp), (.str S3, .int le), (.str S4, .int dr)] (.str S2) = some (.int sp) := by
  simp only [keyIn, sameKey, List.find?_cons, ne12, decide_true, Option.map_some]
theorem get3 : keyIn [(.str S1, .list (c.map .int)), (.str S2, .int sp), (.str S3, .int le), (.str S4, .int dr)] (.str S3) = some (.int le) := by
  simp only [keyIn, sameKey, List.find?_cons, ne13, ne23, decide_true, Option.map_some]
theorem get4 : keyIn [(.str S1, .list (c.map .int)), (.str S2, .int sp), (.str S3, .int le), (.str S4, .int dr)] (.str S4) = some (.int dr) := by
  simp only [keyIn, sameKey, List.find?_cons, ne14, ne24, ne34, decide_true, Option.map_some]
theorem put2 : putIn [(.str S1, .list (c.map .int)), (.str S2, .int sp), (.str S3, .int le), (.str S4, .int dr)] (.str S2) (.int v) = [(.str S1, .list (c.map .int)), (.str S2, .int v), (.str S3, .int le), (.str S4, .int dr)] := by
  simp [putIn, sameKey, ne12, ne32, ne42]
theorem put3 : putIn [(.str S1, .list (c.map .int)), (.str S2, .int sp), (.str S3, .int le), (.str S4, .int dr)] (.str S3) (.int v) = [(.str S1, .list (c.map .int)), (.str S2, .int sp), (.str S3, .int v), (.str S4, .int dr)] := by
  simp [putIn, sameKey, ne13, ne23, ne43]
theorem put4 : putIn [(.str S1, .list (c.map .int)), (.str S2, .int sp), (.str S3, .int le), (.str S4, .int dr)] (.str S4) (.int v) = [(.str S1, .list (c.map .int)), (.str S2, .int sp), (.str S3, .int le), (.str S4, .int v)] := by
  simp [putIn, sameKey, ne14, ne24, ne34]
end
theorem get_set_same {α : Type} {l : List α} {k : Nat} {a b : α} (h : l[k]? = some a) : (l.set k b)[k]? = some b := List.getElem?_set_self (List.getElem?_eq_some_iff.mp h).1
theorem set_set {α : Type} (l : List α) (k : Nat) (a b : α) : (l.set k a).set k b = l.set k b := by simp
theorem four {a b c d : D × D} : [a, b, c, d].length < sizeLine := by
  show 4 < sizeLine
  decide
theorem at_mod {c : List Int} (h : c ≠ []) (i : Int) : ∃ x : Int, L2.atI (c.map PyData.int) (i % (c.length : Int)) = some (.int x) := by
  have hl : 0 < c.length := List.length_pos_iff.mpr h
  have h0 : 0 ≤ i % (c.length : Int) := Int.emod_nonneg i (by omega)
  have h1 : i % (c.length : Int) < c.length := Int.emod_lt_of_pos i (by omega)
  obtain ⟨j, hj⟩ := Int.eq_ofNat_of_zero_le h0
  have hj2 : j < c.length := by omega
  refine ⟨c[j], ?_⟩
  rw [hj]
  exact L2.atI_nat (by rw [List.getElem?_map, List.getElem?_eq_getElem hj2]; rfl)
theorem ints_lay : ∀ c : List Int, PyData.canLayAll0 (c.map PyData.int) = true
  | [] => rfl
  | x :: c => by
    show (PyData.canLay0 (.int x) && PyData.canLayAll0 (c.map PyData.int)) = true
    rw [ints_lay c]; rfl
theorem ints_depth : ∀ c : List Int, PyData.depthAll (c.map PyData.int) = 0
  | [] => rfl
  | x :: c => by
    show max (PyData.depth (.int x)) (PyData.depthAll (c.map PyData.int)) = 0
    rw [ints_depth c]; rfl
theorem ints_shaped (c : List Int) : SeqAt.shaped (.list (c.map PyData.int)) = true := by
  show (PyData.canLayAll0 (c.map PyData.int) && decide (PyData.depthAll (c.map PyData.int) + 1 ≤ 64)) = true
  rw [ints_lay, ints_depth]; rfl
theorem nil_shaped : SeqAt.shaped (.list []) = true := rfl
theorem eq_nil {c : List Int} : eqD (.list (c.map .int)) (.list []) = some c.isEmpty := by
  unfold eqD
  rw [ints_shaped, nil_shaped, Bool.and_self, Bool.or_true, if_pos rfl]
  cases c <;> rfl
theorem nil_len : ([] : List D).length ≤ sizeLine := Nat.zero_le _
theorem one_ok {c : List Int} {sp : Int} {a0 a1 a2 a3 a4 : Option Val} {μ : List D} (hc : c.length ≤ 63) :
    wp (mIte (tTru (mCmp Cop.ne (mVar 5) (mLst lNil))) (mIdx (mVar 5) (mBin Bop.mod (mBlt Blt.int (lCons (mOpd (mVar 6)) lNil)) (mBlt Blt.len (lCons (mOpd (mVar 5)) lNil)))) (M.ret (.dat (.int 3517))))
      ⟨[a0, a1, a2, a3, a4, some (.dat (.list (c.map .int))), some (.dat (.int sp))], μ⟩ fun v t => ∃ x, v = .dat (.int x) ∧ t = ⟨[a0, a1, a2, a3, a4, some (.dat (.list (c.map .int))), some (.dat (.int sp))], μ⟩ := by
  simp only [↓wp_ite, ↓wp_tru, ↓wp_opd, ↓wp_cmp, ↓wp_two, ↓wp_var, varK, List.getElem?_cons_zero, List.getElem?_cons_succ, Option.join_some, ↓opd_dat, ↓wp_lst, ↓wp_lnil, nil_len, true_and, ↓opd_own, ↓peek_dat, gCmp, cmpD, eq_nil, Option.map_some, ↓wp_optS, truD, ↓wp_ifb, ↓wp_ret]
  refine ⟨fun h => ?_, fun _ => ⟨_, rfl, trivial⟩⟩
  have hn : c ≠ [] := fun e => by subst e; cases h
  obtain ⟨x, hx⟩ := at_mod hn sp
  have hl : 0 < (c.length : Int) := by
    have := List.length_pos_iff.mpr hn
    omega
  simp only [↓wp_idx, ↓wp_opd, ↓wp_two, ↓wp_bin, ↓wp_blt, ↓wp_lcons, ↓wp_lnil, ↓wp_var, varK, List.getElem?_cons_zero, List.getElem?_cons_succ, Option.join_some, ↓opd_dat, ↓wp_peeks1, ↓wp_peeks0, ↓peek_dat, bltD, lenD, List.length_map, Option.map_some, ↓wp_optS, binD, ↓wp_optI, hl, true_and, gIdx, idxD, hx]
  exact ⟨_, rfl, trivial⟩
theorem fit1 {i j : Int} (h : -(2 ^ 64) < i ∧ i < 2 ^ 64) : fitsMul i j = true := by
  unfold fitsMul
  exact decide_eq_true (.inl h)
def DrawOk (c : List Int) (many : Int) (μ : List D) (k : Nat) (f : Flow) (t : S) : Prop := ∃ r sp le dr, f = .rt (.dat (.int r)) ∧ 0 ≤ r ∧ r < many ∧ t.μ = μ.set k (feedD c sp le dr)
section
variable (cd : Nat → List Val → List D → R Val) (L : Nat)
theorem draw_ok {c : List Int} {sp le dr many : Int} {μ : List D} {k : Nat} (hm : 0 < many) (hm2 : many < 1073741824) (hc : c.length ≤ 63) (hk : μ[k]? = some (feedD c sp le dr)) :
    wp (run cd L d__law_draw.body) ⟨[some (.ext k), some (.dat (.int many)), none, none, none, none, none], μ⟩ (DrawOk c many μ k) := by
  have hk2 : k < μ.length := (List.getElem?_eq_some_iff.mp hk).1
  unfold feedD at hk
  have k2 : isKey (.str (Str.ofString "spot")) = true := rfl
  have k3 : isKey (.str (Str.ofString "rest")) = true := rfl
  have k4 : isKey (.str (Str.ofString "turn")) = true := rfl
  have fin : ∀ (x : Int) (ρ : List (Option Val)) (sp le dr : Int), DrawOk c many μ k (.rt (.dat (.int (x % many)))) ⟨ρ, μ.set k (feedD c sp le dr)⟩ := fun x ρ sp le dr => ⟨_, sp, le, dr, rfl, Int.emod_nonneg x (by omega), Int.emod_lt_of_pos x hm, rfl⟩
  have fin' : ∀ (x : Int) (ρ : List (Option Val)) (sp le dr : Int), DrawOk c many μ k (.rt (.dat (.int (x % many)))) ⟨ρ, μ.set k (.dict [(.str S1, .list (c.map .int)), (.str S2, .int sp), (.str S3, .int le), (.str S4, .int dr)])⟩ := fin
  have l63 : (c.map PyData.int).length ≤ sizeLine := by rw [List.length_map]; exact Nat.le_trans hc (by decide)
  by_cases hl : 0 < le
  · simp only [d__law_draw, run, den, Den.ex, ↓wp_then, ↓wp_sti, ↓wp_frz, ↓wp_bin, ↓wp_two, ↓wp_opd, ↓wp_idx, ↓wp_var, varK, List.getElem?_cons_zero, List.getElem?_cons_succ, Option.join_some, ↓opd_ext, ↓opd_dat, ↓wp_ret, ↓peek_ext hk, ↓peek_dat, gIdx, idxD, isKey, get4, get3, Option.map_some, ↓wp_optS, if_true, binD, ↓frz_dat,
      ↓chk0 hk, ↓put0 hk k4 four, put4, flowK, ↓wp_kite, ↓wp_tru, ↓wp_cmp, gCmp, cmpD, ↓peeks_ hk2, truD, hl, decide_true, ↓wp_set, ↓wp_blt, ↓wp_lcons, ↓wp_lnil, ↓wp_peeks1, ↓wp_peeks0, bltD, hm, hm2, ↓setv_dat, ↓wp_slot, List.length_cons, List.length_nil, Nat.reduceAdd, Nat.reduceLT, ↓chk0s hk2, ↓put0s hk2 k3 four, put3, ↓wp_kret, ↓ret_dat, List.set, and_self, true_and, ↓wp_optI]
    exact fin' _ _ _ _ _
  · simp only [d__law_draw, run, den, Den.ex, ↓wp_then, ↓wp_sti, ↓wp_frz, ↓wp_bin, ↓wp_two, ↓wp_opd, ↓wp_idx, ↓wp_var, varK, List.getElem?_cons_zero, List.getElem?_cons_succ, Option.join_some, ↓opd_ext, ↓opd_dat, ↓wp_ret, ↓peek_ext hk, ↓peek_dat, gIdx, idxD, isKey, get4, get3, get2, get1, Option.map_some, ↓wp_optS, if_true, binD, ↓frz_dat,
      ↓chk0 hk, ↓put0 hk k4 four, put4, flowK, ↓wp_kite, ↓wp_tru, ↓wp_cmp, gCmp, cmpD, ↓peeks_ hk2, truD, hl, decide_true, decide_false, Bool.false_eq_true, if_false, ↓wp_set, ↓wp_blt, ↓wp_lcons, ↓wp_lnil, ↓wp_peeks1, ↓wp_peeks0, bltD, hm, hm2, ↓setv_dat, ↓wp_slot, List.length_cons, List.length_nil, Nat.reduceAdd, Nat.reduceLT, ↓chk0s hk2, ↓put0s hk2 k3 four, ↓put0s hk2 k2 four, put3, put2, ↓wp_kret, ↓ret_dat, List.set, and_self, true_and, ↓wp_optI, ↓wp_par, ↓wp_keep, ↓keep_dat, ↓keep_own]
    refine wp_mono (one_ok hc) ?_
    rintro v t ⟨x, rfl, rfl⟩
    have e18 : (10 : Int) ^ (18 : Int).toNat = 10 ^ 18 := rfl
    have h10 : (0 ≤ (18 : Int) ∧ (18 : Int) ≤ 1000000 ∧ (10 : Int).natAbs < 2 ^ 64) := by decide
    have f1 : ∀ j, fitsMul 61703 j = true := fun j => fit1 (by decide)
    have f2 : ∀ j, fitsMul 2750159 j = true := fun j => fit1 (by decide)
    have f3 : ∀ j, fitsMul 367 j = true := fun j => fit1 (by decide)
    have f4 : ∀ i j : Int, fitsMul (i % 2147483629) j = true := fun i j => fit1 (by
      have := Int.emod_nonneg i (show (2147483629 : Int) ≠ 0 by decide)
      have := Int.emod_lt_of_pos i (show (0 : Int) < 2147483629 by decide)
      omega)
    have f5 : ∀ i j : Int, fitsMul (i % 2147483543) j = true := fun i j => fit1 (by
      have := Int.emod_nonneg i (show (2147483543 : Int) ≠ 0 by decide)
      have := Int.emod_lt_of_pos i (show (0 : Int) < 2147483543 by decide)
      omega)
    have p1 : (0 : Int) < 1000000033 := by decide
    have p2 : (0 : Int) < 2147483629 := by decide
    have p3 : (0 : Int) < 2147483543 := by decide
    have p4 : (0 : Int) < 2147483399 := by decide
    have p5 : (0 : Int) < 32 ∧ (32 : Int) < 1073741824 := by decide
    simp only [↓wp_then, ↓wp_sti, ↓wp_frz, ↓wp_bin, ↓wp_two, ↓wp_opd, ↓wp_idx, ↓wp_var, varK, List.getElem?_cons_zero, List.getElem?_cons_succ, Option.join_some, ↓opd_ext, ↓opd_dat, ↓wp_ret, ↓peek_dat, gIdx, idxD, isKey, get4, get3, get2, get1, Option.map_some, ↓wp_optS, if_true, binD, ↓frz_dat,
      put4, flowK, ↓wp_kite, ↓wp_tru, ↓wp_cmp, gCmp, cmpD, ↓peeks_ hk2, truD, ↓wp_set, ↓wp_blt, ↓wp_lcons, ↓wp_lnil, ↓wp_peeks1, ↓wp_peeks0, bltD, hm, hm2, ↓setv_dat, ↓wp_slot, List.length_cons, List.length_nil, Nat.reduceAdd, Nat.reduceLT, ↓chk0s hk2, ↓put0s hk2 k3 four, ↓put0s hk2 k2 four, put3, put2, ↓wp_kret, ↓ret_dat, List.set, and_self, true_and, ↓wp_optI, ↓wp_tand, ↓wp_ifb, lenD, List.length_map, h10, e18, f1, f2, f3, f4, f5, p1, p2, p3, p4, p5]
    simp only [Bool.false_eq_true, false_implies, true_implies, true_and, and_true]
    exact ⟨fun _ => ⟨fun _ => fin' _ _ _ _ _, fun _ => fin' _ _ _ _ _⟩, fun _ => fin' _ _ _ _ _⟩
end
end Ded.DM
end

section
set_option linter.all false
set_option maxRecDepth 100000
set_option maxHeartbeats 2000000
namespace Ded.DM
open PySem Ded.P
theorem sizeLine_eq' : sizeLine = 16777216 := by decide
theorem fm_map {α β : Type} (f : α → β) (l : List α) : l.filterMap (fun x => some (f x)) = l.map f := by
  induction l with
  | nil => rfl
  | cons x l ih => rw [List.filterMap_cons, ih]; rfl
def Fd (μ : List D) : Prop := ∃ (c : List Int) (sp le dr : Int), c.length ≤ 63 ∧ μ = [feedD c sp le dr]
section
variable {L n : Nat} {d : D} {μ : List D} {K : Val → List D → Prop}
theorem w_draw {many : Int} (hm : 0 < many) (hm2 : many < 1073741824) (hf : Fd μ) (h : ∀ r μ', 0 ≤ r → r < many → Fd μ' → K (.dat (.int r)) μ') : wpc (callD Ds L (n + 1) 19 [.ext 0, .dat (.int many)] μ) K := by
  obtain ⟨c, sp, le, dr, hc, rfl⟩ := hf
  refine wpc_call (d := d__law_draw) rfl rfl (wp_mono (draw_ok (callD Ds L n) L (k := 0) hm hm2 hc rfl) ?_)
  rintro f t ⟨r, sp', le', dr', rfl, h0, h1, e⟩
  show K (.dat (.int r)) t.μ
  rw [e]
  exact h r _ h0 h1 ⟨c, sp', le', dr', hc, rfl⟩
theorem w_any {ds : List D} (h0 : 0 < ds.length) (h1 : ds.length < 1000) (hf : Fd μ) (h : ∀ d ∈ ds, ∀ μ', Fd μ' → K (.dat d) μ') : wpc (callD Ds L (n + 2) 20 [.ext 0, .dat (.list ds)] μ) K := by
  refine wpc_call (d := d__law_any) rfl rfl ?_
  simp only [d__law_any, List.map, List.replicate, Nat.sub, run, den, Den.ex, Den.no, List.cons_append, List.nil_append, ↓Wa, Wb, varK, locK, frzK, retK, callK, argK, lendK, flowK, endK, setSlot, slsK, gCmp, gIdx, gNeg, ointK, popJ, chkK, putK, appF, chkDK, putDK, Nat.reduceAdd, Nat.reduceLT, Nat.reduceLeDiff, ↓len_list]
  refine w_draw (by omega) (by omega) hf fun r μ' h0 h1 hf' => ?_
  obtain ⟨e, he, ha⟩ := at_nat h0 h1
  simp only [↓Wa, Wb, varK, locK, frzK, retK, callK, argK, lendK, flowK, endK, setSlot, slsK, gCmp, gIdx, gNeg, ointK, popJ, chkK, putK, appF, chkDK, putDK, Nat.reduceAdd, Nat.reduceLT, Nat.reduceLeDiff, ↓idx_list ha]
  exact h e he μ' hf'
/-! the feed -/
theorem w_feed {ns : List Int} (hn : ns.length ≤ 63) (h : ∀ c : List Int, c.length ≤ 63 → K (.own (feedD c 0 0 0)) []) : wpc (callD Ds L (n + 1) 18 [.scr ns] []) K := by
  refine wpc_call (d := d__law_feed) rfl rfl ?_
  simp only [d__law_feed, List.map, List.replicate, Nat.sub, run, den, Den.ex, Den.no, List.cons_append, List.nil_append, ↓Wa, Wb, varK, locK, frzK, retK, callK, argK, lendK, flowK, endK, setSlot, slsK, gCmp, gIdx, gNeg, ointK, popJ, chkK, putK, appF, chkDK, putDK, Nat.reduceAdd, Nat.reduceLT, Nat.reduceLeDiff]
  have hl : ∀ {α : Type} (xs : List α), xs.length ≤ 63 → xs.length ≤ sizeLine := fun xs h => by rw [sizeLine_eq']; omega
  have lc := lc1 (ρ := [some (.scr ns), none]) (μ := []) (i := 1) (m := mBlt Blt.int (lCons (mOpd (mVar 1)) lNil)) (w := wOf (mSls 0 none (some 63))) (c := M.ret true) (ds := (cutL ns none (some 63)).map .int) (fun d => some d) ?_ (by simp) rfl ?_ fun d hd => ?_
  · refine wp_mono lc ?_
    rintro v t ⟨rfl, rfl⟩
    have k1 : isKey (.str (Str.ofString "cells")) = true := rfl
    have k2 : isKey (.str (Str.ofString "spot")) = true := rfl
    have k3 : isKey (.str (Str.ofString "rest")) = true := rfl
    have k4 : isKey (.str (Str.ofString "turn")) = true := rfl
    simp only [↓Wa, Wb, varK, locK, frzK, retK, callK, argK, lendK, flowK, endK, setSlot, slsK, gCmp, gIdx, gNeg, ointK, popJ, chkK, putK, appF, chkDK, putDK, Nat.reduceAdd, Nat.reduceLT, Nat.reduceLeDiff, k1, k2, k3, k4]
    have z := h (cutL ns none (some 63)) (Nat.le_trans cut_len hn)
    have e1 : ((cutL ns none (some 63)).map PyData.int).filterMap (fun d => some d) = (cutL ns none (some 63)).map PyData.int := by rw [fm_map, List.map_id']
    rw [e1]
    exact z
  · simp only [↓wp_wof, ↓Wa, Wb, varK, locK, frzK, retK, callK, argK, lendK, flowK, endK, setSlot, slsK, gCmp, gIdx, gNeg, ointK, popJ, chkK, putK, appF, chkDK, putDK, Nat.reduceAdd, Nat.reduceLT, Nat.reduceLeDiff]
    exact ⟨hl _ hn, rfl, rfl⟩
  · rw [fm_map, List.length_map, List.length_map]
    exact Nat.le_trans cut_len (hl _ hn)
  · obtain ⟨x, hx, rfl⟩ := List.mem_map.mp hd
    simp only [↓Wa, Wb, varK, locK, frzK, retK, callK, argK, lendK, flowK, endK, setSlot, slsK, gCmp, gIdx, gNeg, ointK, popJ, chkK, putK, appF, chkDK, putDK, Nat.reduceAdd, Nat.reduceLT, Nat.reduceLeDiff, bltD, true_implies, Bool.true_eq_false, false_implies, and_self]
end
end Ded.DM
end

section
set_option linter.all false
set_option maxRecDepth 100000
set_option maxHeartbeats 400000
namespace Ded.DM
open PySem Ded.P
/-! drawn names: names by form, no two alike -/
abbrev LET : Str := Str.ofString "abcdefghijklmnopqrstuvwxyz"
def Low (x : Str) : Prop := ∀ c ∈ x.cps.toList, 97 ≤ c ∧ c ≤ 122
def nameS (x : Str) : Prop := 1 ≤ x.length ∧ x.length ≤ 8 ∧ Low x
abbrev txts (ss : List Str) : List D := ss.map PyData.str
structure Pool (ss : List Str) : Prop where
  lo : 18 ≤ ss.length
  hi : ss.length ≤ 100
  all : ∀ x ∈ ss, nameS x
  nod : ss.Nodup
def PoolD (ds : List D) : Prop := ∃ ss, ds = txts ss ∧ Pool ss
def lowB (x : Str) : Bool := x.cps.toList.all fun c => decide (97 ≤ c) && decide (c ≤ 122)
def nameB (x : Str) : Bool := decide (1 ≤ x.length) && decide (x.length ≤ 8) && lowB x
theorem low_of {x : Str} (h : lowB x = true) : Low x := fun c hc => by
  have z := List.all_eq_true.mp h c hc
  rw [Bool.and_eq_true, decide_eq_true_eq, decide_eq_true_eq] at z
  exact z
theorem name_of {x : Str} (h : nameB x = true) : nameS x := by
  unfold nameB at h
  rw [Bool.and_eq_true, Bool.and_eq_true, decide_eq_true_eq, decide_eq_true_eq] at h
  exact ⟨h.1.1, h.1.2, low_of h.2⟩
def poolS (ss : List Str) : Bool := decide (18 ≤ ss.length) && decide (ss.length ≤ 100) && ss.all nameB && decide ((ss.map fun x => x.cps.toList).Nodup)
theorem pool_of {ss : List Str} (h : poolS ss = true) : Pool ss := by
  unfold poolS at h
  simp only [Bool.and_eq_true, decide_eq_true_eq] at h
  exact ⟨h.1.1.1, h.1.1.2, fun x hx => name_of (List.all_eq_true.mp h.1.2 x hx), List.Pairwise.imp (fun n e => n (by rw [e])) (List.pairwise_map.mp h.2)⟩
theorem strsOf_eq : ∀ {ds : List D} {ss : List Str}, strsOf ds = some ss → ds = txts ss
  | [], ss, e => by cases e; rfl
  | d :: ds, ss, e => by
    cases d with
    | str x =>
      have e : (strsOf ds).map (x :: ·) = some ss := e
      obtain ⟨s2, e1, rfl⟩ := Option.map_eq_some_iff.mp e
      rw [strsOf_eq e1]
      rfl
    | _ => cases e
theorem strsOf_strs : ∀ ss : List Str, strsOf (txts ss) = some ss
  | [] => rfl
  | x :: ss => by
    show (strsOf (txts ss)).map (x :: ·) = _
    rw [strsOf_strs ss]; rfl
def poolB (ds : List D) : Bool := match strsOf ds with
  | some ss => poolS ss
  | none => false
theorem pool_cst {ds : List D} (h : poolB ds = true) : PoolD ds := by
  unfold poolB at h
  split at h
  · rename_i ss e
    exact ⟨ss, strsOf_eq e, pool_of h⟩
  · cases h
/-- a text's signs -/
def signs (x : Str) : List Str := x.cps.toList.map fun c => (⟨#[c]⟩ : Str)
theorem signs_items {x : Str} : itemsOf (.str x) = some (txts (signs x)) := by
  show some (x.cps.toList.map fun c => PyData.str ⟨#[c]⟩) = _
  unfold txts signs
  rw [List.map_map]; rfl
theorem let_list : bltD .list [.str LET] = some (.own (.list (txts (signs LET)))) := by
  show (if LET.length ≤ sizeLine then some (Val.own (.list (LET.cps.toList.map fun c => .str ⟨#[c]⟩))) else none) = _
  rw [if_pos (by decide)]
  unfold txts signs
  rw [List.map_map]; rfl
theorem let_pool : poolS (signs LET) = true := by decide +kernel
theorem sign_len {x s : Str} (h : s ∈ signs x) : s.length = 1 := by
  obtain ⟨c, _, rfl⟩ := List.mem_map.mp h
  rfl
theorem sign_low {x s : Str} (hx : Low x) (h : s ∈ signs x) : Low s := by
  obtain ⟨c, hc, rfl⟩ := List.mem_map.mp h
  intro d hd
  have : d ∈ [c] := hd
  rw [List.mem_singleton.mp this]; exact hx c hc
theorem let_low : Low LET := low_of (by decide +kernel)
theorem low_add {x y : Str} (hx : Low x) (hy : Low y) : Low (x ++ y) := fun c hc => by
  have hc : c ∈ (x.cps ++ y.cps).toList := hc
  rw [Array.toList_append] at hc
  rcases List.mem_append.mp hc with h | h
  · exact hx c h
  · exact hy c h
theorem add_inj {x y z : Str} (h : x ++ y = x ++ z) : y = z := by
  have e : (x.cps ++ y.cps) = (x.cps ++ z.cps) := congrArg Str.cps h
  have e2 : y.cps = z.cps := by
    have := congrArg Array.toList e
    rw [Array.toList_append, Array.toList_append] at this
    exact Array.toList_inj.mp (List.append_cancel_left this)
  cases y; cases z
  dsimp only at e2
  rw [e2]
theorem len_add (x y : Str) : (x ++ y).length = x.length + y.length := strLen_append ..
/-- a stem ahead of all -/
def glue (stem : Str) (ss : List Str) : List Str := ss.map (stem ++ ·)
def glueTo (stem : Str) : D → Option D
  | .str s => some (.str (stem ++ s))
  | _ => none
theorem glue_fm (stem : Str) (ss : List Str) : (txts ss).filterMap (glueTo stem) = txts (glue stem ss) := by
  induction ss with
  | nil => rfl
  | cons x ss ih =>
    show ((PyData.str x) :: txts ss).filterMap (glueTo stem) = _
    rw [List.filterMap_cons]
    show PyData.str (stem ++ x) :: _ = _
    rw [ih]; rfl
theorem glue_nod {stem : Str} {ss : List Str} (h : ss.Nodup) : (glue stem ss).Nodup := by
  unfold glue List.Nodup
  rw [List.pairwise_map]
  exact List.Pairwise.imp (fun n e => n (add_inj e)) h
theorem stem_pool {stem : Str} (h7 : stem.length ≤ 7) (hl : Low stem) : Pool (glue stem (signs LET)) := by
  have p := pool_of let_pool
  refine ⟨?_, ?_, fun x hx => ?_, glue_nod p.nod⟩
  · unfold glue; rw [List.length_map]; exact p.lo
  · unfold glue; rw [List.length_map]; exact p.hi
  · obtain ⟨s, hs, rfl⟩ := List.mem_map.mp hx
    have e := sign_len hs
    have e2 := len_add stem s
    exact ⟨by omega, by omega, low_add hl (sign_low let_low hs)⟩
theorem join_low : ∀ ss : List Str, (∀ x ∈ ss, x.length ≤ 1 ∧ Low x) → (Str.join (Str.ofString "") ss).length ≤ ss.length ∧ Low (Str.join (Str.ofString "") ss)
  | [], _ => ⟨by decide, fun c hc => by cases hc⟩
  | [x], h => h x List.mem_cons_self
  | x :: y :: r, h => by
    obtain ⟨a, b⟩ := join_low (y :: r) fun z hz => h z (List.mem_cons_of_mem _ hz)
    obtain ⟨c, e⟩ := h x List.mem_cons_self
    have e0 : (Str.ofString "").length = 0 := by decide
    refine ⟨?_, ?_⟩
    · show (x ++ Str.ofString "" ++ Str.join (Str.ofString "") (y :: r)).length ≤ _
      rw [len_add, len_add, e0]
      simp only [List.length_cons] at a ⊢
      omega
    · show Low (x ++ Str.ofString "" ++ Str.join (Str.ofString "") (y :: r))
      exact low_add (low_add e fun c hc => by cases hc) b
/-- eight by eight -/
def sixtyfour : List Str := (signs (Str.ofString "abcdefgh")).flatMap fun c => glue c (signs (Str.ofString "stuvwxyz"))
theorem sixty_pool : poolS sixtyfour = true := by decide +kernel
theorem sixty_len : sixtyfour.length = 64 := by decide +kernel
end Ded.DM
end

section
set_option linter.all false
set_option maxRecDepth 100000
set_option maxHeartbeats 1000000
namespace Ded.DM
open PySem Ded.P
def plainC (c : Nat) : Bool := decide (32 ≤ c) && decide (c < 127) && decide (c ≠ 39) && decide (c ≠ 92) && decide (c ≠ 34)
theorem char_plain : ∀ c, c < 127 → plainC c = true → Builtin.Str.reprChar 39 c = [c] := by decide +kernel
def plainS (x : Str) : Prop := ∀ c ∈ x.cps.toList, plainC c = true
theorem plain_lt {c : Nat} (h : plainC c = true) : c < 127 ∧ c ≠ 39 := by
  unfold plainC at h
  simp only [Bool.and_eq_true, decide_eq_true_eq] at h
  exact ⟨h.1.1.1.2, h.1.1.2⟩
theorem quote_plain {x : Str} (h : plainS x) : reprQuote x = 39 := by
  unfold reprQuote
  have : x.cps.contains 39 = false := by
    rw [Bool.eq_false_iff]
    intro hc
    have hm := Array.contains_iff_mem.mp hc
    exact (plain_lt (h 39 (Array.mem_toList_iff.mpr hm))).2 rfl
  rw [this]; rfl
theorem fold_plain : ∀ (l : List Nat) (acc : Array Nat), (∀ c ∈ l, plainC c = true) → (l.foldl (fun out c => out ++ (Builtin.Str.reprChar 39 c).toArray) acc).toList = acc.toList ++ l
  | [], acc, _ => by simp
  | c :: l, acc, h => by
    have hc := h c List.mem_cons_self
    rw [List.foldl_cons, fold_plain l _ fun z hz => h z (List.mem_cons_of_mem _ hz), char_plain c (plain_lt hc).1 hc]
    simp
theorem repr_plain {x : Str} (h : plainS x) : (reprText x).cps.toList = 39 :: (x.cps.toList ++ [39]) := by
  unfold reprText
  rw [quote_plain h]
  show (Array.push _ 39).toList = _
  rw [Array.toList_push, ← Array.foldl_toList, fold_plain _ _ h]
  simp
theorem str_ext {x y : Str} (h : x.cps.toList = y.cps.toList) : x = y := by
  have e : x.cps = y.cps := Array.toList_inj.mp h
  cases x; cases y
  dsimp only at e
  rw [e]
/-! how long a value shows -/
mutual
def wt : D → Nat
  | .none => 4
  | .bool _ => 5
  | .int _ => 90
  | .str x => 10 * x.length + 2
  | .list ds => wtAll ds + 3
  | .tuple ds => wtAll ds + 3
  | .dict _ => 0
def wtAll : List D → Nat
  | [] => 0
  | d :: ds => wt d + 2 + wtAll ds
end
mutual
def fitsD : D → Bool
  | .none => true
  | .bool _ => true
  | .int i => decide (i.natAbs < 10 ^ 80)
  | .str x => x.cps.toList.all plainC
  | .list ds => fitsAll ds
  | .tuple ds => fitsAll ds
  | .dict _ => false
def fitsAll : List D → Bool
  | [] => true
  | d :: ds => fitsD d && fitsAll ds
end
theorem fits_mem : ∀ {ds : List D}, fitsAll ds = true ↔ ∀ d ∈ ds, fitsD d = true
  | [] => ⟨fun _ d hd => (nomatch hd), fun _ => rfl⟩
  | d :: ds => by
    have ih := fits_mem (ds := ds)
    show (fitsD d && fitsAll ds) = true ↔ _
    rw [Bool.and_eq_true, ih]
    constructor
    · rintro ⟨a, b⟩ x hx
      rcases List.mem_cons.mp hx with e | e
      · exact e ▸ a
      · exact b x e
    · intro h
      exact ⟨h d List.mem_cons_self, fun x hx => h x (List.mem_cons_of_mem _ hx)⟩
theorem fits_app {a b : List D} (ha : fitsAll a = true) (hb : fitsAll b = true) : fitsAll (a ++ b) = true := fits_mem.mpr fun d hd => by
  rcases List.mem_append.mp hd with h | h
  · exact fits_mem.mp ha d h
  · exact fits_mem.mp hb d h
theorem wt_app : ∀ (a b : List D), wtAll (a ++ b) = wtAll a + wtAll b
  | [], b => by show wtAll b = 0 + wtAll b; omega
  | d :: a, b => by
    have ih := wt_app a b
    show wt d + 2 + wtAll (a ++ b) = wt d + 2 + wtAll a + wtAll b
    omega
theorem from_len : ∀ (ts : List Str) (k : Nat) (acc : Str), (textFrom k acc ts).length ≤ acc.length + (ts.map fun t => t.length + 2).sum
  | [], k, acc => by show acc.length ≤ _; simp
  | t :: ts, k, acc => by
    have ih := from_len ts (k + 1) (acc ++ (if k > 0 then ", " else "" : String) ++ t)
    rw [len_add, len_add] at ih
    have : ((if k > 0 then ", " else "" : String) : Str).length ≤ 2 := by split <;> decide
    show (textFrom (k + 1) _ ts).length ≤ acc.length + ((t.length + 2) + (ts.map fun t => t.length + 2).sum)
    omega
theorem join_len : ∀ ts : List Str, (Str.join ", " ts).length ≤ (ts.map fun t => t.length + 2).sum
  | [] => Nat.zero_le _
  | [x] => by show x.length ≤ (x.length + 2) + 0; omega
  | x :: y :: r => by
    have ih := join_len (y :: r)
    have e2 : ((", " : String) : Str).length = 2 := rfl
    have e : (x ++ ", " ++ Str.join ", " (y :: r)).length = x.length + 2 + (Str.join ", " (y :: r)).length := by rw [len_add, len_add, e2]
    show (x ++ ", " ++ Str.join ", " (y :: r)).length ≤ (x.length + 2) + ((y :: r).map fun t => t.length + 2).sum
    omega
theorem char_le : ∀ c, c < 128 → (Builtin.Str.reprChar 39 c).length ≤ 10 := by decide +kernel
theorem plain_len {x : Str} (h : plainS x) : (reprText x).length = x.length + 2 := by
  have e := congrArg List.length (repr_plain h)
  rw [List.length_cons, List.length_append] at e
  have a : (reprText x).cps.toList.length = (reprText x).length := Array.length_toList
  have b : x.cps.toList.length = x.length := Array.length_toList
  simp only [List.length_cons, List.length_nil] at e
  omega
theorem int_len {i : Int} (h : i.natAbs < 10 ^ 80) : (Str.ofString (toString i)).length ≤ 81 := by
  rw [ofString_length, Int.toString_eq_repr, Int.repr_eq_if]
  have nat : ∀ n : Nat, n < 10 ^ 80 → (Nat.repr n).length ≤ 80 := fun n hn => (Nat.length_repr_le_iff (by decide)).mpr hn
  split
  · rename_i h0
    have := nat i.toNat (by omega)
    omega
  · rename_i h0
    have := nat (-i).toNat (by omega)
    rw [String.length_append]
    have e : ("-" : String).length = 1 := rfl
    omega
mutual
theorem fits_ok : ∀ d : D, fitsD d = true → d.canLay0 = true ∧ d.showable = true ∧ d.shown.length ≤ wt d
  | .none, _ => ⟨rfl, rfl, by decide⟩
  | .bool b, _ => ⟨rfl, rfl, by cases b <;> decide⟩
  | .int i, h => by
    have h : decide (i.natAbs < 10 ^ 80) = true := h
    have h := of_decide_eq_true h
    refine ⟨rfl, ?_, Nat.le_trans (int_len h) (show 81 ≤ 90 by decide)⟩
    show decide (i.natAbs.log2 < 1920) = true
    rw [decide_eq_true_eq]
    by_cases z : i.natAbs = 0
    · rw [z]; decide
    · rw [Nat.log2_lt z]
      exact Nat.lt_of_lt_of_le h (Nat.le_trans (show 10 ^ 80 ≤ 2 ^ 270 by decide +kernel) (Nat.pow_le_pow_right (by decide) (by decide)))
  | .str x, h => by
    have h : x.cps.toList.all plainC = true := h
    have hp : plainS x := fun c hc => List.all_eq_true.mp h c hc
    refine ⟨?_, rfl, ?_⟩
    · show (x.cps.all fun c => decide (c < 0x110000)) = true
      rw [Array.all_eq_true_iff_forall_mem]
      intro c hc
      have := (plain_lt (hp c (Array.mem_toList_iff.mpr hc))).1
      exact decide_eq_true (by omega)
    · show (reprText x).length ≤ 10 * x.length + 2
      rw [plain_len hp]
      omega
  | .list ds, h => by
    obtain ⟨a, b, c⟩ := fits_all ds h
    refine ⟨a, b, ?_⟩
    show (listText (PyData.shownAll ds)).length ≤ wtAll ds + 3
    unfold listText
    rw [len_add]
    have := from_len (PyData.shownAll ds) 0 "["
    have e1 : (("[" : String) : Str).length = 1 := rfl
    have e2 : (("]" : String) : Str).length = 1 := rfl
    omega
  | .tuple ds, h => by
    obtain ⟨a, b, c⟩ := fits_all ds h
    refine ⟨a, b, ?_⟩
    show (tupleText (PyData.shownAll ds)).length ≤ wtAll ds + 3
    unfold tupleText
    rw [len_add, len_add]
    have := join_len (PyData.shownAll ds)
    have e1 : (("(" : String) : Str).length = 1 := rfl
    have : ((if (PyData.shownAll ds).length == 1 then ",)" else ")" : String) : Str).length ≤ 2 := by split <;> decide
    omega
  | .dict _, h => by cases h
theorem fits_all : ∀ ds : List D, fitsAll ds = true → PyData.canLayAll0 ds = true ∧ PyData.showableAll ds = true ∧ ((PyData.shownAll ds).map fun t => t.length + 2).sum ≤ wtAll ds
  | [], _ => ⟨rfl, rfl, Nat.le_refl _⟩
  | d :: ds, h => by
    have h : (fitsD d && fitsAll ds) = true := h
    rw [Bool.and_eq_true] at h
    obtain ⟨a, b, c⟩ := fits_ok d h.1
    obtain ⟨a2, b2, c2⟩ := fits_all ds h.2
    refine ⟨?_, ?_, ?_⟩
    · show (d.canLay0 && PyData.canLayAll0 ds) = true
      rw [a, a2]; rfl
    · show (d.showable && PyData.showableAll ds) = true
      rw [b, b2]; rfl
    · show (d.shown.length + 2) + ((PyData.shownAll ds).map fun t => t.length + 2).sum ≤ wt d + 2 + wtAll ds
      omega
end
/-- a value that fits can be shown -/
theorem fits_rep {d : D} (h : fitsD d = true) (hw : wt d ≤ 1000000) (hd : d.depth ≤ 60) : canRepr d = true := by
  obtain ⟨a, b, c⟩ := fits_ok d h
  have f3 : d.shown.length ≤ sizeLine := by rw [sizeLine_eq']; omega
  unfold canRepr
  rw [a, b, decide_eq_true f3, decide_eq_true hd]; rfl
structure V (w k : Nat) (d : D) : Prop where
  fits : fitsD d = true
  wt : wt d ≤ w
  dep : d.depth ≤ k
abbrev VV (d : D) : Prop := V 20000 20 d
theorem V.up {w k w' k' : Nat} {d : D} (h : V w k d) (hw : w ≤ w') (hk : k ≤ k') : V w' k' d := ⟨h.fits, Nat.le_trans h.wt hw, Nat.le_trans h.dep hk⟩
theorem two_len : ∀ ds : List D, 2 * ds.length ≤ wtAll ds
  | [] => Nat.zero_le _
  | d :: ds => by
    have ih := two_len ds
    show 2 * (ds.length + 1) ≤ wt d + 2 + wtAll ds
    omega
theorem wt_mem : ∀ {ds : List D} {d : D}, d ∈ ds → wt d + 2 ≤ wtAll ds
  | x :: ds, d, h => by
    show _ ≤ wt x + 2 + wtAll ds
    rcases List.mem_cons.mp h with e | e
    · subst e; omega
    · have := wt_mem e
      omega
theorem dep_mem : ∀ {ds : List D} {d : D}, d ∈ ds → d.depth ≤ PyData.depthAll ds
  | x :: ds, d, h => by
    show _ ≤ max x.depth (PyData.depthAll ds)
    rcases List.mem_cons.mp h with e | e
    · subst e; omega
    · have := dep_mem e
      omega
theorem dep_all {k : Nat} : ∀ {ds : List D}, (∀ d ∈ ds, d.depth ≤ k) → PyData.depthAll ds ≤ k
  | [], _ => Nat.zero_le _
  | x :: ds, h => by
    have a := h x List.mem_cons_self
    have b := dep_all fun d hd => h d (List.mem_cons_of_mem _ hd)
    show max x.depth (PyData.depthAll ds) ≤ k
    omega
section
variable {w k : Nat} {d : D} {ds : List D}
theorem V.tup_mem (h : V w k (.tuple ds)) (hm : d ∈ ds) : V w k d := by
  have f : fitsAll ds = true := h.fits
  have z : wtAll ds + 3 ≤ w := h.wt
  have dd : PyData.depthAll ds + 1 ≤ k := h.dep
  have a := wt_mem hm
  have b := dep_mem hm
  exact ⟨fits_mem.mp f d hm, by omega, by omega⟩
theorem V.lst_mem (h : V w k (.list ds)) (hm : d ∈ ds) : V w k d := by
  have f : fitsAll ds = true := h.fits
  have z : wtAll ds + 3 ≤ w := h.wt
  have dd : PyData.depthAll ds + 1 ≤ k := h.dep
  have a := wt_mem hm
  have b := dep_mem hm
  exact ⟨fits_mem.mp f d hm, by omega, by omega⟩
theorem V.tup_len (h : V w k (.tuple ds)) : ds.length ≤ w := by
  have z : wtAll ds + 3 ≤ w := h.wt
  have := two_len ds
  omega
theorem V.str (x : Str) (h : V w k (.str x)) : plainS x ∧ 10 * x.length ≤ w := by
  have f : x.cps.toList.all plainC = true := h.fits
  have z : 10 * x.length + 2 ≤ w := h.wt
  exact ⟨fun c hc => List.all_eq_true.mp f c hc, by omega⟩
theorem V.can (h : VV d) : canRepr d = true := fits_rep h.fits (by have := h.wt; omega) (by have := h.dep; omega)
/-- a tuple, a list of such -/
theorem v_tuple {c : Nat} (f : ∀ d ∈ ds, fitsD d = true) (hw : wtAll ds + 3 ≤ w) (hk : ∀ d ∈ ds, d.depth ≤ c) (hc : c + 1 ≤ k) : V w k (.tuple ds) := ⟨fits_mem.mpr f, hw, by
  have := dep_all hk
  show PyData.depthAll ds + 1 ≤ k
  omega⟩
theorem v_list {c : Nat} (f : ∀ d ∈ ds, fitsD d = true) (hw : wtAll ds + 3 ≤ w) (hk : ∀ d ∈ ds, d.depth ≤ c) (hc : c + 1 ≤ k) : V w k (.list ds) := ⟨fits_mem.mpr f, hw, by
  have := dep_all hk
  show PyData.depthAll ds + 1 ≤ k
  omega⟩
theorem v_to_list (h : V w k (.tuple ds)) : V w k (.list ds) := ⟨h.fits, h.wt, h.dep⟩
/-- by reckoning -/
def vB (w k : Nat) (d : D) : Bool := fitsD d && decide (wt d ≤ w) && decide (d.depth ≤ k)
theorem v_of (h : vB w k d = true) : V w k d := by
  unfold vB at h
  simp only [Bool.and_eq_true, decide_eq_true_eq] at h
  exact ⟨h.1.1, h.1.2, h.2⟩
theorem vs_of (h : (ds.all (vB w k)) = true) : ∀ d ∈ ds, V w k d := fun d hd => v_of (List.all_eq_true.mp h d hd)
end
section
variable {w k : Nat} {d : D} {ds : List D}
theorem wt_all_le {c : Nat} : ∀ {ds : List D}, (∀ d ∈ ds, wt d ≤ c) → wtAll ds ≤ ds.length * (c + 2)
  | [], _ => Nat.zero_le _
  | x :: ds, h => by
    have a := h x List.mem_cons_self
    have b := wt_all_le fun d hd => h d (List.mem_cons_of_mem _ hd)
    show wt x + 2 + wtAll ds ≤ (ds.length + 1) * (c + 2)
    rw [Nat.succ_mul]
    omega
theorem v_many {a b c : Nat} (n : Nat) (hl : ds.length ≤ n) (h : ∀ d ∈ ds, V a b d) (hw : n * (a + 2) + 3 ≤ w) (hk : b + 1 ≤ k) : V w k (.tuple ds) ∧ V w k (.list ds) := by
  have e := wt_all_le (c := a) fun d hd => (h d hd).wt
  have : ds.length * (a + 2) ≤ n * (a + 2) := Nat.mul_le_mul_right _ hl
  exact ⟨v_tuple (fun d hd => (h d hd).fits) (by omega) (fun d hd => (h d hd).dep) hk, v_list (fun d hd => (h d hd).fits) (by omega) (fun d hd => (h d hd).dep) hk⟩
theorem low_plain : ∀ c, 97 ≤ c → c ≤ 122 → plainC c = true := by
  intro c h1 h2
  unfold plainC
  simp only [Bool.and_eq_true, decide_eq_true_eq]
  omega
theorem v_name {x : Str} (h : nameS x) : V 82 0 (.str x) := by
  refine ⟨?_, ?_, Nat.zero_le _⟩
  · show x.cps.toList.all plainC = true
    rw [List.all_eq_true]
    intro c hc
    have := h.2.2 c hc
    exact low_plain c (by omega) (by omega)
  · have := h.2.1
    show 10 * x.length + 2 ≤ 82
    omega
theorem mem1 {P : D → Prop} {a : D} (h1 : P a) : ∀ d ∈ [a], P d := fun d hd => List.mem_singleton.mp hd ▸ h1
theorem memc {P : D → Prop} {a : D} {l : List D} (h1 : P a) (h2 : ∀ d ∈ l, P d) : ∀ d ∈ a :: l, P d := fun d hd => by
  rcases List.mem_cons.mp hd with e | e
  · exact e ▸ h1
  · exact h2 d e
theorem mem0 {P : D → Prop} : ∀ d ∈ ([] : List D), P d := fun d hd => by cases hd
theorem mema {P : D → Prop} {a b : List D} (h1 : ∀ d ∈ a, P d) (h2 : ∀ d ∈ b, P d) : ∀ d ∈ a ++ b, P d := fun d hd => by
  rcases List.mem_append.mp hd with e | e
  · exact h1 d e
  · exact h2 d e
theorem lay_shaped (a : d.canLay0 = true) (b : d.depth ≤ 60) : SeqAt.shaped d = true := by
  show (d.canLay0 && decide (d.depth ≤ 64)) = true
  rw [a, decide_eq_true (by omega)]; rfl
theorem V.lay (h : VV d) : d.canLay0 = true := (fits_ok d h.fits).1
theorem V.shp (h : VV d) : SeqAt.shaped d = true := lay_shaped h.lay (by have := h.dep; omega)
end
end Ded.DM
end

section
set_option linter.all false
set_option maxRecDepth 100000
set_option maxHeartbeats 2000000
namespace Ded.DM
open PySem Ded.P
theorem wpc_is {r : R Val} {v0 : Val} {μ0 : List D} (h : wpc r fun v μ => v = v0 ∧ μ = μ0) (K : Val → List D → Prop) : wpc r K = K v0 μ0 := by
  obtain ⟨v, t, rfl, rfl, h2⟩ := wpc_ok h
  show K v t.μ = _
  rw [h2]
theorem mask_dat {d : D} : maskV (some (.dat d)) = some (.dat d) := rfl
theorem rep_of {a : D} (h : canRepr a = true) : bltD .repr [a] = some (.dat (.str a.shown)) := by
  show (if canRepr a = true then _ else none) = _
  rw [if_pos h]
theorem cmp_eqs {a b : Str} : cmpD .eq (.str a) (.str b) = some (decide (a = b)) := by
  show eqD (.str a) (.str b) = _
  unfold eqD
  rw [show scalD (.str a) (.str b) = true from rfl, Bool.true_or, if_pos rfl]
  rfl
theorem eq_self (x : Str) : cmpD .eq (.str x) (.str x) = some true := by
  rw [cmp_eqs, decide_eq_true rfl]
theorem ne_self (x : Str) : cmpD .ne (.str x) (.str x) = some false := by
  show (cmpD .eq (.str x) (.str x)).map (!·) = _
  rw [eq_self]; rfl
theorem rearr2 {α : Type} (a b : α) : rearr [1, 0] [a, b] = [b, a] := rfl
abbrev toldD (v : D) : D := .tuple [.str (Str.ofString "told"), v]
/-- how a call ends, and what the others' objects are then -/
def ends : R Val → Option (D × List D)
  | .ok (.dat v) t => some (v, t.μ)
  | _ => none
/-- what is told of a call -/
def tells : R Val → Option (D × List D)
  | .ok (.dat v) t => some (toldD v, t.μ)
  | .exc c fs t => (refusalOf 1 c fs).map (·, t.μ)
  | _ => none
theorem ends_wpc {r : R Val} {d : D} {μ : List D} (h : ends r = some (d, μ)) (K : Val → List D → Prop) : wpc r K = K (.dat d) μ := by
  unfold ends at h
  split at h
  · cases h
    rfl
  · cases h
section
variable {cd : Nat → List Val → List D → R Val} {g : Nat} {m : M (List Val)} {ρ : List (Option Val)} {μ : List D} {us : List Val} {d : D} {X : Val → S → Prop}
theorem said_run {m : M Val} (h : wp m ⟨ρ.map maskV, μ⟩ fun v t => False ∨ ∃ d', v = .dat d' ∧ d = toldD d' ∧ t.μ = μ) (x : X (.dat d) ⟨ρ, μ⟩) : wp (mSaid (refusalOf 1) m) ⟨ρ, μ⟩ X := by
  obtain ⟨v, t, e, z⟩ := wp_ok h
  rcases z with z | ⟨d', rfl, rfl, rfl⟩
  · exact z.elim
  refine wp_of (a := .dat (toldD d')) (t := ⟨ρ, t.μ⟩) ?_ x
  have e6 : mFrz m ⟨ρ.map maskV, t.μ⟩ = .ok d' t := by
    show M.bind m freeze _ = _
    unfold M.bind
    rw [e]
    rfl
  unfold mSaid
  dsimp only
  rw [e6]
/-- a call that is told -/
theorem wp_saidc (ha : wp m ⟨ρ.map maskV, μ⟩ fun vs t => solveAll t vs = some us ∧ t.μ = μ) (hr : tells (cd g us μ) = some (d, μ)) (h : X (.dat d) ⟨ρ, μ⟩) : wp (mSaid (refusalOf 1) (mCall cd g m)) ⟨ρ, μ⟩ X := by
  obtain ⟨vs, t, e1, e2, e3⟩ := wp_ok ha
  refine wp_of (a := .dat d) (t := ⟨ρ, μ⟩) ?_ h
  unfold tells at hr
  split at hr
  · rename_i v t2 e4
    cases hr
    have e6 : mFrz (mCall cd g m) ⟨ρ.map maskV, t2.μ⟩ = .ok v { t with μ := t2.μ } := by
      show M.bind (M.bind m _) freeze _ = _
      unfold M.bind
      rw [e1]
      dsimp only
      rw [e2]
      dsimp only
      rw [e3, e4]
      rfl
    unfold mSaid
    dsimp only
    rw [e6]
  · rename_i c fs t2 e4
    obtain ⟨d', er, e⟩ := Option.map_eq_some_iff.mp hr
    cases e
    have e6 : mFrz (mCall cd g m) ⟨ρ.map maskV, t2.μ⟩ = .exc c fs { t with μ := t2.μ } := by
      show M.bind (M.bind m _) freeze _ = _
      unfold M.bind
      rw [e1]
      dsimp only
      rw [e2]
      dsimp only
      rw [e3, e4]
    unfold mSaid
    dsimp only
    rw [e6]
    dsimp only
    rw [er]
  · cases hr
end
theorem solve_dats {s : S} : ∀ ds : List D, solveAll s (ds.map .dat) = some (ds.map .dat)
  | [] => rfl
  | d :: ds => by
    rw [List.map_cons, solve_dat, solve_dats ds]; rfl
/-- arguments as a list of data -/
theorem args_of {cd : Nat → List Val → List D → R Val} {as : E} {ρ : List (Option Val)} {μ : List D} {ds : List D} (h : wp (den cd as).a ⟨ρ, μ⟩ fun vs t => vs = ds.map .dat ∧ t = ⟨ρ, μ⟩) : wp (den cd as).a ⟨ρ, μ⟩ fun vs t => solveAll t vs = some (ds.map .dat) ∧ t.μ = μ := by
  refine wp_mono h ?_
  rintro v t ⟨rfl, rfl⟩
  exact ⟨solve_dats _, rfl⟩
theorem wp_step {m k : M Flow} {s t1 : S} {X : Flow → S → Prop} (h : wp m s fun f t => f = .nx ∧ t = t1) (h2 : wp k t1 X) : wp (thenK m k) s X := wp_seq h fun t e => by
  subst e
  exact h2
end Ded.DM
end

section
set_option linter.all false
set_option maxRecDepth 100000
set_option maxHeartbeats 0
namespace Ded.DM
open PySem Ded.P
/-! the runs: three lists of names, all else is one reckoning each -/
def nm1 : D := .list [.str (Str.ofString "box"), .str (Str.ofString "bulb"), .str (Str.ofString "candle"), .str (Str.ofString "lamp"), .str (Str.ofString "light"), .str (Str.ofString "plug"), .str (Str.ofString "trio")]
def nm2 : D := .list [.str (Str.ofString "a"), .str (Str.ofString "ab"), .str (Str.ofString "abc"), .str (Str.ofString "b"), .str (Str.ofString "ba"), .str (Str.ofString "zz"), .str (Str.ofString "zzzzzzzz")]
def nm3 : D := .list [.str (Str.ofString "apart"), .str (Str.ofString "build"), .str (Str.ofString "choice"), .str (Str.ofString "held"), .str (Str.ofString "part"), .str (Str.ofString "sell"), .str (Str.ofString "turn")]
def outO : R Val → D
  | .ok (.own v) _ => v
  | .ok (.dat v) _ => v
  | _ => .none
def itemsL : D → List D
  | .list ds => ds
  | _ => []
def at0 : D → D
  | .tuple (a :: _) => a
  | _ => .none
def at1 : D → D
  | .tuple (_ :: b :: _) => b
  | _ => .none
def at2 : D → D
  | .tuple (_ :: _ :: c :: _) => c
  | _ => .none
def isTrip : D → Bool
  | .tuple [_, _, _] => true
  | _ => false
def hsD (nm : D) : List D := itemsL (outO (callD P.Ds 1000 59 23 [.dat nm] []))
def osD (nm : D) : List D := itemsL (outO (callD P.Ds 1000 59 24 [.dat nm] []))
def oddsD (r : D) : List D := itemsL (outO (callD P.Ds 1000 59 26 [.dat (at0 r), .dat (at1 r)] []))
abbrev scenesD (nm : D) : List D := hsD nm ++ osD nm
abbrev useD : D := .tuple [.str (Str.ofString "use"), .str (Str.ofString "sales"), .int (-1)]
/-- as ends, of one's own -/
def endsO : R Val → Option (D × List D)
  | .ok (.own v) t => some (v, t.μ)
  | _ => none
theorem endsO_wpc {r : R Val} {d : D} {μ : List D} (h : endsO r = some (d, μ)) (K : Val → List D → Prop) : wpc r K = K (.own d) μ := by
  unfold endsO at h
  split at h
  · cases h
    rfl
  · cases h
theorem map_at {α β : Type} {f g : α → β} : ∀ {l : List α}, l.map f = l.map g → ∀ a ∈ l, f a = g a := fun h a ha => List.map_inj_left.mp h a ha
end Ded.DM
end

section
set_option linter.all false
set_option maxRecDepth 100000
set_option maxHeartbeats 0
namespace Ded.DM
open PySem Ded.P
section
variable (μ : List D)
theorem heads_1 : endsO (callD P.Ds 1000 59 23 [.dat nm1] μ) = some (.list (hsD nm1), μ) := by kernel_rfl
theorem others_1 : endsO (callD P.Ds 1000 59 24 [.dat nm1] μ) = some (.list (osD nm1), μ) := by kernel_rfl
theorem net_1 : (scenesD nm1).map (fun r => ends (callD P.Ds 1000 59 17 [.dat (at0 r), .dat (at1 r)] μ)) = (scenesD nm1).map fun r => some (at2 r, μ) := by kernel_rfl
theorem odds_1 : (scenesD nm1).map (fun r => endsO (callD P.Ds 1000 59 26 [.dat (at0 r), .dat (at1 r)] μ)) = (scenesD nm1).map fun r => some (.list (oddsD r), μ) := by kernel_rfl
theorem refused_1 : (scenesD nm1).map (fun r => (oddsD r).map fun o => tells (callD P.Ds 1000 59 17 [.dat (at0 r), .dat o] μ)) = (scenesD nm1).map fun r => (oddsD r).map fun _ => some (useD, μ) := by kernel_rfl
end
theorem okrow_1 : (scenesD nm1).all (fun r => isTrip r && vB 40000 20 (at2 r)) = true := by decide +kernel
theorem vall_1 : vB 400000 30 (.list (scenesD nm1)) = true := by decide +kernel
theorem short_1 : (hsD nm1).length + (osD nm1).length ≤ 100 := by decide +kernel
end Ded.DM
end

section
set_option linter.all false
set_option maxRecDepth 100000
set_option maxHeartbeats 0
namespace Ded.DM
open PySem Ded.P
section
variable (μ : List D)
theorem heads_2 : endsO (callD P.Ds 1000 59 23 [.dat nm2] μ) = some (.list (hsD nm2), μ) := by kernel_rfl
theorem others_2 : endsO (callD P.Ds 1000 59 24 [.dat nm2] μ) = some (.list (osD nm2), μ) := by kernel_rfl
theorem net_2 : (scenesD nm2).map (fun r => ends (callD P.Ds 1000 59 17 [.dat (at0 r), .dat (at1 r)] μ)) = (scenesD nm2).map fun r => some (at2 r, μ) := by kernel_rfl
theorem odds_2 : (scenesD nm2).map (fun r => endsO (callD P.Ds 1000 59 26 [.dat (at0 r), .dat (at1 r)] μ)) = (scenesD nm2).map fun r => some (.list (oddsD r), μ) := by kernel_rfl
theorem refused_2 : (scenesD nm2).map (fun r => (oddsD r).map fun o => tells (callD P.Ds 1000 59 17 [.dat (at0 r), .dat o] μ)) = (scenesD nm2).map fun r => (oddsD r).map fun _ => some (useD, μ) := by kernel_rfl
end
theorem okrow_2 : (scenesD nm2).all (fun r => isTrip r && vB 40000 20 (at2 r)) = true := by decide +kernel
theorem vall_2 : vB 400000 30 (.list (scenesD nm2)) = true := by decide +kernel
theorem short_2 : (hsD nm2).length + (osD nm2).length ≤ 100 := by decide +kernel
end Ded.DM
end

section
set_option linter.all false
set_option maxRecDepth 100000
set_option maxHeartbeats 0
namespace Ded.DM
open PySem Ded.P
section
variable (μ : List D)
theorem heads_3 : endsO (callD P.Ds 1000 59 23 [.dat nm3] μ) = some (.list (hsD nm3), μ) := by kernel_rfl
theorem others_3 : endsO (callD P.Ds 1000 59 24 [.dat nm3] μ) = some (.list (osD nm3), μ) := by kernel_rfl
theorem net_3 : (scenesD nm3).map (fun r => ends (callD P.Ds 1000 59 17 [.dat (at0 r), .dat (at1 r)] μ)) = (scenesD nm3).map fun r => some (at2 r, μ) := by kernel_rfl
theorem odds_3 : (scenesD nm3).map (fun r => endsO (callD P.Ds 1000 59 26 [.dat (at0 r), .dat (at1 r)] μ)) = (scenesD nm3).map fun r => some (.list (oddsD r), μ) := by kernel_rfl
theorem refused_3 : (scenesD nm3).map (fun r => (oddsD r).map fun o => tells (callD P.Ds 1000 59 17 [.dat (at0 r), .dat o] μ)) = (scenesD nm3).map fun r => (oddsD r).map fun _ => some (useD, μ) := by kernel_rfl
end
theorem okrow_3 : (scenesD nm3).all (fun r => isTrip r && vB 40000 20 (at2 r)) = true := by decide +kernel
theorem vall_3 : vB 400000 30 (.list (scenesD nm3)) = true := by decide +kernel
theorem short_3 : (hsD nm3).length + (osD nm3).length ≤ 100 := by decide +kernel
end Ded.DM
end

section
set_option linter.all false
set_option maxRecDepth 100000
set_option maxHeartbeats 1000000
namespace Ded.DM
open PySem Ded.P
/-- all that is reckoned of a list of names -/
structure Facts (nm : D) : Prop where
  heads : ∀ μ, endsO (callD P.Ds 1000 59 23 [.dat nm] μ) = some (.list (hsD nm), μ)
  others : ∀ μ, endsO (callD P.Ds 1000 59 24 [.dat nm] μ) = some (.list (osD nm), μ)
  net : ∀ μ, ∀ r ∈ scenesD nm, ends (callD P.Ds 1000 59 17 [.dat (at0 r), .dat (at1 r)] μ) = some (at2 r, μ)
  odds : ∀ μ, ∀ r ∈ scenesD nm, endsO (callD P.Ds 1000 59 26 [.dat (at0 r), .dat (at1 r)] μ) = some (.list (oddsD r), μ)
  refused : ∀ μ, ∀ r ∈ scenesD nm, ∀ o ∈ oddsD r, tells (callD P.Ds 1000 59 17 [.dat (at0 r), .dat o] μ) = some (useD, μ)
  ok : ∀ r ∈ scenesD nm, (isTrip r && vB 40000 20 (at2 r)) = true
  vall : vB 400000 30 (.list (scenesD nm)) = true
  short : (hsD nm).length + (osD nm).length ≤ 100
theorem facts1 : Facts nm1 := ⟨heads_1, others_1, fun μ => map_at (net_1 μ), fun μ => map_at (odds_1 μ), fun μ r hr => map_at (map_at (refused_1 μ) r hr), List.all_eq_true.mp okrow_1, vall_1, short_1⟩
theorem facts2 : Facts nm2 := ⟨heads_2, others_2, fun μ => map_at (net_2 μ), fun μ => map_at (odds_2 μ), fun μ r hr => map_at (map_at (refused_2 μ) r hr), List.all_eq_true.mp okrow_2, vall_2, short_2⟩
theorem facts3 : Facts nm3 := ⟨heads_3, others_3, fun μ => map_at (net_3 μ), fun μ => map_at (odds_3 μ), fun μ r hr => map_at (map_at (refused_3 μ) r hr), List.all_eq_true.mp okrow_3, vall_3, short_3⟩
end Ded.DM
end

section
set_option linter.all false
set_option maxRecDepth 100000
set_option maxHeartbeats 2000000
namespace Ded.DM
open PySem Ded.P
theorem can_two {d : D} (h : vB 40000 20 d = true) : canRepr (.list [d, d]) = true := by
  have v := (v_many (w := 300000) (k := 30) (c := 0) 2 (ds := [d, d]) (by simp) (memc (v_of h) (mem1 (v_of h))) (by decide) (by decide)).2
  exact fits_rep v.fits (by have := v.wt; omega) (by have := v.dep; omega)
theorem can_big {d : D} (h : vB 400000 30 d = true) : canRepr d = true := fits_rep (v_of h).fits (by have := (v_of h).wt; omega) (by have := (v_of h).dep; omega)
section
variable {μ : List D} {K : Val → List D → Prop}
theorem w_names (hf : Fd μ) (h : ∀ nm μ', Facts nm → K (.dat nm) μ') : wpc (callD P.Ds 1000 59 21 [.ext 0] μ) K := by
  refine wpc_call (d := d__law_names) rfl rfl ?_
  simp only [d__law_names, List.map, List.replicate, Nat.sub, run, den, Den.ex, Den.no, List.cons_append, List.nil_append, ↓Wa, Wb, varK, locK, frzK, retK, callK, argK, lendK, flowK, endK, setSlot, slsK, gCmp, gIdx, gNeg, ointK, popJ, chkK, putK, appF, chkDK, putDK, Nat.reduceAdd, Nat.reduceLT, Nat.reduceLeDiff]
  refine w_any (n := 56) (by decide) (by decide) hf fun d hd μ' hf' => ?_
  simp only [List.mem_cons, List.not_mem_nil, or_false] at hd
  have fin : Facts d := by
    rcases hd with rfl | rfl | rfl
    · exact facts1
    · exact facts2
    · exact facts3
  simp only [↓Wa, Wb, varK, locK, frzK, retK, callK, argK, lendK, flowK, endK, setSlot, slsK, gCmp, gIdx, gNeg, ointK, popJ, chkK, putK, appF, chkDK, putDK, Nat.reduceAdd, Nat.reduceLT, Nat.reduceLeDiff]
  exact h d μ' fin
end
abbrev FrL (ns : List Int) (nm : D) (v : Val) (a4 a5 a6 a7 a8 : Option Val) : List (Option Val) := [some (.scr ns), some (.ext 0), some (.dat nm), some v, a4, a5, a6, a7, a8]
theorem w_law {ns : List Int} (hn : ns.length ≤ 63) : wpc (callD P.Ds 1000 60 27 [.scr ns] []) fun v _ => v = .dat (.bool true) := by
  refine wpc_call (d := d_law) rfl rfl ?_
  simp only [d_law, run, List.map, List.replicate, Nat.reduceSub, List.length_cons, List.length_nil, Nat.reduceAdd, List.cons_append, List.nil_append]
  refine wp_seq (I := fun s => ∃ c : List Int, c.length ≤ 63 ∧ s = ⟨[some (.scr ns), some (.own (feedD c 0 0 0)), none, none, none, none, none, none, none], []⟩) ?_ ?_
  · simp only [den, Den.ex, Den.no, ↓Wa, Wb, varK, locK, frzK, retK, callK, argK, lendK, flowK, endK, setSlot, slsK, gCmp, gIdx, gNeg, ointK, popJ, chkK, putK, appF, chkDK, putDK, Nat.reduceAdd, Nat.reduceLT, Nat.reduceLeDiff]
    refine w_feed (n := 58) hn fun c hc => ?_
    simp only [↓Wa, Wb, varK, locK, frzK, retK, callK, argK, lendK, flowK, endK, setSlot, slsK, gCmp, gIdx, gNeg, ointK, popJ, chkK, putK, appF, chkDK, putDK, Nat.reduceAdd, Nat.reduceLT, Nat.reduceLeDiff]
    exact ⟨c, hc, rfl⟩
  rintro s ⟨c, hc, rfl⟩
  refine wp_seq (I := fun s => ∃ nm μ, Facts nm ∧ s = ⟨[some (.scr ns), some (.ext 0), some (.dat nm), none, none, none, none, none, none], μ⟩) ?_ ?_
  · simp only [den, Den.ex, Den.no, ↓Wa, Wb, varK, locK, frzK, retK, callK, argK, lendK, flowK, endK, setSlot, slsK, gCmp, gIdx, gNeg, ointK, popJ, chkK, putK, appF, chkDK, putDK, Nat.reduceAdd, Nat.reduceLT, Nat.reduceLeDiff, List.nil_append, List.length_nil]
    refine w_names ⟨c, 0, 0, 0, hc, rfl⟩ fun nm μ' F => ?_
    simp only [↓Wa, Wb, varK, locK, frzK, retK, callK, argK, lendK, flowK, endK, setSlot, slsK, gCmp, gIdx, gNeg, ointK, popJ, chkK, putK, appF, chkDK, putDK, Nat.reduceAdd, Nat.reduceLT, Nat.reduceLeDiff]
    exact ⟨nm, μ', F, rfl⟩
  rintro s ⟨nm, μ, F, rfl⟩
  have h1 := endsO_wpc (F.heads μ)
  have h2 := endsO_wpc (F.others μ)
  have sm : (hsD nm).length + (osD nm).length ≤ sizeLine := by
    have := F.short
    rw [sizeLine_eq']; omega
  have rc := can_big F.vall
  have ru : canRepr useD = true := can_big (by decide +kernel)
  refine wp_step (t1 := ⟨FrL ns nm (.own (.list (scenesD nm))) none none none none none, μ⟩) ?_ ?_
  · simp only [den, Den.ex, Den.no, ↓Wa, Wb, varK, locK, frzK, retK, callK, argK, lendK, flowK, endK, setSlot, slsK, gCmp, gIdx, gNeg, ointK, popJ, chkK, putK, appF, chkDK, putDK, Nat.reduceAdd, Nat.reduceLT, Nat.reduceLeDiff, ↓h1]
    simp only [↓Wa, Wb, varK, locK, frzK, retK, callK, argK, lendK, flowK, endK, setSlot, slsK, gCmp, gIdx, gNeg, ointK, popJ, chkK, putK, appF, chkDK, putDK, Nat.reduceAdd, Nat.reduceLT, Nat.reduceLeDiff, ↓h2, binD, sm, if_true]
  have hok := F.ok
  have hnet := F.net μ
  have hodds := F.odds μ
  have href := F.refused μ
  generalize scenesD nm = sc at *
  refine wp_step (t1 := ⟨FrL ns nm (.own (.list sc)) (some (.dat (.str (PyData.shown (.list sc))))) none none none none, μ⟩) ?_ ?_
  · simp only [den, Den.ex, Den.no, ↓Wa, Wb, varK, locK, frzK, retK, callK, argK, lendK, flowK, endK, setSlot, slsK, gCmp, gIdx, gNeg, ointK, popJ, chkK, putK, appF, chkDK, putDK, Nat.reduceAdd, Nat.reduceLT, Nat.reduceLeDiff, rep_of rc]
  refine wp_seq (I := fun s => ∃ a5 a6 a7 a8, s = ⟨FrL ns nm (.dat (.list sc)) (some (.dat (.str (PyData.shown (.list sc))))) a5 a6 a7 a8, μ⟩) ?_ ?_
  · rw [wp_kfor_]
    simp only [den, Den.ex, Den.no, ↓wp_wof, ↓Wa, Wb, varK, locK, frzK, retK, callK, argK, lendK, flowK, endK, setSlot, slsK, gCmp, gIdx, gNeg, ointK, popJ, chkK, putK, appF, chkDK, putDK, Nat.reduceAdd, Nat.reduceLT, Nat.reduceLeDiff, itemsOf]
    refine wp_mono (wp_for_p (I := fun p s => ∃ a5 a6 a7 a8, s = ⟨FrL ns nm (.dat (.list sc)) (some (.dat (.str (PyData.shown (.list sc))))) a5 a6 a7 a8, μ⟩) _ [] ⟨_, _, _, _, rfl⟩ ?_) ?_
    · rintro p d q hd s ⟨a5, a6, a7, a8, rfl⟩
      have hm : d ∈ sc := by rw [show sc = p ++ d :: q from hd]; simp
      have ok := hok d hm
      rw [Bool.and_eq_true] at ok
      obtain ⟨x, y, z, rfl⟩ : ∃ x y z, d = .tuple [x, y, z] := by
        have w := ok.1
        unfold isTrip at w
        split at w
        · exact ⟨_, _, _, rfl⟩
        · cases w
      have r2 := can_two ok.2
      have q1 := hnet _ hm
      have q2 := hodds _ hm
      have q3 := href _ hm
      simp only [at0, at1, at2] at q1 q2 q3 r2
      generalize oddsD (.tuple [x, y, z]) = os at q2 q3
      have e1 := ends_wpc q1
      have e2 := endsO_wpc q2
      simp only [↓wp_bind, ↓wp_gtup, ↓wp_gcons, ↓wp_gnil, ↓wp_gvar, run, den, Den.ex, Den.no, ↓Wa, Wb, varK, locK, frzK, retK, callK, argK, lendK, flowK, endK, setSlot, slsK, gCmp, gIdx, gNeg, ointK, popJ, chkK, putK, appF, chkDK, putDK, Nat.reduceAdd, Nat.reduceLT, Nat.reduceLeDiff, ↓e1, rearr2, rep_of r2, ne_self]
      rw [wp_kfor_]
      simp only [↓wp_wof, ↓Wa, Wb, varK, locK, frzK, retK, callK, argK, lendK, flowK, endK, setSlot, slsK, gCmp, gIdx, gNeg, ointK, popJ, chkK, putK, appF, chkDK, putDK, Nat.reduceAdd, Nat.reduceLT, Nat.reduceLeDiff, ↓e2, itemsOf]
      refine wp_mono (wp_for_p (I := fun p s => ∃ a8, s = ⟨FrL ns nm (.dat (.list sc)) (some (.dat (.str (PyData.shown (.list sc))))) (some (.dat x)) (some (.dat y)) (some (.dat z)) a8, μ⟩) _ [] ⟨_, rfl⟩ ?_) ?_
      · rintro p o q ho s ⟨a8, rfl⟩
        have t := q3 o (by rw [show os = p ++ o :: q from ho]; simp)
        simp only [↓wp_bind, ↓wp_gvar, ↓Wa, Wb, varK, locK, frzK, retK, callK, argK, lendK, flowK, endK, setSlot, slsK, gCmp, gIdx, gNeg, ointK, popJ, chkK, putK, appF, chkDK, putDK, Nat.reduceAdd, Nat.reduceLT, Nat.reduceLeDiff]
        refine wp_saidc (us := [.dat x, .dat o]) ?_ t ?_
        · simp only [List.map, mask_dat, ↓Wa, Wb, varK, locK, frzK, retK, callK, argK, lendK, flowK, endK, setSlot, slsK, gCmp, gIdx, gNeg, ointK, popJ, chkK, putK, appF, chkDK, putDK, Nat.reduceAdd, Nat.reduceLT, Nat.reduceLeDiff]
        · simp only [↓Wa, Wb, varK, locK, frzK, retK, callK, argK, lendK, flowK, endK, setSlot, slsK, gCmp, gIdx, gNeg, ointK, popJ, chkK, putK, appF, chkDK, putDK, Nat.reduceAdd, Nat.reduceLT, Nat.reduceLeDiff, rep_of ru, ne_self]
          exact ⟨_, rfl⟩
      · rintro f t ⟨rfl, a8, rfl⟩
        exact ⟨_, _, _, _, rfl⟩
    · rintro f t ⟨rfl, a5, a6, a7, a8, rfl⟩
      exact ⟨rfl, _, _, _, _, rfl⟩
  rintro s ⟨a5, a6, a7, a8, rfl⟩
  simp only [den, Den.ex, Den.no, ↓Wa, Wb, varK, locK, frzK, retK, callK, argK, lendK, flowK, endK, setSlot, slsK, gCmp, gIdx, gNeg, ointK, popJ, chkK, putK, appF, chkDK, putDK, Nat.reduceAdd, Nat.reduceLT, Nat.reduceLeDiff, rep_of rc, eq_self]
end Ded.DM
end

section
set_option maxHeartbeats 0
/-! ### the text: its defs by places -/
namespace DedHead
open PySem L2 Ded Ded.P
def top (i : Nat) : Stmt := PySem.Challenge.pw_kitsleft_k16_netting_told.main.body.getD i (.Pass ⟨0, 0, 0, 0⟩)
def infos : List GInfo := [⟨"packs_in", ["shop"], []⟩, ⟨"sheets_in", ["shop"], []⟩, ⟨"pieces_in", ["shop"], []⟩, ⟨"names_in", ["shop"], []⟩, ⟨"is_integer", ["thing"], []⟩, ⟨"is_positive", ["thing"], []⟩, ⟨"is_tuple_of", ["thing", "size"], []⟩, ⟨"are_rising", ["things"], []⟩, ⟨"rise_by_name", ["rows"], []⟩, ⟨"is_one_of", ["thing", "names"], []⟩, ⟨"is_row", ["shop", "thing"], []⟩, ⟨"refuse_unless", ["fits", "word"], []⟩, ⟨"want_sales", ["shop", "sales"], []⟩, ⟨"first_free", ["sheets", "left"], []⟩, ⟨"outer_order", ["shop"], []⟩, ⟨"net_down", ["shop", "sales"], []⟩, ⟨"net_sets", ["shop", "sales"], []⟩, ⟨"netted", ["shop", "sales"], [([1, 0], ["sales", "shop"])]⟩, ⟨"_law_feed", ["_law_script"], []⟩, ⟨"_law_draw", ["_law_feed_here", "_law_many"], []⟩, ⟨"_law_any", ["_law_feed_here", "_law_some"], []⟩, ⟨"_law_names", ["_law_feed_here"], []⟩, ⟨"_law_head", ["_law_names_here"], []⟩, ⟨"_law_head_scenes", ["_law_names_here"], []⟩, ⟨"_law_other_scenes", ["_law_names_here"], []⟩, ⟨"_law_articles", ["_law_store"], []⟩, ⟨"_law_odd_rows", ["_law_store", "_law_wish"], []⟩, ⟨"law", ["_law_script"], []⟩]
def noG : List Str := ["len", "int", "list", "tuple", "repr", "all", "sorted", "dict", "str", "isinstance", "bool", "zip"]
def cons : List (Str × D) := []
def lams : List Str := ["law"]
def xi : XI := { said := [("_law_heard", 1)], cls := [("NotUsable", 1)] }
abbrev mk (s : Stmt) (x : Str) : He.DefD := ⟨(x, none), x, x, defArgs s, defBody s, defScope s, [], []⟩
abbrev mkI (s : Stmt) (x q : Str) : He.DefD := ⟨(x, some "__init__"), "__init__", q, defArgs s, defBody s, defScope s, [], []⟩
abbrev csL (K : PySem.W.Frag) : List (Nat × Addr) := [(1, He.ga K "NotUsable")]
def fn : List He.DefD := [mk (top 1) "packs_in", mk (top 2) "sheets_in", mk (top 3) "pieces_in", mk (top 4) "names_in", mk (top 6) "is_integer", mk (top 7) "is_positive", mk (top 8) "is_tuple_of", mk (top 9) "are_rising", mk (top 10) "rise_by_name", mk (top 11) "is_one_of", mk (top 12) "is_row", mk (top 24) "refuse_unless", mk (top 25) "want_sales", mk (top 27) "first_free", mk (top 28) "outer_order", mk (top 30) "net_down", mk (top 31) "net_sets", mk (top 33) "netted", mk (top 35) "_law_feed", mk (top 36) "_law_draw", mk (top 37) "_law_any", mk (top 38) "_law_names", mk (top 39) "_law_head", mk (top 40) "_law_head_scenes", mk (top 41) "_law_other_scenes", mk (top 42) "_law_articles", mk (top 43) "_law_odd_rows", mk (top 45) "law", mk (top 44) "_law_heard", mkI (clsStmt (top 20) 0) "NotUsable" "NotUsable.__init__"]
def fa : List He.Fa := [.glo "packs_in", .glo "sheets_in", .glo "pieces_in", .glo "names_in", .glo "is_integer", .glo "is_positive", .glo "is_tuple_of", .glo "are_rising", .glo "rise_by_name", .glo "is_one_of", .glo "is_row", .glo "refuse_unless", .glo "want_sales", .glo "first_free", .glo "outer_order", .glo "net_down", .glo "net_sets", .glo "netted", .glo "_law_feed", .glo "_law_draw", .glo "_law_any", .glo "_law_names", .glo "_law_head", .glo "_law_head_scenes", .glo "_law_other_scenes", .glo "_law_articles", .glo "_law_odd_rows", .glo "law", .free "len", .free "int", .free "list", .free "tuple", .free "repr", .free "all", .free "sorted", .free "dict", .free "str", .free "isinstance", .free "bool", .free "zip", .glo "NotUsable", .glo "NotHeld", .glo "NotPossible", .glo "InvalidPaper", .glo "ShopError", .glo "PaperError", .glo "LiveError", .glo "TextError", .glo "_law_heard", .glo "KitError", .free "ValueError"]
def ex : List (PySem.W.Frag → Bool) := [fun K => tabsB K lams, fun K => tabB K "law", fun K => exmB K (He.ga K "NotUsable") (He.ga K "KitError"), fun K => Ded.xfB K (He.ga K "NotUsable"), fun K => kitB K (He.ga K "NotUsable") (.ref (He.ga K "NotUsable")) true, fun K => kitB K (He.ga K "NotUsable") (.ref (He.ga K "NotHeld")) false, fun K => kitB K (He.ga K "NotUsable") (.ref (He.ga K "NotPossible")) false, fun K => kitB K (He.ga K "NotUsable") (.ref (He.ga K "InvalidPaper")) false, fun K => kitB K (He.ga K "NotUsable") (.ref (He.ga K "ShopError")) true, fun K => kitB K (He.ga K "NotUsable") (.ref (He.ga K "PaperError")) false, fun K => kitB K (He.ga K "NotUsable") (.ref (He.ga K "LiveError")) false, fun K => kitB K (He.ga K "NotUsable") (.ref (He.ga K "TextError")) false, fun K => kitB K (He.ga K "NotUsable") (.type "ValueError") true, fun K => noB K (He.ga K "NotUsable") "word", fun K => noB K (He.ga K "NotUsable") "at", fun K => oexB K (He.ga K "NotUsable"), fun K => iniB K (He.ga K "NotUsable")]
section
variable {K : PySem.W.Frag} {h : Heap} {mg : Str → Option Value}
theorem sc_0 : FnScope ["shop", "pack"] ["shop"] (defScope (top 1)) := ⟨rfl, rfl, rfl, by decide +kernel, rfl, by decide +kernel, by decide +kernel⟩
theorem ck_0 : ckS Ded.P.d_packs_in.body ⟨["shop", "pack"], defScope (top 1), fun _ => true, infos, noG, cons, xi.said, xi.cls, false⟩ (defBody (top 1)) = true := by decide +kernel
theorem st_0 (X : K.In h) (G : h.Ns mainGlobals mg) (c : SaysX fa fn ex K) : ∃ f fd, @Stat ⟨tOf K lams⟩ K mg Ded.P.Ds infos noG cons xi (tabsOf K lams) 0 ⟨"packs_in", ["shop"], []⟩ f fd := by
  letI : TabName := ⟨tOf K lams⟩
  obtain ⟨fd, F⟩ := c.d.def_ 0 (d := mk (top 1) "packs_in") rfl
  have F : Fun K "packs_in" "packs_in" (top 1) _ fd := He5.fun_of F
  refine ⟨_, fd, ⟨⟨Ded.P.d_packs_in, _, _, _, false, rfl, F, sc_0, rfl, rfl, ck_0, (fun z => nomatch z)⟩, He.glo_ok X G (c.d.fact 0 (f := .glo "packs_in") rfl), F.binds fun _ _ _ _ _ _ us hl => ?_, fun s us hK hl => ?_, fun o ho s us hK hl => ?_⟩⟩
  · exact match us, hl with | [_], _ => rfl
  · obtain ⟨oc, od, kV, doc, pm, an, cdv, ct, osl, rfl, lk, hcd⟩ := F.ex
    exact .of_eq (match us, hl with | [_], _ => rfl)
  · exact nomatch ho
theorem sc_1 : FnScope ["shop", "pack"] ["shop"] (defScope (top 2)) := ⟨rfl, rfl, rfl, by decide +kernel, rfl, by decide +kernel, by decide +kernel⟩
theorem ck_1 : ckS Ded.P.d_sheets_in.body ⟨["shop", "pack"], defScope (top 2), fun _ => true, infos, noG, cons, xi.said, xi.cls, false⟩ (defBody (top 2)) = true := by decide +kernel
theorem st_1 (X : K.In h) (G : h.Ns mainGlobals mg) (c : SaysX fa fn ex K) : ∃ f fd, @Stat ⟨tOf K lams⟩ K mg Ded.P.Ds infos noG cons xi (tabsOf K lams) 1 ⟨"sheets_in", ["shop"], []⟩ f fd := by
  letI : TabName := ⟨tOf K lams⟩
  obtain ⟨fd, F⟩ := c.d.def_ 1 (d := mk (top 2) "sheets_in") rfl
  have F : Fun K "sheets_in" "sheets_in" (top 2) _ fd := He5.fun_of F
  refine ⟨_, fd, ⟨⟨Ded.P.d_sheets_in, _, _, _, false, rfl, F, sc_1, rfl, rfl, ck_1, (fun z => nomatch z)⟩, He.glo_ok X G (c.d.fact 1 (f := .glo "sheets_in") rfl), F.binds fun _ _ _ _ _ _ us hl => ?_, fun s us hK hl => ?_, fun o ho s us hK hl => ?_⟩⟩
  · exact match us, hl with | [_], _ => rfl
  · obtain ⟨oc, od, kV, doc, pm, an, cdv, ct, osl, rfl, lk, hcd⟩ := F.ex
    exact .of_eq (match us, hl with | [_], _ => rfl)
  · exact nomatch ho
theorem sc_2 : FnScope ["shop", "row"] ["shop"] (defScope (top 3)) := ⟨rfl, rfl, rfl, by decide +kernel, rfl, by decide +kernel, by decide +kernel⟩
theorem ck_2 : ckS Ded.P.d_pieces_in.body ⟨["shop", "row"], defScope (top 3), fun _ => true, infos, noG, cons, xi.said, xi.cls, false⟩ (defBody (top 3)) = true := by decide +kernel
theorem st_2 (X : K.In h) (G : h.Ns mainGlobals mg) (c : SaysX fa fn ex K) : ∃ f fd, @Stat ⟨tOf K lams⟩ K mg Ded.P.Ds infos noG cons xi (tabsOf K lams) 2 ⟨"pieces_in", ["shop"], []⟩ f fd := by
  letI : TabName := ⟨tOf K lams⟩
  obtain ⟨fd, F⟩ := c.d.def_ 2 (d := mk (top 3) "pieces_in") rfl
  have F : Fun K "pieces_in" "pieces_in" (top 3) _ fd := He5.fun_of F
  refine ⟨_, fd, ⟨⟨Ded.P.d_pieces_in, _, _, _, false, rfl, F, sc_2, rfl, rfl, ck_2, (fun z => nomatch z)⟩, He.glo_ok X G (c.d.fact 2 (f := .glo "pieces_in") rfl), F.binds fun _ _ _ _ _ _ us hl => ?_, fun s us hK hl => ?_, fun o ho s us hK hl => ?_⟩⟩
  · exact match us, hl with | [_], _ => rfl
  · obtain ⟨oc, od, kV, doc, pm, an, cdv, ct, osl, rfl, lk, hcd⟩ := F.ex
    exact .of_eq (match us, hl with | [_], _ => rfl)
  · exact nomatch ho
theorem sc_3 : FnScope ["shop", "rows", "row"] ["shop"] (defScope (top 4)) := ⟨rfl, rfl, rfl, by decide +kernel, rfl, by decide +kernel, by decide +kernel⟩
theorem ck_3 : ckS Ded.P.d_names_in.body ⟨["shop", "rows", "row"], defScope (top 4), fun _ => true, infos, noG, cons, xi.said, xi.cls, false⟩ (defBody (top 4)) = true := by decide +kernel
theorem st_3 (X : K.In h) (G : h.Ns mainGlobals mg) (c : SaysX fa fn ex K) : ∃ f fd, @Stat ⟨tOf K lams⟩ K mg Ded.P.Ds infos noG cons xi (tabsOf K lams) 3 ⟨"names_in", ["shop"], []⟩ f fd := by
  letI : TabName := ⟨tOf K lams⟩
  obtain ⟨fd, F⟩ := c.d.def_ 3 (d := mk (top 4) "names_in") rfl
  have F : Fun K "names_in" "names_in" (top 4) _ fd := He5.fun_of F
  refine ⟨_, fd, ⟨⟨Ded.P.d_names_in, _, _, _, false, rfl, F, sc_3, rfl, rfl, ck_3, (fun z => nomatch z)⟩, He.glo_ok X G (c.d.fact 3 (f := .glo "names_in") rfl), F.binds fun _ _ _ _ _ _ us hl => ?_, fun s us hK hl => ?_, fun o ho s us hK hl => ?_⟩⟩
  · exact match us, hl with | [_], _ => rfl
  · obtain ⟨oc, od, kV, doc, pm, an, cdv, ct, osl, rfl, lk, hcd⟩ := F.ex
    exact .of_eq (match us, hl with | [_], _ => rfl)
  · exact nomatch ho
theorem sc_4 : FnScope ["thing"] ["thing"] (defScope (top 6)) := ⟨rfl, rfl, rfl, by decide +kernel, rfl, by decide +kernel, by decide +kernel⟩
theorem ck_4 : ckS Ded.P.d_is_integer.body ⟨["thing"], defScope (top 6), fun _ => true, infos, noG, cons, xi.said, xi.cls, false⟩ (defBody (top 6)) = true := by decide +kernel
theorem st_4 (X : K.In h) (G : h.Ns mainGlobals mg) (c : SaysX fa fn ex K) : ∃ f fd, @Stat ⟨tOf K lams⟩ K mg Ded.P.Ds infos noG cons xi (tabsOf K lams) 4 ⟨"is_integer", ["thing"], []⟩ f fd := by
  letI : TabName := ⟨tOf K lams⟩
  obtain ⟨fd, F⟩ := c.d.def_ 4 (d := mk (top 6) "is_integer") rfl
  have F : Fun K "is_integer" "is_integer" (top 6) _ fd := He5.fun_of F
  refine ⟨_, fd, ⟨⟨Ded.P.d_is_integer, _, _, _, false, rfl, F, sc_4, rfl, rfl, ck_4, (fun z => nomatch z)⟩, He.glo_ok X G (c.d.fact 4 (f := .glo "is_integer") rfl), F.binds fun _ _ _ _ _ _ us hl => ?_, fun s us hK hl => ?_, fun o ho s us hK hl => ?_⟩⟩
  · exact match us, hl with | [_], _ => rfl
  · obtain ⟨oc, od, kV, doc, pm, an, cdv, ct, osl, rfl, lk, hcd⟩ := F.ex
    exact .of_eq (match us, hl with | [_], _ => rfl)
  · exact nomatch ho
theorem sc_5 : FnScope ["thing"] ["thing"] (defScope (top 7)) := ⟨rfl, rfl, rfl, by decide +kernel, rfl, by decide +kernel, by decide +kernel⟩
theorem ck_5 : ckS Ded.P.d_is_positive.body ⟨["thing"], defScope (top 7), fun _ => true, infos, noG, cons, xi.said, xi.cls, false⟩ (defBody (top 7)) = true := by decide +kernel
theorem st_5 (X : K.In h) (G : h.Ns mainGlobals mg) (c : SaysX fa fn ex K) : ∃ f fd, @Stat ⟨tOf K lams⟩ K mg Ded.P.Ds infos noG cons xi (tabsOf K lams) 5 ⟨"is_positive", ["thing"], []⟩ f fd := by
  letI : TabName := ⟨tOf K lams⟩
  obtain ⟨fd, F⟩ := c.d.def_ 5 (d := mk (top 7) "is_positive") rfl
  have F : Fun K "is_positive" "is_positive" (top 7) _ fd := He5.fun_of F
  refine ⟨_, fd, ⟨⟨Ded.P.d_is_positive, _, _, _, false, rfl, F, sc_5, rfl, rfl, ck_5, (fun z => nomatch z)⟩, He.glo_ok X G (c.d.fact 5 (f := .glo "is_positive") rfl), F.binds fun _ _ _ _ _ _ us hl => ?_, fun s us hK hl => ?_, fun o ho s us hK hl => ?_⟩⟩
  · exact match us, hl with | [_], _ => rfl
  · obtain ⟨oc, od, kV, doc, pm, an, cdv, ct, osl, rfl, lk, hcd⟩ := F.ex
    exact .of_eq (match us, hl with | [_], _ => rfl)
  · exact nomatch ho
theorem sc_6 : FnScope ["thing", "size"] ["thing", "size"] (defScope (top 8)) := ⟨rfl, rfl, rfl, by decide +kernel, rfl, by decide +kernel, by decide +kernel⟩
theorem ck_6 : ckS Ded.P.d_is_tuple_of.body ⟨["thing", "size"], defScope (top 8), fun _ => true, infos, noG, cons, xi.said, xi.cls, false⟩ (defBody (top 8)) = true := by decide +kernel
theorem st_6 (X : K.In h) (G : h.Ns mainGlobals mg) (c : SaysX fa fn ex K) : ∃ f fd, @Stat ⟨tOf K lams⟩ K mg Ded.P.Ds infos noG cons xi (tabsOf K lams) 6 ⟨"is_tuple_of", ["thing", "size"], []⟩ f fd := by
  letI : TabName := ⟨tOf K lams⟩
  obtain ⟨fd, F⟩ := c.d.def_ 6 (d := mk (top 8) "is_tuple_of") rfl
  have F : Fun K "is_tuple_of" "is_tuple_of" (top 8) _ fd := He5.fun_of F
  refine ⟨_, fd, ⟨⟨Ded.P.d_is_tuple_of, _, _, _, false, rfl, F, sc_6, rfl, rfl, ck_6, (fun z => nomatch z)⟩, He.glo_ok X G (c.d.fact 6 (f := .glo "is_tuple_of") rfl), F.binds fun _ _ _ _ _ _ us hl => ?_, fun s us hK hl => ?_, fun o ho s us hK hl => ?_⟩⟩
  · exact match us, hl with | [_, _], _ => rfl
  · obtain ⟨oc, od, kV, doc, pm, an, cdv, ct, osl, rfl, lk, hcd⟩ := F.ex
    exact .of_eq (match us, hl with | [_, _], _ => rfl)
  · exact nomatch ho
theorem sc_7 : FnScope ["things", "early", "late"] ["things"] (defScope (top 9)) := ⟨rfl, rfl, rfl, by decide +kernel, rfl, by decide +kernel, by decide +kernel⟩
theorem ck_7 : ckS Ded.P.d_are_rising.body ⟨["things", "early", "late"], defScope (top 9), fun _ => true, infos, noG, cons, xi.said, xi.cls, false⟩ (defBody (top 9)) = true := by decide +kernel
theorem st_7 (X : K.In h) (G : h.Ns mainGlobals mg) (c : SaysX fa fn ex K) : ∃ f fd, @Stat ⟨tOf K lams⟩ K mg Ded.P.Ds infos noG cons xi (tabsOf K lams) 7 ⟨"are_rising", ["things"], []⟩ f fd := by
  letI : TabName := ⟨tOf K lams⟩
  obtain ⟨fd, F⟩ := c.d.def_ 7 (d := mk (top 9) "are_rising") rfl
  have F : Fun K "are_rising" "are_rising" (top 9) _ fd := He5.fun_of F
  refine ⟨_, fd, ⟨⟨Ded.P.d_are_rising, _, _, _, false, rfl, F, sc_7, rfl, rfl, ck_7, (fun z => nomatch z)⟩, He.glo_ok X G (c.d.fact 7 (f := .glo "are_rising") rfl), F.binds fun _ _ _ _ _ _ us hl => ?_, fun s us hK hl => ?_, fun o ho s us hK hl => ?_⟩⟩
  · exact match us, hl with | [_], _ => rfl
  · obtain ⟨oc, od, kV, doc, pm, an, cdv, ct, osl, rfl, lk, hcd⟩ := F.ex
    exact .of_eq (match us, hl with | [_], _ => rfl)
  · exact nomatch ho
theorem sc_8 : FnScope ["rows", "row"] ["rows"] (defScope (top 10)) := ⟨rfl, rfl, rfl, by decide +kernel, rfl, by decide +kernel, by decide +kernel⟩
theorem ck_8 : ckS Ded.P.d_rise_by_name.body ⟨["rows", "row"], defScope (top 10), fun _ => true, infos, noG, cons, xi.said, xi.cls, false⟩ (defBody (top 10)) = true := by decide +kernel
theorem st_8 (X : K.In h) (G : h.Ns mainGlobals mg) (c : SaysX fa fn ex K) : ∃ f fd, @Stat ⟨tOf K lams⟩ K mg Ded.P.Ds infos noG cons xi (tabsOf K lams) 8 ⟨"rise_by_name", ["rows"], []⟩ f fd := by
  letI : TabName := ⟨tOf K lams⟩
  obtain ⟨fd, F⟩ := c.d.def_ 8 (d := mk (top 10) "rise_by_name") rfl
  have F : Fun K "rise_by_name" "rise_by_name" (top 10) _ fd := He5.fun_of F
  refine ⟨_, fd, ⟨⟨Ded.P.d_rise_by_name, _, _, _, false, rfl, F, sc_8, rfl, rfl, ck_8, (fun z => nomatch z)⟩, He.glo_ok X G (c.d.fact 8 (f := .glo "rise_by_name") rfl), F.binds fun _ _ _ _ _ _ us hl => ?_, fun s us hK hl => ?_, fun o ho s us hK hl => ?_⟩⟩
  · exact match us, hl with | [_], _ => rfl
  · obtain ⟨oc, od, kV, doc, pm, an, cdv, ct, osl, rfl, lk, hcd⟩ := F.ex
    exact .of_eq (match us, hl with | [_], _ => rfl)
  · exact nomatch ho
theorem sc_9 : FnScope ["thing", "names"] ["thing", "names"] (defScope (top 11)) := ⟨rfl, rfl, rfl, by decide +kernel, rfl, by decide +kernel, by decide +kernel⟩
theorem ck_9 : ckS Ded.P.d_is_one_of.body ⟨["thing", "names"], defScope (top 11), fun _ => true, infos, noG, cons, xi.said, xi.cls, false⟩ (defBody (top 11)) = true := by decide +kernel
theorem st_9 (X : K.In h) (G : h.Ns mainGlobals mg) (c : SaysX fa fn ex K) : ∃ f fd, @Stat ⟨tOf K lams⟩ K mg Ded.P.Ds infos noG cons xi (tabsOf K lams) 9 ⟨"is_one_of", ["thing", "names"], []⟩ f fd := by
  letI : TabName := ⟨tOf K lams⟩
  obtain ⟨fd, F⟩ := c.d.def_ 9 (d := mk (top 11) "is_one_of") rfl
  have F : Fun K "is_one_of" "is_one_of" (top 11) _ fd := He5.fun_of F
  refine ⟨_, fd, ⟨⟨Ded.P.d_is_one_of, _, _, _, false, rfl, F, sc_9, rfl, rfl, ck_9, (fun z => nomatch z)⟩, He.glo_ok X G (c.d.fact 9 (f := .glo "is_one_of") rfl), F.binds fun _ _ _ _ _ _ us hl => ?_, fun s us hK hl => ?_, fun o ho s us hK hl => ?_⟩⟩
  · exact match us, hl with | [_, _], _ => rfl
  · obtain ⟨oc, od, kV, doc, pm, an, cdv, ct, osl, rfl, lk, hcd⟩ := F.ex
    exact .of_eq (match us, hl with | [_, _], _ => rfl)
  · exact nomatch ho
theorem sc_10 : FnScope ["shop", "thing", "articles", "pair"] ["shop", "thing"] (defScope (top 12)) := ⟨rfl, rfl, rfl, by decide +kernel, rfl, by decide +kernel, by decide +kernel⟩
theorem ck_10 : ckS Ded.P.d_is_row.body ⟨["shop", "thing", "articles", "pair"], defScope (top 12), fun _ => true, infos, noG, cons, xi.said, xi.cls, false⟩ (defBody (top 12)) = true := by decide +kernel
theorem st_10 (X : K.In h) (G : h.Ns mainGlobals mg) (c : SaysX fa fn ex K) : ∃ f fd, @Stat ⟨tOf K lams⟩ K mg Ded.P.Ds infos noG cons xi (tabsOf K lams) 10 ⟨"is_row", ["shop", "thing"], []⟩ f fd := by
  letI : TabName := ⟨tOf K lams⟩
  obtain ⟨fd, F⟩ := c.d.def_ 10 (d := mk (top 12) "is_row") rfl
  have F : Fun K "is_row" "is_row" (top 12) _ fd := He5.fun_of F
  refine ⟨_, fd, ⟨⟨Ded.P.d_is_row, _, _, _, false, rfl, F, sc_10, rfl, rfl, ck_10, (fun z => nomatch z)⟩, He.glo_ok X G (c.d.fact 10 (f := .glo "is_row") rfl), F.binds fun _ _ _ _ _ _ us hl => ?_, fun s us hK hl => ?_, fun o ho s us hK hl => ?_⟩⟩
  · exact match us, hl with | [_, _], _ => rfl
  · obtain ⟨oc, od, kV, doc, pm, an, cdv, ct, osl, rfl, lk, hcd⟩ := F.ex
    exact .of_eq (match us, hl with | [_, _], _ => rfl)
  · exact nomatch ho
theorem sc_11 : FnScope ["fits", "word"] ["fits", "word"] (defScope (top 24)) := ⟨rfl, rfl, rfl, by decide +kernel, rfl, by decide +kernel, by decide +kernel⟩
theorem ck_11 : ckS Ded.P.d_refuse_unless.body ⟨["fits", "word"], defScope (top 24), fun _ => true, infos, noG, cons, xi.said, xi.cls, false⟩ (defBody (top 24)) = true := by decide +kernel
theorem st_11 (X : K.In h) (G : h.Ns mainGlobals mg) (c : SaysX fa fn ex K) : ∃ f fd, @Stat ⟨tOf K lams⟩ K mg Ded.P.Ds infos noG cons xi (tabsOf K lams) 11 ⟨"refuse_unless", ["fits", "word"], []⟩ f fd := by
  letI : TabName := ⟨tOf K lams⟩
  obtain ⟨fd, F⟩ := c.d.def_ 11 (d := mk (top 24) "refuse_unless") rfl
  have F : Fun K "refuse_unless" "refuse_unless" (top 24) _ fd := He5.fun_of F
  refine ⟨_, fd, ⟨⟨Ded.P.d_refuse_unless, _, _, _, false, rfl, F, sc_11, rfl, rfl, ck_11, (fun z => nomatch z)⟩, He.glo_ok X G (c.d.fact 11 (f := .glo "refuse_unless") rfl), F.binds fun _ _ _ _ _ _ us hl => ?_, fun s us hK hl => ?_, fun o ho s us hK hl => ?_⟩⟩
  · exact match us, hl with | [_, _], _ => rfl
  · obtain ⟨oc, od, kV, doc, pm, an, cdv, ct, osl, rfl, lk, hcd⟩ := F.ex
    exact .of_eq (match us, hl with | [_, _], _ => rfl)
  · exact nomatch ho
theorem sc_12 : FnScope ["shop", "sales"] ["shop", "sales"] (defScope (top 25)) := ⟨rfl, rfl, rfl, by decide +kernel, rfl, by decide +kernel, by decide +kernel⟩
theorem ck_12 : ckS Ded.P.d_want_sales.body ⟨["shop", "sales"], defScope (top 25), fun _ => true, infos, noG, cons, xi.said, xi.cls, false⟩ (defBody (top 25)) = true := by decide +kernel
theorem st_12 (X : K.In h) (G : h.Ns mainGlobals mg) (c : SaysX fa fn ex K) : ∃ f fd, @Stat ⟨tOf K lams⟩ K mg Ded.P.Ds infos noG cons xi (tabsOf K lams) 12 ⟨"want_sales", ["shop", "sales"], []⟩ f fd := by
  letI : TabName := ⟨tOf K lams⟩
  obtain ⟨fd, F⟩ := c.d.def_ 12 (d := mk (top 25) "want_sales") rfl
  have F : Fun K "want_sales" "want_sales" (top 25) _ fd := He5.fun_of F
  refine ⟨_, fd, ⟨⟨Ded.P.d_want_sales, _, _, _, false, rfl, F, sc_12, rfl, rfl, ck_12, (fun z => nomatch z)⟩, He.glo_ok X G (c.d.fact 12 (f := .glo "want_sales") rfl), F.binds fun _ _ _ _ _ _ us hl => ?_, fun s us hK hl => ?_, fun o ho s us hK hl => ?_⟩⟩
  · exact match us, hl with | [_, _], _ => rfl
  · obtain ⟨oc, od, kV, doc, pm, an, cdv, ct, osl, rfl, lk, hcd⟩ := F.ex
    exact .of_eq (match us, hl with | [_, _], _ => rfl)
  · exact nomatch ho
theorem sc_13 : FnScope ["sheets", "left", "named", "pack", "name", "_"] ["sheets", "left"] (defScope (top 27)) := ⟨rfl, rfl, rfl, by decide +kernel, rfl, by decide +kernel, by decide +kernel⟩
theorem ck_13 : ckS Ded.P.d_first_free.body ⟨["sheets", "left", "named", "pack", "name", "_"], defScope (top 27), fun _ => true, infos, noG, cons, xi.said, xi.cls, false⟩ (defBody (top 27)) = true := by decide +kernel
theorem st_13 (X : K.In h) (G : h.Ns mainGlobals mg) (c : SaysX fa fn ex K) : ∃ f fd, @Stat ⟨tOf K lams⟩ K mg Ded.P.Ds infos noG cons xi (tabsOf K lams) 13 ⟨"first_free", ["sheets", "left"], []⟩ f fd := by
  letI : TabName := ⟨tOf K lams⟩
  obtain ⟨fd, F⟩ := c.d.def_ 13 (d := mk (top 27) "first_free") rfl
  have F : Fun K "first_free" "first_free" (top 27) _ fd := He5.fun_of F
  refine ⟨_, fd, ⟨⟨Ded.P.d_first_free, _, _, _, false, rfl, F, sc_13, rfl, rfl, ck_13, (fun z => nomatch z)⟩, He.glo_ok X G (c.d.fact 13 (f := .glo "first_free") rfl), F.binds fun _ _ _ _ _ _ us hl => ?_, fun s us hK hl => ?_, fun o ho s us hK hl => ?_⟩⟩
  · exact match us, hl with | [_, _], _ => rfl
  · obtain ⟨oc, od, kV, doc, pm, an, cdv, ct, osl, rfl, lk, hcd⟩ := F.ex
    exact .of_eq (match us, hl with | [_, _], _ => rfl)
  · exact nomatch ho
theorem sc_14 : FnScope ["shop", "sheets", "left", "order", "first", "pack"] ["shop"] (defScope (top 28)) := ⟨rfl, rfl, rfl, by decide +kernel, rfl, by decide +kernel, by decide +kernel⟩
theorem ck_14 : ckS Ded.P.d_outer_order.body ⟨["shop", "sheets", "left", "order", "first", "pack"], defScope (top 28), fun _ => true, infos, noG, cons, xi.said, xi.cls, false⟩ (defBody (top 28)) = true := by decide +kernel
theorem st_14 (X : K.In h) (G : h.Ns mainGlobals mg) (c : SaysX fa fn ex K) : ∃ f fd, @Stat ⟨tOf K lams⟩ K mg Ded.P.Ds infos noG cons xi (tabsOf K lams) 14 ⟨"outer_order", ["shop"], []⟩ f fd := by
  letI : TabName := ⟨tOf K lams⟩
  obtain ⟨fd, F⟩ := c.d.def_ 14 (d := mk (top 28) "outer_order") rfl
  have F : Fun K "outer_order" "outer_order" (top 28) _ fd := He5.fun_of F
  refine ⟨_, fd, ⟨⟨Ded.P.d_outer_order, _, _, _, false, rfl, F, sc_14, rfl, rfl, ck_14, (fun z => nomatch z)⟩, He.glo_ok X G (c.d.fact 14 (f := .glo "outer_order") rfl), F.binds fun _ _ _ _ _ _ us hl => ?_, fun s us hK hl => ?_, fun o ho s us hK hl => ?_⟩⟩
  · exact match us, hl with | [_], _ => rfl
  · obtain ⟨oc, od, kV, doc, pm, an, cdv, ct, osl, rfl, lk, hcd⟩ := F.ex
    exact .of_eq (match us, hl with | [_], _ => rfl)
  · exact nomatch ho
theorem sc_15 : FnScope ["shop", "sales", "sold", "asked", "packs", "turns", "pack", "left", "turn", "_", "made", "apart", "sheet", "name", "count", "part", "stock"] ["shop", "sales"] (defScope (top 30)) := ⟨rfl, rfl, rfl, by decide +kernel, rfl, by decide +kernel, by decide +kernel⟩
theorem ck_15 : ckS Ded.P.d_net_down.body ⟨["shop", "sales", "sold", "asked", "packs", "turns", "pack", "left", "turn", "_", "made", "apart", "sheet", "name", "count", "part", "stock"], defScope (top 30), fun _ => true, infos, noG, cons, xi.said, xi.cls, false⟩ (defBody (top 30)) = true := by decide +kernel
theorem st_15 (X : K.In h) (G : h.Ns mainGlobals mg) (c : SaysX fa fn ex K) : ∃ f fd, @Stat ⟨tOf K lams⟩ K mg Ded.P.Ds infos noG cons xi (tabsOf K lams) 15 ⟨"net_down", ["shop", "sales"], []⟩ f fd := by
  letI : TabName := ⟨tOf K lams⟩
  obtain ⟨fd, F⟩ := c.d.def_ 15 (d := mk (top 30) "net_down") rfl
  have F : Fun K "net_down" "net_down" (top 30) _ fd := He5.fun_of F
  refine ⟨_, fd, ⟨⟨Ded.P.d_net_down, _, _, _, false, rfl, F, sc_15, rfl, rfl, ck_15, (fun z => nomatch z)⟩, He.glo_ok X G (c.d.fact 15 (f := .glo "net_down") rfl), F.binds fun _ _ _ _ _ _ us hl => ?_, fun s us hK hl => ?_, fun o ho s us hK hl => ?_⟩⟩
  · exact match us, hl with | [_, _], _ => rfl
  · obtain ⟨oc, od, kV, doc, pm, an, cdv, ct, osl, rfl, lk, hcd⟩ := F.ex
    exact .of_eq (match us, hl with | [_, _], _ => rfl)
  · exact nomatch ho
theorem sc_16 : FnScope ["shop", "sales", "inner", "wanted", "turns", "asked", "left", "row", "name"] ["shop", "sales"] (defScope (top 31)) := ⟨rfl, rfl, rfl, by decide +kernel, rfl, by decide +kernel, by decide +kernel⟩
theorem ck_16 : ckS Ded.P.d_net_sets.body ⟨["shop", "sales", "inner", "wanted", "turns", "asked", "left", "row", "name"], defScope (top 31), fun _ => true, infos, noG, cons, xi.said, xi.cls, false⟩ (defBody (top 31)) = true := by decide +kernel
theorem st_16 (X : K.In h) (G : h.Ns mainGlobals mg) (c : SaysX fa fn ex K) : ∃ f fd, @Stat ⟨tOf K lams⟩ K mg Ded.P.Ds infos noG cons xi (tabsOf K lams) 16 ⟨"net_sets", ["shop", "sales"], []⟩ f fd := by
  letI : TabName := ⟨tOf K lams⟩
  obtain ⟨fd, F⟩ := c.d.def_ 16 (d := mk (top 31) "net_sets") rfl
  have F : Fun K "net_sets" "net_sets" (top 31) _ fd := He5.fun_of F
  refine ⟨_, fd, ⟨⟨Ded.P.d_net_sets, _, _, _, false, rfl, F, sc_16, rfl, rfl, ck_16, (fun z => nomatch z)⟩, He.glo_ok X G (c.d.fact 16 (f := .glo "net_sets") rfl), F.binds fun _ _ _ _ _ _ us hl => ?_, fun s us hK hl => ?_, fun o ho s us hK hl => ?_⟩⟩
  · exact match us, hl with | [_, _], _ => rfl
  · obtain ⟨oc, od, kV, doc, pm, an, cdv, ct, osl, rfl, lk, hcd⟩ := F.ex
    exact .of_eq (match us, hl with | [_, _], _ => rfl)
  · exact nomatch ho
theorem sc_17 : FnScope ["shop", "sales"] ["shop", "sales"] (defScope (top 33)) := ⟨rfl, rfl, rfl, by decide +kernel, rfl, by decide +kernel, by decide +kernel⟩
theorem ck_17 : ckS Ded.P.d_netted.body ⟨["shop", "sales"], defScope (top 33), fun _ => true, infos, noG, cons, xi.said, xi.cls, false⟩ (defBody (top 33)) = true := by decide +kernel
theorem st_17 (X : K.In h) (G : h.Ns mainGlobals mg) (c : SaysX fa fn ex K) : ∃ f fd, @Stat ⟨tOf K lams⟩ K mg Ded.P.Ds infos noG cons xi (tabsOf K lams) 17 ⟨"netted", ["shop", "sales"], [([1, 0], ["sales", "shop"])]⟩ f fd := by
  letI : TabName := ⟨tOf K lams⟩
  obtain ⟨fd, F⟩ := c.d.def_ 17 (d := mk (top 33) "netted") rfl
  have F : Fun K "netted" "netted" (top 33) _ fd := He5.fun_of F
  refine ⟨_, fd, ⟨⟨Ded.P.d_netted, _, _, _, false, rfl, F, sc_17, rfl, rfl, ck_17, (fun z => nomatch z)⟩, He.glo_ok X G (c.d.fact 17 (f := .glo "netted") rfl), F.binds fun _ _ _ _ _ _ us hl => ?_, fun s us hK hl => ?_, fun o ho s us hK hl => ?_⟩⟩
  · exact match us, hl with | [_, _], _ => rfl
  · obtain ⟨oc, od, kV, doc, pm, an, cdv, ct, osl, rfl, lk, hcd⟩ := F.ex
    exact .of_eq (match us, hl with | [_, _], _ => rfl)
  · simp only [List.mem_cons, List.not_mem_nil, or_false] at ho
    obtain ⟨oc, od, kV, doc, pm, an, cdv, ct, osl, rfl, lk, hcd⟩ := F.ex
    rcases ho with rfl
    · exact .of_eq (match us, hl with | [_, _], _ => rfl)
theorem sc_18 : FnScope ["_law_script", "_law_cell"] ["_law_script"] (defScope (top 35)) := ⟨rfl, rfl, rfl, by decide +kernel, rfl, by decide +kernel, by decide +kernel⟩
theorem ck_18 : ckS Ded.P.d__law_feed.body ⟨["_law_script", "_law_cell"], defScope (top 35), fun _ => true, infos, noG, cons, xi.said, xi.cls, false⟩ (defBody (top 35)) = true := by decide +kernel
theorem st_18 (X : K.In h) (G : h.Ns mainGlobals mg) (c : SaysX fa fn ex K) : ∃ f fd, @Stat ⟨tOf K lams⟩ K mg Ded.P.Ds infos noG cons xi (tabsOf K lams) 18 ⟨"_law_feed", ["_law_script"], []⟩ f fd := by
  letI : TabName := ⟨tOf K lams⟩
  obtain ⟨fd, F⟩ := c.d.def_ 18 (d := mk (top 35) "_law_feed") rfl
  have F : Fun K "_law_feed" "_law_feed" (top 35) _ fd := He5.fun_of F
  refine ⟨_, fd, ⟨⟨Ded.P.d__law_feed, _, _, _, false, rfl, F, sc_18, rfl, rfl, ck_18, (fun z => nomatch z)⟩, He.glo_ok X G (c.d.fact 18 (f := .glo "_law_feed") rfl), F.binds fun _ _ _ _ _ _ us hl => ?_, fun s us hK hl => ?_, fun o ho s us hK hl => ?_⟩⟩
  · exact match us, hl with | [_], _ => rfl
  · obtain ⟨oc, od, kV, doc, pm, an, cdv, ct, osl, rfl, lk, hcd⟩ := F.ex
    exact .of_eq (match us, hl with | [_], _ => rfl)
  · exact nomatch ho
theorem sc_19 : FnScope ["_law_feed_here", "_law_many", "_law_cell", "_law_mixed", "_law_digit", "_law_cells", "_law_spot"] ["_law_feed_here", "_law_many"] (defScope (top 36)) := ⟨rfl, rfl, rfl, by decide +kernel, rfl, by decide +kernel, by decide +kernel⟩
theorem ck_19 : ckS Ded.P.d__law_draw.body ⟨["_law_feed_here", "_law_many", "_law_cell", "_law_mixed", "_law_digit", "_law_cells", "_law_spot"], defScope (top 36), fun _ => true, infos, noG, cons, xi.said, xi.cls, false⟩ (defBody (top 36)) = true := by decide +kernel
theorem st_19 (X : K.In h) (G : h.Ns mainGlobals mg) (c : SaysX fa fn ex K) : ∃ f fd, @Stat ⟨tOf K lams⟩ K mg Ded.P.Ds infos noG cons xi (tabsOf K lams) 19 ⟨"_law_draw", ["_law_feed_here", "_law_many"], []⟩ f fd := by
  letI : TabName := ⟨tOf K lams⟩
  obtain ⟨fd, F⟩ := c.d.def_ 19 (d := mk (top 36) "_law_draw") rfl
  have F : Fun K "_law_draw" "_law_draw" (top 36) _ fd := He5.fun_of F
  refine ⟨_, fd, ⟨⟨Ded.P.d__law_draw, _, _, _, false, rfl, F, sc_19, rfl, rfl, ck_19, (fun z => nomatch z)⟩, He.glo_ok X G (c.d.fact 19 (f := .glo "_law_draw") rfl), F.binds fun _ _ _ _ _ _ us hl => ?_, fun s us hK hl => ?_, fun o ho s us hK hl => ?_⟩⟩
  · exact match us, hl with | [_, _], _ => rfl
  · obtain ⟨oc, od, kV, doc, pm, an, cdv, ct, osl, rfl, lk, hcd⟩ := F.ex
    exact .of_eq (match us, hl with | [_, _], _ => rfl)
  · exact nomatch ho
theorem sc_20 : FnScope ["_law_feed_here", "_law_some"] ["_law_feed_here", "_law_some"] (defScope (top 37)) := ⟨rfl, rfl, rfl, by decide +kernel, rfl, by decide +kernel, by decide +kernel⟩
theorem ck_20 : ckS Ded.P.d__law_any.body ⟨["_law_feed_here", "_law_some"], defScope (top 37), fun _ => true, infos, noG, cons, xi.said, xi.cls, false⟩ (defBody (top 37)) = true := by decide +kernel
theorem st_20 (X : K.In h) (G : h.Ns mainGlobals mg) (c : SaysX fa fn ex K) : ∃ f fd, @Stat ⟨tOf K lams⟩ K mg Ded.P.Ds infos noG cons xi (tabsOf K lams) 20 ⟨"_law_any", ["_law_feed_here", "_law_some"], []⟩ f fd := by
  letI : TabName := ⟨tOf K lams⟩
  obtain ⟨fd, F⟩ := c.d.def_ 20 (d := mk (top 37) "_law_any") rfl
  have F : Fun K "_law_any" "_law_any" (top 37) _ fd := He5.fun_of F
  refine ⟨_, fd, ⟨⟨Ded.P.d__law_any, _, _, _, false, rfl, F, sc_20, rfl, rfl, ck_20, (fun z => nomatch z)⟩, He.glo_ok X G (c.d.fact 20 (f := .glo "_law_any") rfl), F.binds fun _ _ _ _ _ _ us hl => ?_, fun s us hK hl => ?_, fun o ho s us hK hl => ?_⟩⟩
  · exact match us, hl with | [_, _], _ => rfl
  · obtain ⟨oc, od, kV, doc, pm, an, cdv, ct, osl, rfl, lk, hcd⟩ := F.ex
    exact .of_eq (match us, hl with | [_, _], _ => rfl)
  · exact nomatch ho
theorem sc_21 : FnScope ["_law_feed_here", "_law_some"] ["_law_feed_here"] (defScope (top 38)) := ⟨rfl, rfl, rfl, by decide +kernel, rfl, by decide +kernel, by decide +kernel⟩
theorem ck_21 : ckS Ded.P.d__law_names.body ⟨["_law_feed_here", "_law_some"], defScope (top 38), fun _ => true, infos, noG, cons, xi.said, xi.cls, false⟩ (defBody (top 38)) = true := by decide +kernel
theorem st_21 (X : K.In h) (G : h.Ns mainGlobals mg) (c : SaysX fa fn ex K) : ∃ f fd, @Stat ⟨tOf K lams⟩ K mg Ded.P.Ds infos noG cons xi (tabsOf K lams) 21 ⟨"_law_names", ["_law_feed_here"], []⟩ f fd := by
  letI : TabName := ⟨tOf K lams⟩
  obtain ⟨fd, F⟩ := c.d.def_ 21 (d := mk (top 38) "_law_names") rfl
  have F : Fun K "_law_names" "_law_names" (top 38) _ fd := He5.fun_of F
  refine ⟨_, fd, ⟨⟨Ded.P.d__law_names, _, _, _, false, rfl, F, sc_21, rfl, rfl, ck_21, (fun z => nomatch z)⟩, He.glo_ok X G (c.d.fact 21 (f := .glo "_law_names") rfl), F.binds fun _ _ _ _ _ _ us hl => ?_, fun s us hK hl => ?_, fun o ho s us hK hl => ?_⟩⟩
  · exact match us, hl with | [_], _ => rfl
  · obtain ⟨oc, od, kV, doc, pm, an, cdv, ct, osl, rfl, lk, hcd⟩ := F.ex
    exact .of_eq (match us, hl with | [_], _ => rfl)
  · exact nomatch ho
theorem sc_22 : FnScope ["_law_names_here", "_law_packs", "_law_a", "_law_b", "_law_c", "_law_d", "_law_e", "_law_f", "_law_g"] ["_law_names_here"] (defScope (top 39)) := ⟨rfl, rfl, rfl, by decide +kernel, rfl, by decide +kernel, by decide +kernel⟩
theorem ck_22 : ckS Ded.P.d__law_head.body ⟨["_law_names_here", "_law_packs", "_law_a", "_law_b", "_law_c", "_law_d", "_law_e", "_law_f", "_law_g"], defScope (top 39), fun _ => true, infos, noG, cons, xi.said, xi.cls, false⟩ (defBody (top 39)) = true := by decide +kernel
theorem st_22 (X : K.In h) (G : h.Ns mainGlobals mg) (c : SaysX fa fn ex K) : ∃ f fd, @Stat ⟨tOf K lams⟩ K mg Ded.P.Ds infos noG cons xi (tabsOf K lams) 22 ⟨"_law_head", ["_law_names_here"], []⟩ f fd := by
  letI : TabName := ⟨tOf K lams⟩
  obtain ⟨fd, F⟩ := c.d.def_ 22 (d := mk (top 39) "_law_head") rfl
  have F : Fun K "_law_head" "_law_head" (top 39) _ fd := He5.fun_of F
  refine ⟨_, fd, ⟨⟨Ded.P.d__law_head, _, _, _, false, rfl, F, sc_22, rfl, rfl, ck_22, (fun z => nomatch z)⟩, He.glo_ok X G (c.d.fact 22 (f := .glo "_law_head") rfl), F.binds fun _ _ _ _ _ _ us hl => ?_, fun s us hK hl => ?_, fun o ho s us hK hl => ?_⟩⟩
  · exact match us, hl with | [_], _ => rfl
  · obtain ⟨oc, od, kV, doc, pm, an, cdv, ct, osl, rfl, lk, hcd⟩ := F.ex
    exact .of_eq (match us, hl with | [_], _ => rfl)
  · exact nomatch ho
theorem sc_23 : FnScope ["_law_names_here", "_law_some", "_law_a", "_law_b", "_law_c", "_law_d", "_law_e", "_law_f", "_law_g", "_law_wish", "_law_turns", "_law_asked", "_law_left"] ["_law_names_here"] (defScope (top 40)) := ⟨rfl, rfl, rfl, by decide +kernel, rfl, by decide +kernel, by decide +kernel⟩
theorem ck_23 : ckS Ded.P.d__law_head_scenes.body ⟨["_law_names_here", "_law_some", "_law_a", "_law_b", "_law_c", "_law_d", "_law_e", "_law_f", "_law_g", "_law_wish", "_law_turns", "_law_asked", "_law_left"], defScope (top 40), fun _ => true, infos, noG, cons, xi.said, xi.cls, false⟩ (defBody (top 40)) = true := by decide +kernel
theorem st_23 (X : K.In h) (G : h.Ns mainGlobals mg) (c : SaysX fa fn ex K) : ∃ f fd, @Stat ⟨tOf K lams⟩ K mg Ded.P.Ds infos noG cons xi (tabsOf K lams) 23 ⟨"_law_head_scenes", ["_law_names_here"], []⟩ f fd := by
  letI : TabName := ⟨tOf K lams⟩
  obtain ⟨fd, F⟩ := c.d.def_ 23 (d := mk (top 40) "_law_head_scenes") rfl
  have F : Fun K "_law_head_scenes" "_law_head_scenes" (top 40) _ fd := He5.fun_of F
  refine ⟨_, fd, ⟨⟨Ded.P.d__law_head_scenes, _, _, _, false, rfl, F, sc_23, rfl, rfl, ck_23, (fun z => nomatch z)⟩, He.glo_ok X G (c.d.fact 23 (f := .glo "_law_head_scenes") rfl), F.binds fun _ _ _ _ _ _ us hl => ?_, fun s us hK hl => ?_, fun o ho s us hK hl => ?_⟩⟩
  · exact match us, hl with | [_], _ => rfl
  · obtain ⟨oc, od, kV, doc, pm, an, cdv, ct, osl, rfl, lk, hcd⟩ := F.ex
    exact .of_eq (match us, hl with | [_], _ => rfl)
  · exact nomatch ho
theorem sc_24 : FnScope ["_law_names_here", "_law_hard", "_law_soft", "_law_found", "_law_a", "_law_b", "_law_c", "_law_d", "_law_e", "_law_f", "_law_g"] ["_law_names_here"] (defScope (top 41)) := ⟨rfl, rfl, rfl, by decide +kernel, rfl, by decide +kernel, by decide +kernel⟩
theorem ck_24 : ckS Ded.P.d__law_other_scenes.body ⟨["_law_names_here", "_law_hard", "_law_soft", "_law_found", "_law_a", "_law_b", "_law_c", "_law_d", "_law_e", "_law_f", "_law_g"], defScope (top 41), fun _ => true, infos, noG, cons, xi.said, xi.cls, false⟩ (defBody (top 41)) = true := by decide +kernel
theorem st_24 (X : K.In h) (G : h.Ns mainGlobals mg) (c : SaysX fa fn ex K) : ∃ f fd, @Stat ⟨tOf K lams⟩ K mg Ded.P.Ds infos noG cons xi (tabsOf K lams) 24 ⟨"_law_other_scenes", ["_law_names_here"], []⟩ f fd := by
  letI : TabName := ⟨tOf K lams⟩
  obtain ⟨fd, F⟩ := c.d.def_ 24 (d := mk (top 41) "_law_other_scenes") rfl
  have F : Fun K "_law_other_scenes" "_law_other_scenes" (top 41) _ fd := He5.fun_of F
  refine ⟨_, fd, ⟨⟨Ded.P.d__law_other_scenes, _, _, _, false, rfl, F, sc_24, rfl, rfl, ck_24, (fun z => nomatch z)⟩, He.glo_ok X G (c.d.fact 24 (f := .glo "_law_other_scenes") rfl), F.binds fun _ _ _ _ _ _ us hl => ?_, fun s us hK hl => ?_, fun o ho s us hK hl => ?_⟩⟩
  · exact match us, hl with | [_], _ => rfl
  · obtain ⟨oc, od, kV, doc, pm, an, cdv, ct, osl, rfl, lk, hcd⟩ := F.ex
    exact .of_eq (match us, hl with | [_], _ => rfl)
  · exact nomatch ho
theorem sc_25 : FnScope ["_law_store", "_law_pair", "_law_pack"] ["_law_store"] (defScope (top 42)) := ⟨rfl, rfl, rfl, by decide +kernel, rfl, by decide +kernel, by decide +kernel⟩
theorem ck_25 : ckS Ded.P.d__law_articles.body ⟨["_law_store", "_law_pair", "_law_pack"], defScope (top 42), fun _ => true, infos, noG, cons, xi.said, xi.cls, false⟩ (defBody (top 42)) = true := by decide +kernel
theorem st_25 (X : K.In h) (G : h.Ns mainGlobals mg) (c : SaysX fa fn ex K) : ∃ f fd, @Stat ⟨tOf K lams⟩ K mg Ded.P.Ds infos noG cons xi (tabsOf K lams) 25 ⟨"_law_articles", ["_law_store"], []⟩ f fd := by
  letI : TabName := ⟨tOf K lams⟩
  obtain ⟨fd, F⟩ := c.d.def_ 25 (d := mk (top 42) "_law_articles") rfl
  have F : Fun K "_law_articles" "_law_articles" (top 42) _ fd := He5.fun_of F
  refine ⟨_, fd, ⟨⟨Ded.P.d__law_articles, _, _, _, false, rfl, F, sc_25, rfl, rfl, ck_25, (fun z => nomatch z)⟩, He.glo_ok X G (c.d.fact 25 (f := .glo "_law_articles") rfl), F.binds fun _ _ _ _ _ _ us hl => ?_, fun s us hK hl => ?_, fun o ho s us hK hl => ?_⟩⟩
  · exact match us, hl with | [_], _ => rfl
  · obtain ⟨oc, od, kV, doc, pm, an, cdv, ct, osl, rfl, lk, hcd⟩ := F.ex
    exact .of_eq (match us, hl with | [_], _ => rfl)
  · exact nomatch ho
theorem sc_26 : FnScope ["_law_store", "_law_wish", "_law_items", "_law_a", "_law_some", "_law_one"] ["_law_store", "_law_wish"] (defScope (top 43)) := ⟨rfl, rfl, rfl, by decide +kernel, rfl, by decide +kernel, by decide +kernel⟩
theorem ck_26 : ckS Ded.P.d__law_odd_rows.body ⟨["_law_store", "_law_wish", "_law_items", "_law_a", "_law_some", "_law_one"], defScope (top 43), fun _ => true, infos, noG, cons, xi.said, xi.cls, false⟩ (defBody (top 43)) = true := by decide +kernel
theorem st_26 (X : K.In h) (G : h.Ns mainGlobals mg) (c : SaysX fa fn ex K) : ∃ f fd, @Stat ⟨tOf K lams⟩ K mg Ded.P.Ds infos noG cons xi (tabsOf K lams) 26 ⟨"_law_odd_rows", ["_law_store", "_law_wish"], []⟩ f fd := by
  letI : TabName := ⟨tOf K lams⟩
  obtain ⟨fd, F⟩ := c.d.def_ 26 (d := mk (top 43) "_law_odd_rows") rfl
  have F : Fun K "_law_odd_rows" "_law_odd_rows" (top 43) _ fd := He5.fun_of F
  refine ⟨_, fd, ⟨⟨Ded.P.d__law_odd_rows, _, _, _, false, rfl, F, sc_26, rfl, rfl, ck_26, (fun z => nomatch z)⟩, He.glo_ok X G (c.d.fact 26 (f := .glo "_law_odd_rows") rfl), F.binds fun _ _ _ _ _ _ us hl => ?_, fun s us hK hl => ?_, fun o ho s us hK hl => ?_⟩⟩
  · exact match us, hl with | [_, _], _ => rfl
  · obtain ⟨oc, od, kV, doc, pm, an, cdv, ct, osl, rfl, lk, hcd⟩ := F.ex
    exact .of_eq (match us, hl with | [_, _], _ => rfl)
  · exact nomatch ho
theorem sc_27 : FnScope ["_law_script", "_law_feed_here", "_law_names_here", "_law_scenes", "_law_kept", "_law_store", "_law_wish", "_law_due", "_law_odd"] ["_law_script"] (defScope (top 45)) := ⟨rfl, rfl, rfl, by decide +kernel, rfl, by decide +kernel, by decide +kernel⟩
theorem ck_27 : ckS Ded.P.d_law.body ⟨["_law_script", "_law_feed_here", "_law_names_here", "_law_scenes", "_law_kept", "_law_store", "_law_wish", "_law_due", "_law_odd"], defScope (top 45), fun _ => true, infos, noG, cons, xi.said, xi.cls, true⟩ (defBody (top 45)) = true := by decide +kernel
theorem st_27 (X : K.In h) (G : h.Ns mainGlobals mg) (c : SaysX fa fn ex K) : ∃ f fd, @Stat ⟨tOf K lams⟩ K mg Ded.P.Ds infos noG cons xi (tabsOf K lams) 27 ⟨"law", ["_law_script"], []⟩ f fd := by
  letI : TabName := ⟨tOf K lams⟩
  obtain ⟨fd, F⟩ := c.d.def_ 27 (d := mk (top 45) "law") rfl
  have F : Fun K "law" "law" (top 45) _ fd := He5.fun_of F
  refine ⟨_, fd, ⟨⟨Ded.P.d_law, _, _, _, true, rfl, F, sc_27, rfl, rfl, ck_27, (fun _ => lam_stat (by decide) (c.x 1 (b := fun K => tabB K "law") rfl) (c.x 0 (b := fun K => tabsB K lams) rfl) F (c.d.fact 27 (f := .glo "law") rfl))⟩, He.glo_ok X G (c.d.fact 27 (f := .glo "law") rfl), F.binds fun _ _ _ _ _ _ us hl => ?_, fun s us hK hl => ?_, fun o ho s us hK hl => ?_⟩⟩
  · exact match us, hl with | [_], _ => rfl
  · obtain ⟨oc, od, kV, doc, pm, an, cdv, ct, osl, rfl, lk, hcd⟩ := F.ex
    exact .of_eq (match us, hl with | [_], _ => rfl)
  · exact nomatch ho
theorem tells (KX : K.In h) (G : h.Ns mainGlobals mg) (c : SaysX fa fn ex K) [TabName] (X : Cx) (hK : X.K = K) (hM : X.mg = mg) : SaidOk X (xcMany K (csL K)) 1 "_law_heard" := by
  subst hK hM
  obtain ⟨fdS, FS⟩ := c.d.def_ 28 (d := mk (top 44) "_law_heard") rfl
  have FS : Fun X.K "_law_heard" "_law_heard" (top 44) _ fdS := He5.fun_of FS
  refine heard_ok (X := X) (cs := csL X.K) (stS := top 44) (n := "_law_e") (own := "_law_own") (sorts := "_law_sorts") (kx := "KitError") (once := fun i C hm => ?once) (mgS := (He.glo_ok KX G (c.d.fact 48 (f := .glo "_law_heard") rfl))) (FuS := FS) (SgS := ⟨rfl, rfl, rfl, by decide +kernel, rfl, by decide +kernel, by decide +kernel⟩) (hbS := FS.binds fun _ _ _ _ _ _ us hl => match us, hl with | [_], _ => rfl) (okA := by decide +kernel) (bodyS := by rfl) (ln := by rfl) (gk := by rfl) (mk := (He.glo_ok KX G (c.d.fact 49 (f := .glo "KitError") rfl))) (dk := by decide +kernel) (exm := fun i C hm => ?exm) (refuses := fun i C hm lt cdv s H0 ae oe dd pn room zc fl => ?ref)
  case once =>
    simp only [csL, List.mem_cons, List.not_mem_nil, or_false, Prod.mk.injEq] at hm; rcases hm with ⟨rfl, rfl⟩
    · exact ⟨by decide, rfl⟩
  case exm =>
    simp only [csL, List.mem_cons, List.not_mem_nil, or_false, Prod.mk.injEq] at hm; rcases hm with ⟨rfl, rfl⟩
    · exact exmB_ok (c.x 2 (b := fun K => exmB K (He.ga K "NotUsable") (He.ga K "KitError")) rfl)
  case ref =>
    simp only [csL, List.mem_cons, List.not_mem_nil, or_false, Prod.mk.injEq] at hm; rcases hm with ⟨rfl, rfl⟩
    · have A : AskI ((cxOf C8.CX0 X.prog X.w X.K X.mg X.base ["_law_ask", "_law_e", "_law_own", "_law_sorts"] "_law_heard" (defScope (top 44)) (He.ga X.K "_law_heard") cdv X.A X.stack s H0 C8.E0).nox.suite ae ((ae, oe) :: pn)) ae (He.ga X.K "NotUsable") dd oe 1 "_law_e" := ⟨List.mem_cons_self, xfB_ok (c.x 3 (b := fun K => Ded.xfB K (He.ga K "NotUsable")) rfl), zc, fl, rfl, .inl (by rfl), by decide +kernel, by decide +kernel, by rfl, (He.free_ok KX G (c.d.fact 37 (f := .free "isinstance") rfl))⟩
      refine heard_use (c := 1) (own := "_law_own") (sorts := "_law_sorts") (suite_units room (by rfl)) (by decide) (by rfl) (by rfl) (by rfl) (by rfl) (by rfl) (by rfl) (by rfl) (by rfl) (by rfl) A (show (["_law_ask", "_law_e", "_law_own", "_law_sorts"] : List Str).Nodup by decide +kernel) (by rfl) (by rfl) (by rfl) (.inl (by rfl)) (.inl (by rfl)) (.inr (by rfl)) (.inr (by rfl)) (by decide +kernel) (by decide +kernel) (.inl (by rfl)) (.inl (by rfl)) (by decide +kernel) (by decide +kernel) ⟨by rfl, (He.glo_ok KX G (c.d.fact 40 (f := .glo "NotUsable") rfl)), by decide +kernel, kitB_ok (c.x 4 (b := fun K => kitB K (He.ga K "NotUsable") (.ref (He.ga K "NotUsable")) true) rfl)⟩ ⟨by rfl, (He.glo_ok KX G (c.d.fact 41 (f := .glo "NotHeld") rfl)), by decide +kernel, kitB_ok (c.x 5 (b := fun K => kitB K (He.ga K "NotUsable") (.ref (He.ga K "NotHeld")) false) rfl)⟩ ⟨by rfl, (He.glo_ok KX G (c.d.fact 42 (f := .glo "NotPossible") rfl)), by decide +kernel, kitB_ok (c.x 6 (b := fun K => kitB K (He.ga K "NotUsable") (.ref (He.ga K "NotPossible")) false) rfl)⟩ ⟨by rfl, (He.glo_ok KX G (c.d.fact 43 (f := .glo "InvalidPaper") rfl)), by decide +kernel, kitB_ok (c.x 7 (b := fun K => kitB K (He.ga K "NotUsable") (.ref (He.ga K "InvalidPaper")) false) rfl)⟩ ⟨by rfl, (He.glo_ok KX G (c.d.fact 44 (f := .glo "ShopError") rfl)), by decide +kernel, kitB_ok (c.x 8 (b := fun K => kitB K (He.ga K "NotUsable") (.ref (He.ga K "ShopError")) true) rfl)⟩ ⟨by rfl, (He.glo_ok KX G (c.d.fact 45 (f := .glo "PaperError") rfl)), by decide +kernel, kitB_ok (c.x 9 (b := fun K => kitB K (He.ga K "NotUsable") (.ref (He.ga K "PaperError")) false) rfl)⟩ ⟨by rfl, (He.glo_ok KX G (c.d.fact 46 (f := .glo "LiveError") rfl)), by decide +kernel, kitB_ok (c.x 10 (b := fun K => kitB K (He.ga K "NotUsable") (.ref (He.ga K "LiveError")) false) rfl)⟩ ⟨by rfl, (He.glo_ok KX G (c.d.fact 47 (f := .glo "TextError") rfl)), by decide +kernel, kitB_ok (c.x 11 (b := fun K => kitB K (He.ga K "NotUsable") (.ref (He.ga K "TextError")) false) rfl)⟩ (by rfl) (He.free_ok KX G (c.d.fact 50 (f := .free "ValueError") rfl)) (kitB_ok (c.x 12 (b := fun K => kitB K (He.ga K "NotUsable") (.type "ValueError") true) rfl)) ?_ ?_ ?_
      rotate_left
      · rfl
      · rfl
      intro f hf
      simp only [fldH, List.mem_cons, List.not_mem_nil, or_false] at hf
      rcases hf with rfl | rfl
      · exact noB_ok (c.x 13 (b := fun K => noB K (He.ga K "NotUsable") "word") rfl)
      · exact noB_ok (c.x 14 (b := fun K => noB K (He.ga K "NotUsable") "at") rfl)
theorem prog (KX : K.In h) (G : h.Ns mainGlobals mg) (c : SaysX fa fn ex K) : @ProgOk ⟨tOf K lams⟩ (xcMany K (csL K)) K mg Ded.P.Ds infos noG cons xi (tabsOf K lams) := by
  letI : TabName := ⟨tOf K lams⟩
  refine ⟨fun g i e => ?_, fun x hx => ?_, fun p hp => ?_, fun X hK hM x kd hm => ?_, fun P w base x n hm => ?_⟩
  · match g, e with
    | 0, e => cases e; exact st_0 KX G c
    | 1, e => cases e; exact st_1 KX G c
    | 2, e => cases e; exact st_2 KX G c
    | 3, e => cases e; exact st_3 KX G c
    | 4, e => cases e; exact st_4 KX G c
    | 5, e => cases e; exact st_5 KX G c
    | 6, e => cases e; exact st_6 KX G c
    | 7, e => cases e; exact st_7 KX G c
    | 8, e => cases e; exact st_8 KX G c
    | 9, e => cases e; exact st_9 KX G c
    | 10, e => cases e; exact st_10 KX G c
    | 11, e => cases e; exact st_11 KX G c
    | 12, e => cases e; exact st_12 KX G c
    | 13, e => cases e; exact st_13 KX G c
    | 14, e => cases e; exact st_14 KX G c
    | 15, e => cases e; exact st_15 KX G c
    | 16, e => cases e; exact st_16 KX G c
    | 17, e => cases e; exact st_17 KX G c
    | 18, e => cases e; exact st_18 KX G c
    | 19, e => cases e; exact st_19 KX G c
    | 20, e => cases e; exact st_20 KX G c
    | 21, e => cases e; exact st_21 KX G c
    | 22, e => cases e; exact st_22 KX G c
    | 23, e => cases e; exact st_23 KX G c
    | 24, e => cases e; exact st_24 KX G c
    | 25, e => cases e; exact st_25 KX G c
    | 26, e => cases e; exact st_26 KX G c
    | 27, e => cases e; exact st_27 KX G c
    | g + 28, e => cases e
  · simp only [noG, List.mem_cons, List.not_mem_nil, or_false] at hx
    rcases hx with rfl | rfl | rfl | rfl | rfl | rfl | rfl | rfl | rfl | rfl | rfl | rfl
    · exact (He.free_ok KX G (c.d.fact 28 (f := .free "len") rfl))
    · exact (He.free_ok KX G (c.d.fact 29 (f := .free "int") rfl))
    · exact (He.free_ok KX G (c.d.fact 30 (f := .free "list") rfl))
    · exact (He.free_ok KX G (c.d.fact 31 (f := .free "tuple") rfl))
    · exact (He.free_ok KX G (c.d.fact 32 (f := .free "repr") rfl))
    · exact (He.free_ok KX G (c.d.fact 33 (f := .free "all") rfl))
    · exact (He.free_ok KX G (c.d.fact 34 (f := .free "sorted") rfl))
    · exact (He.free_ok KX G (c.d.fact 35 (f := .free "dict") rfl))
    · exact (He.free_ok KX G (c.d.fact 36 (f := .free "str") rfl))
    · exact (He.free_ok KX G (c.d.fact 37 (f := .free "isinstance") rfl))
    · exact (He.free_ok KX G (c.d.fact 38 (f := .free "bool") rfl))
    · exact (He.free_ok KX G (c.d.fact 39 (f := .free "zip") rfl))
  · exact nomatch hp
  · simp only [xi, List.mem_cons, List.not_mem_nil, or_false, Prod.mk.injEq] at hm
    obtain ⟨rfl, rfl⟩ := hm
    exact tells KX G c X hK hM
  · simp only [xi, List.mem_cons, List.not_mem_nil, or_false, Prod.mk.injEq] at hm
    rcases hm with ⟨rfl, rfl⟩
    · obtain ⟨fd, F⟩ := c.d.def_ 29 (d := mkI (clsStmt (top 20) 0) "NotUsable" "NotUsable.__init__") rfl
      have F : Fun K "__init__" "NotUsable.__init__" (clsStmt (top 20) 0) (He.ma K (He.ga K "NotUsable") "__init__") fd := He5.fun_of F
      have o := oexB_ok (c.x 15 (b := fun K => oexB K (He.ga K "NotUsable")) rfl)
      have n1 := noB_ok (c.x 13 (b := fun K => noB K (He.ga K "NotUsable") "word") rfl)
      have n2 := noB_ok (c.x 14 (b := fun K => noB K (He.ga K "NotUsable") "at") rfl)
      obtain ⟨i1, i2⟩ := iniB_ok (c.x 16 (b := fun K => iniB K (He.ga K "NotUsable")) rfl)
      exact .inl ⟨rfl, _, "word", "at", ⟨o, (He.glo_ok KX G (c.d.fact 40 (f := .glo "NotUsable") rfl)), _, fd, ["self", "word", "at"], i1, i2, F.binds fun _ _ _ _ _ _ us hl => (match us, hl with | [_, _, _], _ => rfl), init2 F ⟨rfl, rfl, rfl, by decide +kernel, rfl, by decide +kernel, by decide +kernel⟩ (by rfl) o n1 n2 ⟨by decide +kernel, by decide +kernel⟩ ⟨by decide +kernel, by decide +kernel⟩ ⟨by decide +kernel, by decide +kernel⟩⟩, fun F ex μ H d v1 v2 d1 d2 e r1 r2 => ⟨_, _, _, [v1, v2], by simp [csL], rfl, rfl, e, by rfl, .cons r1 (.cons r2 .nil)⟩⟩
end
abbrev R : PySem.W.OpenRow := PySem.W.OpenLaw.row PySem.Challenge.rw_kitsleft_k16_netting_told
abbrev hk : PySem.W.Hook := hookX 8 fa fn ex
def ob (s : PySem.W.SharedT) : He.AlD := obsXG 8 fa fn ex (HandSHeadRun.getT s)
theorem ob_eq (s : PySem.W.SharedT) : ob s = hk.obs s.abs := obsXG_eq (HandSHeadRun.getT_eq s)
def loose : List PySem.Str := [("packs_in" : PySem.Str), ("sheets_in" : PySem.Str), ("pieces_in" : PySem.Str), ("names_in" : PySem.Str), ("is_integer" : PySem.Str), ("is_positive" : PySem.Str), ("is_tuple_of" : PySem.Str), ("are_rising" : PySem.Str), ("rise_by_name" : PySem.Str), ("is_one_of" : PySem.Str), ("is_row" : PySem.Str), ("KitError" : PySem.Str), ("PaperError" : PySem.Str), ("ShopError" : PySem.Str), ("LiveError" : PySem.Str), ("TextError" : PySem.Str), ("InvalidPaper" : PySem.Str), ("NotUsable" : PySem.Str), ("NotHeld" : PySem.Str), ("NotPossible" : PySem.Str), ("refuse_unless" : PySem.Str), ("want_sales" : PySem.Str), ("first_free" : PySem.Str), ("outer_order" : PySem.Str), ("net_down" : PySem.Str), ("net_sets" : PySem.Str), ("netted" : PySem.Str), ("_law_feed" : PySem.Str), ("_law_draw" : PySem.Str), ("_law_any" : PySem.Str), ("_law_names" : PySem.Str), ("_law_head" : PySem.Str), ("_law_head_scenes" : PySem.Str), ("_law_other_scenes" : PySem.Str), ("_law_articles" : PySem.Str), ("_law_odd_rows" : PySem.Str), ("_law_heard" : PySem.Str)]
theorem run (w : World) : HandSHeadRun.RunEq R (PySem.W.view R.prog [45]) hk ob 20000 loose w := by
  intro os
  kernel_rfl
end DedHead
open PySem PySem.W PySem.Calls PyProof.Rows Ded in
theorem ded_head (ans : ∀ ns : List Int, ns.length ≤ 63 → ∃ t, callD Ded.P.Ds 1000 60 27 [.scr ns] [] = .ok (.dat (.bool true)) t) : PySem.Challenge.rw_kitsleft_k16_netting_told.Holds := by
  w_on; o_law
  refine HandSHeadRun.head_any (r := OpenLaw.row PySem.Challenge.rw_kitsleft_k16_netting_told) (q := view (OpenLaw.row PySem.Challenge.rw_kitsleft_k16_netting_told).prog [45]) (H := DedHead.hk) (ob := DedHead.ob) (M := 20000) (loose := DedHead.loose) (d := HandSHeadRun.topDef (OpenLaw.row PySem.Challenge.rw_kitsleft_k16_netting_told).prog 45) (kwd := []) DedHead.ob_eq
    (by kernel_rfl) (fun s => by kernel_rfl) DedHead.run (by kernel_rfl) (by kernel_rfl) (by kernel_rfl) (by rfl) (by first | assumption | decide +kernel) (by decide +kernel) ⟨rfl, rfl, rfl, rfl, rfl, by decide +kernel⟩ ?hw ?hc
  case hw => w_witness2
  case hc =>
    refine Ded.law_walk (l := PySem.Challenge.rw_kitsleft_k16_netting_told) (n := 63) (k := 60) (g := 27) (x := "_law_script") (Ds := Ded.P.Ds) (L := 1000) (infos := DedHead.infos) (noG := DedHead.noG) (cs := DedHead.cons) (xi := DedHead.xi) rfl (by decide) (by kernel_rfl) ⟨rfl, by decide, by decide⟩ (by kernel_rfl) ?F ans
    intro w mg h Y G tabs
    obtain ⟨K, KX, c⟩ := Y
    refine ⟨K, tOf K DedHead.lams, tabsOf K DedHead.lams, _, KX, tabs_has, fun p hp => ?_, fun p hp => ?_, DedHead.prog KX G c⟩
    · simp only [tabsOf, DedHead.lams, List.map_cons, List.map_nil, List.mem_cons, List.not_mem_nil, or_false] at hp
      rcases hp with rfl
      · exact tabs K "law" _ _ KX (by kernel_rfl) (tabB_ok (c.x 1 (b := fun K => tabB K "law") rfl)).1
    · simp only [tabsOf, DedHead.lams, List.map_cons, List.map_nil, List.mem_cons, List.not_mem_nil, or_false] at hp
      rcases hp with rfl
      · exact (tabB_ok (c.x 1 (b := fun K => tabB K "law") rfl)).2
end

section
set_option maxHeartbeats 0
theorem PySem.Challenge.cw_kitsleft_k16_netting_told_holds : PySem.Challenge.rw_kitsleft_k16_netting_told.Holds := by
  refine ded_head fun ns hn => ?_
  obtain ⟨v, t, e, hv⟩ := Ded.wpc_ok (Ded.DM.w_law hn)
  exact ⟨t, hv ▸ e⟩
end
