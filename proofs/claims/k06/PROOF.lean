import PyProof.Rows.All
import Wide.All
import OpenK.AllK
import Wide.FinOn
import HandS.ForMost
import HandS.Wide
import HandS.IsInst
import HandS.Gcd
import HandS.SortInts
import HandS.TupMul
import Wide.Txt2
import PyProof.ReprRoads
import HandS.TupAny
import HandS.TupLe
import HandS.Conv
import HandS.Text
import HandS.StrMore
import HandS.RaiseMore
import HandS.Flow
import HandS.FStr
import HandS.SetBool
import HandS.TupSets
import HandS.Zip
import KE.GoesEnum
import HandS.More
import HandS.OwnEq
import PyProof.InstEq
import HandS.Small
import HandS.Style
import HandS.ListItems
import KE.KRevSl
import HandS.SetFor
import HandS.Strs
import PyProof.Rows.SetFrom
import HandS.DictTup
import KE.KItemsList
import HandS.Star
import HandS.Words
import HandS.Defaults
import HandS.Lambda
import HandS.EndBits
import KE.OsScanText
import PyProof.ReprLen
import PyProof.Ascii
import PySem.Challenge.RW_sizesreckoned_k06_whole_lots_filled
set_option Elab.async false
set_option linter.all false
set_option maxRecDepth 100000
set_option maxHeartbeats 2000000
/-! # Mini: a small evaluator for the forms of Python that occur, over plain data; values as trees, mutable lists by the slot that owns them -/
namespace Mini
open PySem

/-- plain data -/
inductive D where
  | non | bl (b : Bool) | int (i : Int) | str (s : Str)
  | tup (l : List D) | lst (l : List D) | dic (ks : List L2.Key) (vs : List D) | dit (ks : List (List L2.Key)) (vs : List D) | frz (l : List D)
  | ins (c : Nat) (ns : List Nat) (vs : List D)
  | exc (c : Nat) (v : D)
  deriving Inhabited

inductive R (α : Type) where
  | ok (a : α) | bad | err (c : Nat) (v : D)
noncomputable def R.bind {α β : Type} (r : R α) (f : α → R β) : R β := match r with | .ok a => f a | .bad => .bad | .err c v => .err c v
@[simp] theorem R.bind_ok {α β : Type} (a : α) (f : α → R β) : (R.ok a).bind f = f a := rfl
@[simp] theorem R.bind_bad {α β : Type} (f : α → R β) : (R.bad : R α).bind f = .bad := rfl
@[simp] theorem R.bind_err {α β : Type} (c : Nat) (v : D) (f : α → R β) : (R.err c v : R α).bind f = .err c v := rfl
noncomputable def R.of {α : Type} : Option α → R α | some a => .ok a | none => .bad
@[simp] theorem R.of_some {α : Type} (a : α) : R.of (some a) = .ok a := rfl
noncomputable def R.guard (c : Bool) : R Unit := if c then .ok () else .bad
@[simp] theorem R.guard_true : R.guard true = .ok () := rfl
@[simp] theorem R.guard_false : R.guard false = .bad := rfl

/-- a slot: nothing, a value that stays, a list (dict, instance) that this frame alone holds, one that a loop walks, one that the caller lent -/
inductive Slot where
  | no | im (d : D) | mu (d : D) | lk (d : D) | io (d : D)
  deriving Inhabited
noncomputable abbrev Fm := List Slot

/-! ### the syntax, without places; lists of expressions by nil, cons -/
inductive Bi where
  | len | int | str | abs | max | min | sum | all | any | list | tuple | sorted | gcd | bool | dict | repr
  deriving DecidableEq
inductive Bm where
  | split | join | items | isascii | isdigit | upper | get
  deriving DecidableEq
inductive E where
  | nil | cons (a l : E)
  | var (i : Nat) | lit (d : D)
  | bin (op : Operator) (a b : E) | neg (a : E) | not (a : E)
  | cmp (op : CmpOp) (a b : E) | cmp2 (op op' : CmpOp) (a b c : E)
  | and (l : E) | or (l : E) | ife (t a b : E)
  | tup (l : E) | lst (l : E) | dic (ks vs : E)
  | idx (a b : E) | slc (a lo hi : E) | rev (a : E)
  | attr (a : E) (f : Nat)
  | call (f : Nat) (l : E) | make (c : Nat) (l : E) | meth (a : E) (m : Nat) (l : E)
  | bi (b : Bi) (l : E) | bm (b : Bm) (a l : E) | isi (k : Nat) (a : E)
  | pop (i : Nat) (l : E)
  | comp (e : E) (t : E) (it : E) (c : E) (vs : List Nat)
  | lrg (l : E)
  | range (l : E) | enum (a : E) | zip (a b : E) | itm (a : E)
  | nope | tyi (a : E) | isc (c : Nat) (a : E) | fstr (l : E) | fmt (a : E)
  | lset (e : E) (t : E) (it : E) (c : E) (vs : List Nat)
  | oeq (neg : Bool) (a b : E)
  | dnt (t : Bool) | dcp (a : E) | itl (a : E) | srs (a : E)
  | lss (l : E) | star (a : E) | stp (a : E) (k : Nat)
  | dcall (f : Nat) (l : E)
  | lsn (a : E)
inductive S where
  | done | seq (s t : S)
  | asg (t e : E) | par (is : List Nat) (l : E)
  | ret (e : E) | retn
  | ife (t : E) (a b : S) | whl (t : E) (b : S) | for (t it : E) (b : S)
  | expr (e : E) | app (i : Nat) (e : E) | ext (i : Nat) (e : E)
  | seti (i : Nat) (k e : E) | augi (i : Nat) (k : E) (op : Operator) (e : E)
  | aug (i : Nat) (op : Operator) (e : E) | seta (i f : Nat) (e : E)
  | raise (c : Nat) (e : E) | pass | brk | ct
  | nope | setd (i : Nat) (k e : E)

/-! ### operations on data -/
noncomputable def sizeOk (n : Nat) : Bool := decide (n ≤ 16777216)
noncomputable def truth : D → R Bool
  | .non => .ok false | .bl b => .ok b | .int i => .ok (i != 0)
  | .str y => (R.guard (sizeOk y.length)).bind fun _ => .ok ((y.length : Int) != 0)
  | .tup l => .ok (!l.isEmpty) | .lst l => .ok (!l.isEmpty)
  | _ => .bad
/-- an operator: the value, whether it is a new list -/
noncomputable def binop : Operator → D → D → R (D × Bool)
  | .Add, .int i, .int j => .ok (.int (i + j), false)
  | .Add, .str x, .str y => (R.guard (sizeOk (x.length + y.length))).bind fun _ => .ok (.str (x ++ y), false)
  | .Add, .lst x, .lst y => (R.guard (sizeOk (x.length + y.length))).bind fun _ => .ok (.lst (x ++ y), true)
  | .Add, .tup x, .tup y => (R.guard (sizeOk (x.length + y.length))).bind fun _ => .ok (.tup (x ++ y), false)
  | .Sub, .int i, .int j => .ok (.int (i - j), false)
  | .Mult, .int i, .int j => (R.guard (decide (i.natAbs.log2 + j.natAbs.log2 < 1000000))).bind fun _ => .ok (.int (i * j), false)
  | .Mult, .lst x, .int j => (R.guard (decide (0 ≤ j ∧ j < 2 ^ 63) && sizeOk (x.length * j.toNat))).bind fun _ => .ok (.lst (List.flatten (List.replicate j.toNat x)), true)
  | .Mult, .tup x, .int j => (R.guard (decide (2 ≤ j ∧ j ≤ 1000) && (!x.isEmpty && decide (x.length ≤ 1000)))).bind fun _ => .ok (.tup (List.flatten (List.replicate j.toNat x)), false)
  | .FloorDiv, .int i, .int j => (R.guard (decide (0 < j) && decide (j.natAbs.log2 < 9000))).bind fun _ => .ok (.int (i / j), false)
  | .Mod, .int i, .int j => (R.guard (decide (0 < j))).bind fun _ => .ok (.int (i % j), false)
  | .Pow, .int i, .int j => (R.guard (decide (0 ≤ j ∧ (Builtin.Int.intBits i : Int) * j ≤ 134217728))).bind fun _ => .ok (.int (i ^ j.toNat), false)
  | .BitAnd, .int i, .int j => .ok (.int (Builtin.bitAnd i j), false)
  | _, _, _ => .bad
mutual
/-- as the library's plain data -/
noncomputable def toPy : D → Option PyData
  | .non => some .none
  | .bl b => some (.bool b)
  | .int i => some (.int i)
  | .str z => some (.str z)
  | .tup l => (toPyL l).map .tuple
  | .lst l => (toPyL l).map .list
  | _ => none
noncomputable def toPyL : List D → Option (List PyData)
  | [] => some []
  | d :: l => (toPy d).bind fun p => (toPyL l).map (p :: ·)
end
/-- equality of data -/
noncomputable def deq (d e : D) : R Bool := (R.of (toPy d)).bind fun p => (R.of (toPy e)).bind fun q => (R.guard (SeqAt.shaped p && SeqAt.shaped q)).bind fun _ => .ok (PyData.eqv p q)
noncomputable def isNonD : D → Bool | .non => true | _ => false
/-- values without parts -/
noncomputable def flatD : D → Bool
  | .non => true | .bl _ => true | .int _ => true | .str _ => true | _ => false
noncomputable def eqF : D → D → Bool
  | .non, .non => true
  | .bl a, .bl b => a == b
  | .bl a, .int b => (if a then 1 else 0) == b
  | .int a, .bl b => a == (if b then 1 else 0)
  | .int a, .int b => a == b
  | .str a, .str b => a == b
  | _, _ => false
noncomputable def inL (x : D) (l : List D) : R Bool := (R.guard (flatD x && l.all flatD)).bind fun _ => .ok (l.any fun y => eqF y x)
/-! dicts: keys that are numbers or texts, or tuples of such -/
noncomputable def keyD : D → Option L2.Key
  | .int i => some (.inl i) | .str x => some (.inr x) | _ => none
noncomputable def keysD : List D → Option (List L2.Key)
  | [] => some []
  | d :: l => (keyD d).bind fun k => (keysD l).map (k :: ·)
noncomputable def memK {κ : Type} [DecidableEq κ] (k : κ) (ks : List κ) : Bool := ks.any fun j => decide (j = k)
noncomputable def nodK {κ : Type} [DecidableEq κ] : List κ → Bool
  | [] => true
  | k :: ks => !memK k ks && nodK ks
noncomputable def lkK {κ : Type} [DecidableEq κ] (k : κ) : List κ → List D → Option D
  | j :: js, d :: ds => if j = k then some d else lkK k js ds
  | _, _ => none
noncomputable def putKs {κ : Type} [DecidableEq κ] (k : κ) (ks : List κ) : List κ := if memK k ks then ks else ks ++ [k]
noncomputable def repV {κ : Type} [DecidableEq κ] (k : κ) (y : D) : List κ → List D → List D
  | j :: js, d :: ds => (if j = k then y else d) :: repV k y js ds
  | _, _ => []
noncomputable def putVs {κ : Type} [DecidableEq κ] (k : κ) (y : D) (ks : List κ) (vs : List D) : List D := if memK k ks then repV k y ks vs else vs ++ [y]
noncomputable def cmpop : CmpOp → D → D → R Bool
  | .Lt, .int i, .int j => .ok (decide (i < j))
  | .LtE, .int i, .int j => .ok (decide (i ≤ j))
  | .Gt, .int i, .int j => .ok (decide (j < i))
  | .GtE, .int i, .int j => .ok (decide (j ≤ i))
  | .Eq, x, y => deq x y
  | .NotEq, x, y => (deq x y).bind fun b => .ok (!b)
  | .Is, x, .non => .ok (isNonD x)
  | .IsNot, x, .non => .ok (!isNonD x)
  | .Is, .bl a, .bl b => .ok (decide (a = b))
  | .IsNot, .bl a, .bl b => .ok (!decide (a = b))
  | .In, x, .lst l => inL x l
  | .In, x, .tup l => inL x l
  | .NotIn, x, .lst l => (inL x l).bind fun b => .ok (!b)
  | .NotIn, x, .tup l => (inL x l).bind fun b => .ok (!b)
  | .In, x, .dic ks _ => (R.of (keyD x)).bind fun k => .ok (memK k ks)
  | .In, .tup l, .dit ks _ => (R.of (keysD l)).bind fun k => .ok (memK k ks)
  | .NotIn, x, .dic ks _ => (R.of (keyD x)).bind fun k => .ok (!memK k ks)
  | .NotIn, .tup l, .dit ks _ => (R.of (keysD l)).bind fun k => .ok (!memK k ks)
  | _, _, _ => .bad
noncomputable def item : D → D → R D
  | .dic ks vs, e => (R.of (keyD e)).bind fun k => R.of (lkK k ks vs)
  | .dit ks vs, .tup l => (R.of (keysD l)).bind fun k => R.of (lkK k ks vs)
  | .lst l, .int i => R.of (L2.atI l i)
  | .frz l, .int i => R.of (L2.atI l i)
  | .tup l, .int i => R.of (L2.atI l i)
  | .str z, .int i => (R.guard (sizeOk z.length)).bind fun _ => (R.of (L2.atI z.cps.toList i)).bind fun c => .ok (.str ⟨#[c]⟩)
  | _, _ => .bad
noncomputable def cutL (l : List D) (lo hi : Option Int) : List D := (l.drop (HT.sIx l.length 0 lo)).take (HT.sIx l.length l.length hi - HT.sIx l.length 0 lo)
noncomputable def slice : D → Option Int → Option Int → R (D × Bool)
  | .lst l, lo, hi => .ok (.lst (cutL l lo hi), true)
  | .tup l, lo, hi => .ok (.tup (cutL l lo hi), false)
  | _, _, _ => .bad
noncomputable def intsD : List D → Option (List Int)
  | [] => some []
  | .int i :: l => (intsD l).map (i :: ·)
  | _ :: _ => none
noncomputable def strsD : List D → Option (List Str)
  | [] => some []
  | .str i :: l => (strsD l).map (i :: ·)
  | _ :: _ => none
noncomputable def boolsD : List D → Option (List Bool)
  | [] => some []
  | .bl i :: l => (boolsD l).map (i :: ·)
  | _ :: _ => none
noncomputable def lenOf : D → R Nat
  | .str z => (R.guard (sizeOk z.length)).bind fun _ => .ok z.length
  | .tup l => .ok l.length | .lst l => .ok l.length | .frz l => .ok l.length
  | _ => .bad

/-! ### operands -/
/-- a value, or what a slot holds that may still change -/
inductive Opd where
  | v (d : D) | r (i : Nat)
  deriving Inhabited
noncomputable def rd (σ : Fm) : Opd → R D
  | .v d => .ok d
  | .r i => match σ[i]? with | some (.mu d) => .ok d | some (.lk d) => .ok d | some (.io d) => .ok d | _ => .bad
noncomputable abbrev Res := R (Opd × Bool × Fm)
/-- the value for good: what a slot holds stays from now on -/
noncomputable def fz : Opd × Bool × Fm → R (D × Bool × Fm)
  | (.v d, o, σ) => .ok (d, o, σ)
  | (.r i, _, σ) => match σ[i]? with | some (.mu d) => .ok (d, false, σ.set i (.im d)) | _ => .bad
/-- what is outside of a def's body -/
structure Cb where
  /-- a def by its number: the slots of its parameters; the value, whether it is new, the slots behind -/
  call : Nat → List Slot → R (D × Bool × List Slot)
  /-- whether the first parameter is lent -/
  io : Nat → Bool
  /-- C(..): the number of its __init__ -/
  init : Nat → Option Nat
  /-- a method by its name's number (from 500 on): its class, its def -/
  meth : Nat → Option (Nat × Nat)
  /-- turns of a while at the most -/
  lim : Nat
  /-- whether a class is, or derives from, another one -/
  isa : Nat → Nat → Bool
  /-- __eq__ (0), __len__ (1), __contains__ (2) of a class -/
  sp : Nat → Nat → Option Nat
noncomputable def biLen : List D → R (D × Bool)
  | [x] => (lenOf x).bind fun n => .ok (.int n, false)
  | _ => .bad
noncomputable def biInt : List D → R (D × Bool)
  | [.int i] => .ok (.int i, false)
  | [.bl k] => .ok (.int (if k then 1 else 0), false)
  | [.str z] => (R.guard (decide (z.length ≤ 640))).bind fun _ => (R.of (PySem.intText? z)).bind fun n => .ok (.int n, false)
  | _ => .bad
noncomputable def biStr : List D → R (D × Bool)
  | [.int i] => (R.guard (decide (i.natAbs.log2 < 1920))).bind fun _ => .ok (.str (toString i), false)
  | _ => .bad
noncomputable def reprOk (p : PyData) : Bool := p.showable && decide (p.shown.length ≤ 16777216) && decide (p.depth ≤ 50) && !p.hasDict
noncomputable def biRepr : List D → R (D × Bool)
  | [.int i] => (R.guard (decide (i.natAbs.log2 < 1920))).bind fun _ => .ok (.str (toString i), false)
  | [.bl b] => .ok (.str (if b then Str.ofString "True" else Str.ofString "False"), false)
  | [.non] => .ok (.str "None", false)
  | [.str z] => (R.guard (decide ((reprText z).length ≤ 16777216))).bind fun _ => .ok (.str (reprText z), false)
  | [.tup l] => (R.of (toPyL l)).bind fun ps => (R.guard (reprOk (.tuple ps))).bind fun _ => .ok (.str (PyData.shown (.tuple ps)), false)
  | [.lst l] => (R.of (toPyL l)).bind fun ps => (R.guard (reprOk (.list ps))).bind fun _ => .ok (.str (PyData.shown (.list ps)), false)
  | _ => .bad
noncomputable def biAbs : List D → R (D × Bool)
  | [.int i] => .ok (.int (if i < 0 then -i else i), false)
  | _ => .bad
noncomputable def biMax : List D → R (D × Bool)
  | [.int i, .int j] => .ok (.int (if j > i then j else i), false)
  | [.lst l] => (R.of (intsD l)).bind fun ns => (R.of ns.max?).bind fun m => .ok (.int m, false)
  | _ => .bad
noncomputable def biMin : List D → R (D × Bool)
  | [.int i, .int j] => .ok (.int (if j < i then j else i), false)
  | [.lst l] => (R.of (intsD l)).bind fun ns => (R.of ns.min?).bind fun m => .ok (.int m, false)
  | _ => .bad
noncomputable def biSum : List D → R (D × Bool)
  | [.lst l] => (R.of (intsD l)).bind fun ns => .ok (.int ns.sum, false)
  | _ => .bad
noncomputable def biAll : List D → R (D × Bool)
  | [.lst l] => (R.of (boolsD l)).bind fun bs => .ok (.bl (bs.all id), false)
  | _ => .bad
noncomputable def biAny : List D → R (D × Bool)
  | [.lst l] => (R.of (boolsD l)).bind fun bs => .ok (.bl (bs.any id), false)
  | _ => .bad
noncomputable def biList : List D → R (D × Bool)
  | [.lst l] => .ok (.lst l, true)
  | [.tup l] => .ok (.lst l, true)
  | _ => .bad
noncomputable def biTuple : List D → R (D × Bool)
  | [.lst l] => .ok (.tup l, false)
  | [.tup l] => .ok (.tup l, false)
  | _ => .bad
noncomputable def biSorted : List D → R (D × Bool)
  | [.lst l] => (R.of (intsD l)).bind fun ns => .ok (.lst ((PySem.W.sortI ns).map .int), true)
  | _ => .bad
noncomputable def biGcd : List D → R (D × Bool)
  | [.int i, .int j] => .ok (.int (Int.gcd i j), false)
  | _ => .bad
noncomputable def builtin (b : Bi) (ds : List D) : R (D × Bool) := match b with
  | .len => biLen ds | .int => biInt ds | .str => biStr ds | .abs => biAbs ds | .max => biMax ds | .min => biMin ds | .sum => biSum ds | .all => biAll ds | .any => biAny ds
  | .list => biList ds | .tuple => biTuple ds | .gcd => biGcd ds | .sorted => biSorted ds | .repr => biRepr ds | _ => .bad
noncomputable def bmSplit (z : Str) : List D → R (D × Bool)
  | [.str y] => (R.guard (!(y.length == 0) && sizeOk (z.length + 2))).bind fun _ => .ok (.lst ((Txt.split z y).map .str), true)
  | _ => .bad
noncomputable def bmJoin (z : Str) : List D → R (D × Bool)
  | [.lst l] => (R.of (strsD l)).bind fun ys => (R.guard (decide ((ys.map (·.length)).sum + ys.length * z.length ≤ 16777216))).bind fun _ => .ok (.str (Txt.join z ys), false)
  | _ => .bad
noncomputable def bmIsdigit (z : Str) : List D → R (D × Bool)
  | [] => .ok (.bl (Txt.isdigit z), false)
  | _ => .bad
noncomputable def bmIsascii (z : Str) : List D → R (D × Bool)
  | [] => .ok (.bl (Txt.isascii z), false)
  | _ => .bad
noncomputable def bmUpper (z : Str) : List D → R (D × Bool)
  | [] => (R.guard (decide (z.length ≤ 5592405))).bind fun _ => .ok (.str (Txt.upper z), false)
  | _ => .bad
/-- a method of a text -/
noncomputable def bmth (b : Bm) (z : Str) (ds : List D) : R (D × Bool) := match b with
  | .split => bmSplit z ds | .join => bmJoin z ds | .isdigit => bmIsdigit z ds | .isascii => bmIsascii z ds | .upper => bmUpper z ds | _ => .bad
/-- isinstance: 0 int, 1 bool, 2 str, 3 tuple, 4 list, 5 dict; own classes from 10 on -/
noncomputable def isInst (k : Nat) : D → R Bool
  | .non => if k < 10 then .ok false else .bad
  | .bl _ => if k < 10 then .ok (k == 0 || k == 1) else .bad
  | .int _ => if k < 10 then .ok (k == 0) else .bad
  | .str _ => if k < 10 then .ok (k == 2) else .bad
  | .tup _ => if k < 10 then .ok (k == 3) else .bad
  | .lst _ => if k < 10 then .ok (k == 4) else .bad
  | _ => .bad
/-- type(x) is int -/
noncomputable def isIntT : D → R Bool
  | .int _ => .ok true
  | .non => .ok false | .bl _ => .ok false | .str _ => .ok false | .tup _ => .ok false | .lst _ => .ok false
  | _ => .bad
/-- isinstance of an own class -/
noncomputable def isOwn (isa : Nat → Nat → Bool) (c : Nat) : D → R Bool
  | .ins c' _ _ => .ok (isa c' c)
  | .non => .ok false | .bl _ => .ok false | .int _ => .ok false | .str _ => .ok false | .tup _ => .ok false | .lst _ => .ok false
  | _ => .bad
/-- a value in an f-string -/
noncomputable def fmtD : D → R Str
  | .str y => (R.guard (sizeOk y.length)).bind fun _ => .ok y
  | .int i => (R.guard (decide (i.natAbs.log2 < 1920))).bind fun _ => .ok (toString i)
  | _ => .bad
noncomputable def tupI : D → Option (List Int)
  | .tup l => intsD l
  | _ => none
noncomputable def tupIs : List D → Option (List (List Int))
  | [] => some []
  | d :: l => (tupI d).bind fun k => (tupIs l).map (k :: ·)
/-- how many unlike ones -/
noncomputable def unlike : List (List Int) → Nat
  | [] => 0
  | k :: l => if k ∈ l then unlike l else unlike l + 1
noncomputable def lenSet (l : List D) : R Nat := (R.of (tupIs l)).bind fun ks => (R.guard (decide (ks.length < 63))).bind fun _ => .ok (unlike ks)
/-- len(set(row)) -/
noncomputable def lsnD : D → R Nat
  | .lst l => lenSet l
  | _ => .bad
/-- the numbers of a row, ascending, each once -/
noncomputable def insU (x : Int) : List Int → List Int
  | [] => [x]
  | y :: l => if x < y then x :: y :: l else if x = y then y :: l else y :: insU x l
noncomputable def sortU : List Int → List Int
  | [] => []
  | x :: l => insU x (sortU l)
noncomputable def kD : L2.Key → D
  | .inl i => .int i
  | .inr x => .str x
/-- list(d.items()) -/
noncomputable def itemsD : D → R (List D)
  | .dic ks vs => .ok ((ks.zip vs).map fun p => .tup [kD p.1, p.2])
  | .dit ks vs => .ok ((ks.zip vs).map fun p => .tup [.tup (p.1.map kD), p.2])
  | _ => .bad
/-- dict(list(d.items())) -/
noncomputable def dcopy : D → R D
  | .dic ks vs => (R.guard (nodK ks && decide (ks.length = vs.length))).bind fun _ => .ok (.dic ks vs)
  | _ => .bad
noncomputable def srsD : D → R D
  | .lst l => (R.of (intsD l)).bind fun ns => (R.guard (decide (ns.length < 63))).bind fun _ => .ok (.lst ((sortU ns).map .int))
  | _ => .bad
noncomputable def revD : D → R (D × Bool)
  | .lst l => .ok (.lst l.reverse, true)
  | .tup l => .ok (.tup l.reverse, false)
  | _ => .bad
/-- each second one -/
noncomputable def altG {α : Type} : List α → List α
  | [] => []
  | [d] => [d]
  | d :: _ :: l => d :: altG l
noncomputable def alt : List D → List D
  | [] => []
  | [d] => [d]
  | d :: _ :: l => d :: alt l
/-- x[k::2] -/
noncomputable def stpD (k : Nat) : D → R (D × Bool)
  | .tup l => .ok (.tup (alt (l.drop k)), false)
  | _ => .bad
/-- a row that is spread -/
noncomputable def seqD : D → R (List D)
  | .lst l => .ok l
  | .tup l => .ok l
  | _ => .bad
/-- enumerate, zip -/
noncomputable def enumF (n : Nat) : List D → List D
  | [] => []
  | d :: l => .tup [.int (n : Int), d] :: enumF (n + 1) l
noncomputable def zipD : D → D → R (List D)
  | .lst x, .lst y => .ok ((x.zip y).map fun p => .tup [p.1, p.2])
  | .tup x, .tup y => .ok ((x.zip y).map fun p => .tup [p.1, p.2])
  | _, _ => .bad
/-- what is walked, by its parts -/
noncomputable def subI : E → List E
  | .itm a => [a] | .enum a => [a] | .zip a b => [a, b] | .range l => [l] | _ => []
noncomputable def find (f : Nat) : List Nat → List D → R D
  | g :: gs, d :: ds => if g = f then .ok d else find f gs ds
  | _, _ => .bad
noncomputable def wipeS (σ : Fm) : List Nat → Fm
  | [] => σ
  | i :: is => wipeS (σ.set i .no) is
/-- slots that own nothing -/
noncomputable def freeS (σ : Fm) (vs : List Nat) : Bool := vs.all fun i => match σ[i]? with | some .no => true | some (.im _) => true | _ => false
noncomputable def backS (σ₀ σ : Fm) : List Nat → Fm
  | [] => σ
  | i :: is => backS σ₀ (σ.set i (σ₀[i]?.getD .no)) is
mutual
/-- a target takes a value -/
noncomputable def putT : E → D → Fm → R Fm
  | .var i, d, σ => match σ[i]? with
    | some .no => .ok (σ.set i (.im d))
    | some (.im _) => .ok (σ.set i (.im d))
    | some (.mu _) => .ok (σ.set i (.im d))
    | _ => .bad
  | .tup l, .tup ds, σ => putTs l ds σ
  | _, _, _ => .bad
noncomputable def putTs : E → List D → Fm → R Fm
  | .nil, [], σ => .ok σ
  | .cons t l, d :: ds, σ => (putT t d σ).bind fun σ' => putTs l ds σ'
  | _, _, _ => .bad
end
/-- the slots that a target stores -/
noncomputable def tgs : E → List Nat
  | .var i => [i]
  | .tup l => tgs l
  | .cons t l => tgs t ++ tgs l
  | _ => []
/-- the things that are walked: values, and the slot that is locked meanwhile -/
noncomputable def walked : Opd → Fm → R (List D × Fm)
  | x, σ => (rd σ x).bind fun d => match d with
    | .lst l => match x with
      | .r i => match σ[i]? with | some (.mu d) => .ok (l, σ.set i (.lk d)) | _ => .bad
      | .v _ => .ok (l, σ)
    | .tup l => .ok (l, σ)
    | _ => .bad
noncomputable def unlock : Opd → Fm → R Fm
  | .r i, σ => match σ[i]? with | some (.lk d) => .ok (σ.set i (.mu d)) | _ => .bad
  | .v _, σ => .ok σ
end Mini

set_option Elab.async false
set_option linter.all false
set_option maxRecDepth 100000
set_option maxHeartbeats 2000000
/-! ## the evaluator -/
namespace Mini
open PySem
noncomputable def tst (r : Res) : R (Bool × Fm) := r.bind fun x => (rd x.2.2 x.1).bind fun d => (truth d).bind fun b => .ok (b, x.2.2)
noncomputable def val (r : Res) : R (D × Fm) := r.bind fun x => (rd x.2.2 x.1).bind fun d => .ok (d, x.2.2)
noncomputable def rds (σ : Fm) : List Opd → R (List D)
  | [] => .ok []
  | x :: xs => (rd σ x).bind fun d => (rds σ xs).bind fun ds => .ok (d :: ds)
noncomputable def compLoop (f : D → Fm → R (Option D × Fm)) : List D → Fm → List D → R (List D × Fm)
  | [], σ, acc => .ok (acc, σ)
  | d :: ds, σ, acc => (f d σ).bind fun x => match x.1 with
    | some y => (R.guard (decide (acc.length < 16777216))).bind fun _ => compLoop f ds x.2 (acc ++ [y])
    | none => compLoop f ds x.2 acc
noncomputable def rangeD (lo : Int) (n : Nat) : List D := (List.range n).map fun (i : Nat) => D.int (lo + (i : Int))
noncomputable def ranged : List D → R (List D)
  | [.int j] => (R.guard (decide (-(2 ^ 62) ≤ j ∧ j < 2 ^ 62))).bind fun _ => .ok (rangeD 0 j.toNat)
  | [.int i, .int j] => (R.guard (decide (-(2 ^ 62) ≤ i ∧ i < 2 ^ 62 ∧ -(2 ^ 62) ≤ j ∧ j < 2 ^ 62))).bind fun _ => .ok (rangeD i (j - i).toNat)
  | _ => .bad
/-- a call of a def: the first argument lent, where it is so -/
noncomputable def callD (C : Cb) (f : Nat) (ds : List D) (σ : Fm) : R (D × Bool × Fm) := (C.call f (ds.map .im)).bind fun x => .ok (x.1, x.2.1, σ)
noncomputable def callI (C : Cb) (f i : Nat) (ds : List D) (σ : Fm) : R (D × Bool × Fm) := match σ[i]? with
  | some (.mu p) => (C.call f (.io p :: ds.map .im)).bind fun x => match x.2.2 with
    | .io p' :: _ => .ok (x.1, x.2.1, σ.set i (.mu p'))
    | _ => .bad
  | some (.io p) => (C.call f (.io p :: ds.map .im)).bind fun x => match x.2.2 with
    | .io p' :: _ => .ok (x.1, x.2.1, σ.set i (.io p'))
    | _ => .bad
  | _ => .bad
noncomputable def callN (C : Cb) (f : Nat) (p : D) (ds : List D) (σ : Fm) : R (D × Bool × Fm) := (C.call f (.io p :: ds.map .im)).bind fun x => .ok (x.1, x.2.1, σ)
noncomputable def callX (C : Cb) (f : Nat) : Opd → Bool → List D → Fm → R (D × Bool × Fm)
  | .r i, _, ds, σ => callI C f i ds σ
  | .v p, true, ds, σ => callN C f p ds σ
  | _, _, _, _ => .bad
/-- C(..) by its __init__ -/
noncomputable def makeN (C : Cb) (f c : Nat) (ds : List D) (σ : Fm) : Res := (C.call f (.io (.ins c [] []) :: ds.map .im)).bind fun x => match x.1, x.2.2 with
  | .non, .io d :: _ => .ok (.v d, true, σ)
  | _, _ => .bad
noncomputable def asV (r : R (D × Bool × Fm)) : Res := r.bind fun x => .ok (.v x.1, x.2.1, x.2.2)
noncomputable def asD (σ : Fm) (r : R (D × Bool)) : Res := r.bind fun x => .ok (.v x.1, x.2, σ)
noncomputable def asB (σ : Fm) (r : R Bool) : Res := r.bind fun b => .ok (.v (.bl b), false, σ)
/-- slot i owns a list, or has one lent -/
noncomputable def isL (i : Nat) (σ : Fm) : R Unit := match σ[i]? with
  | some (.mu (.lst _)) => .ok ()
  | some (.io (.lst _)) => .ok ()
  | _ => .bad
/-- what is taken out of a list, what stays -/
noncomputable def popL : List D → D → R (D × D)
  | [], .lst l => (R.of l[l.length - 1]?).bind fun d => .ok (d, .lst l.dropLast)
  | [.int k], .lst l => if 0 ≤ k ∧ k < (l.length : Int) ∧ k < 2 ^ 62 then (R.of l[k.toNat]?).bind fun d => .ok (d, .lst (l.eraseIdx k.toNat)) else .bad
  | _, _ => .bad
noncomputable def popD (i : Nat) (ds : List D) (σ : Fm) : R (D × Fm) := match σ[i]? with
  | some (.mu d) => (popL ds d).bind fun r => .ok (r.1, σ.set i (.mu r.2))
  | some (.io d) => (popL ds d).bind fun r => .ok (r.1, σ.set i (.io r.2))
  | _ => .bad
/-- written keys -/
noncomputable def litKs : E → Option (List L2.Key)
  | .nil => some []
  | .cons (.lit (.str x)) l => (litKs l).map (.inr x :: ·)
  | _ => none
mutual
noncomputable def ev (C : Cb) : E → Fm → Res
  | .var i, σ => match σ[i]? with
    | some (.im d) => .ok (.v d, false, σ)
    | some (.mu _) => .ok (.r i, false, σ)
    | some (.lk _) => .ok (.r i, false, σ)
    | some (.io _) => .ok (.r i, false, σ)
    | _ => .bad
  | .lit d, σ => .ok (.v d, false, σ)
  | .bin op a b, σ => (ev C a σ).bind fun x => (ev C b x.2.2).bind fun y => (rd y.2.2 x.1).bind fun d => (rd y.2.2 y.1).bind fun e => asD y.2.2 (binop op d e)
  | .neg a, σ => (ev C a σ).bind fun x => (rd x.2.2 x.1).bind fun d => match d with | .int i => .ok (.v (.int (-i)), false, x.2.2) | _ => .bad
  | .not a, σ => (tst (ev C a σ)).bind fun x => .ok (.v (.bl (!x.1)), false, x.2)
  | .cmp op a b, σ => (ev C a σ).bind fun x => (ev C b x.2.2).bind fun y => (rd y.2.2 x.1).bind fun d => (rd y.2.2 y.1).bind fun e => asB y.2.2 (cmpop op d e)
  | .cmp2 op op' a b c, σ => (ev C a σ).bind fun x => (ev C b x.2.2).bind fun y => (rd y.2.2 x.1).bind fun d => (rd y.2.2 y.1).bind fun e => (cmpop op d e).bind fun k =>
      if k then (ev C c y.2.2).bind fun z => (rd z.2.2 y.1).bind fun e' => (rd z.2.2 z.1).bind fun g => asB z.2.2 (cmpop op' e' g) else .ok (.v (.bl false), false, y.2.2)
  | .and l, σ => evAnd C l σ
  | .or l, σ => evOr C l σ
  | .ife t a b, σ => (tst (ev C t σ)).bind fun x => if x.1 then ev C a x.2 else ev C b x.2
  | .tup l, σ => (evW C l σ).bind fun x => (R.guard (sizeOk x.1.length)).bind fun _ => .ok (.v (.tup (x.1.map (·.1))), false, x.2)
  | .lst l, σ => (evW C l σ).bind fun x => (R.guard (sizeOk x.1.length)).bind fun _ => .ok (.v (.lst (x.1.map (·.1))), true, x.2)
  | .idx a b, σ => (ev C a σ).bind fun x => (ev C b x.2.2).bind fun y => (rd y.2.2 x.1).bind fun d => (rd y.2.2 y.1).bind fun e => (item d e).bind fun g => .ok (.v g, false, y.2.2)
  | .slc a lo hi, σ => (ev C a σ).bind fun x => (evP C lo x.2.2).bind fun y => (evP C hi y.2).bind fun z => (rd z.2 x.1).bind fun d => asD z.2 (slice d y.1 z.1)
  | .attr a f, σ => (ev C a σ).bind fun x => (rd x.2.2 x.1).bind fun d => match d with | .ins _ ns vs => (find f ns vs).bind fun g => .ok (.v g, false, x.2.2) | _ => .bad
  | .bi b l, σ => (evO C l σ).bind fun x => (rds x.2 x.1).bind fun ds => asD x.2 (builtin b ds)
  | .lrg l, σ => (evO C l σ).bind fun x => (rds x.2 x.1).bind fun ds => (ranged ds).bind fun is => (R.guard (sizeOk is.length)).bind fun _ => .ok (.v (.lst is), true, x.2)
  | .bm b a l, σ => (val (ev C a σ)).bind fun x => match x.1 with
    | .str z => (evO C l x.2).bind fun y => (rds y.2 y.1).bind fun ds => asD y.2 (bmth b z ds)
    | _ => .bad
  | .isi k a, σ => (ev C a σ).bind fun x => (rd x.2.2 x.1).bind fun d => asB x.2.2 (isInst k d)
  | .pop i l, σ => (isL i σ).bind fun _ => (evO C l σ).bind fun x => (rds x.2 x.1).bind fun ds => (popD i ds x.2).bind fun y => .ok (.v y.1, false, y.2)
  | .call f l, σ => if C.io f then
      match l with
      | .cons a m => (ev C a σ).bind fun x => (evW C m x.2.2).bind fun y => asV (callX C f x.1 x.2.1 (y.1.map (·.1)) y.2)
      | _ => .bad
    else asV ((evW C l σ).bind fun x => callD C f (x.1.map (·.1)) x.2)
  | .dcall f l, σ => if C.io f then .bad else asV ((evW C l σ).bind fun x => callD C f (x.1.map (·.1) ++ [D.non]) x.2)
  | .make c l, σ => match C.init c with
    | some f => (evW C l σ).bind fun x => makeN C f c (x.1.map (·.1)) x.2
    | none => .bad
  | .meth a m l, σ => (ev C a σ).bind fun x => (fz x).bind fun x => match x.1 with
    | .ins c ns vs => match C.meth m with
      | some (c', f) => if c' = c ∧ C.io f = false ∧ 500 ≤ m ∧ ns.all (· < 500) = true then (evW C l x.2.2).bind fun y => asV (callD C f (.ins c ns vs :: y.1.map (·.1)) y.2) else .bad
      | none => .bad
    | _ => .bad
  | .comp e t it c vs, σ => (evI C it σ).bind fun x => (R.guard (freeS x.2.2 vs)).bind fun _ =>
      (compLoop (fun d σ' => (putT t d σ').bind fun σ1 => (evC C c σ1).bind fun y =>
        if y.1 then (ev C e y.2).bind fun z => (fz z).bind fun w => (R.guard (freeS w.2.2 vs)).bind fun _ => .ok (some w.1, wipeS w.2.2 vs) else (R.guard (freeS y.2 vs)).bind fun _ => .ok (none, wipeS y.2 vs)) x.1 (wipeS x.2.2 vs) []).bind fun y =>
      (unlock x.2.1 (backS x.2.2 y.2 vs)).bind fun σ' => .ok (.v (.lst y.1), true, σ')
  | .tyi a, σ => (ev C a σ).bind fun x => (rd x.2.2 x.1).bind fun d => asB x.2.2 (isIntT d)
  | .isc c a, σ => (ev C a σ).bind fun x => (rd x.2.2 x.1).bind fun d => asB x.2.2 (isOwn C.isa c d)
  | .oeq neg a b, σ => (ev C a σ).bind fun x => (fz x).bind fun x => (ev C b x.2.2).bind fun y => (fz y).bind fun y => match x.1, y.1 with
    | .ins c ns vs, .ins c' ns' vs' => match C.sp c 0 with
      | some f => if c' = c ∧ C.io f = false then (C.call f [.im (.ins c ns vs), .im (.ins c' ns' vs')]).bind fun r => match r.1 with
        | .bl k => .ok (.v (.bl (k != neg)), false, y.2.2)
        | _ => .bad
        else .bad
      | none => .bad
    | _, _ => .bad
  | .fstr l, σ => (evJ C l Str.empty σ).bind fun x => .ok (.v (.str x.1), false, x.2)
  | .lset e t it c vs, σ => (evI C it σ).bind fun x => (R.guard (freeS x.2.2 vs)).bind fun _ =>
      (compLoop (fun d σ' => (putT t d σ').bind fun σ1 => (evC C c σ1).bind fun y =>
        if y.1 then (ev C e y.2).bind fun z => (fz z).bind fun w => (R.guard (freeS w.2.2 vs)).bind fun _ => .ok (some w.1, wipeS w.2.2 vs) else (R.guard (freeS y.2 vs)).bind fun _ => .ok (none, wipeS y.2 vs)) x.1 (wipeS x.2.2 vs) []).bind fun y =>
      (unlock x.2.1 (backS x.2.2 y.2 vs)).bind fun σ' => (lenSet y.1).bind fun n => .ok (.v (.int n), false, σ')
  | .dic ks vs, σ => (R.of (litKs ks)).bind fun kl => (R.guard (nodK kl && decide (kl.length ≤ 15) && !kl.isEmpty)).bind fun _ => (evW C vs σ).bind fun x => (R.guard (x.1.length == kl.length)).bind fun _ => .ok (.v (.dic kl (x.1.map (·.1))), true, x.2)
  | .dnt t, σ => .ok (.v (if t then .dit [] [] else .dic [] []), true, σ)
  | .itl a, σ => (ev C a σ).bind fun x => (rd x.2.2 x.1).bind fun d => (itemsD d).bind fun l => .ok (.v (.lst l), true, x.2.2)
  | .dcp a, σ => (ev C a σ).bind fun x => (rd x.2.2 x.1).bind fun d => (dcopy d).bind fun e => .ok (.v e, true, x.2.2)
  | .srs a, σ => (ev C a σ).bind fun x => (rd x.2.2 x.1).bind fun d => (srsD d).bind fun e => .ok (.v e, true, x.2.2)
  | .lsn a, σ => (ev C a σ).bind fun x => (rd x.2.2 x.1).bind fun d => (lsnD d).bind fun n => .ok (.v (.int n), false, x.2.2)
  | .rev a, σ => (ev C a σ).bind fun x => (rd x.2.2 x.1).bind fun d => asD x.2.2 (revD d)
  | .stp a k, σ => (ev C a σ).bind fun x => (rd x.2.2 x.1).bind fun d => asD x.2.2 (stpD k d)
  | .lss l, σ => (evS C l σ).bind fun x => (R.guard (sizeOk x.1.length)).bind fun _ => .ok (.v (.lst x.1), true, x.2)
  | _, _ => .bad
/-- the parts of an f-string -/
noncomputable def evJ (C : Cb) : E → Str → Fm → R (Str × Fm)
  | .nil, acc, σ => .ok (acc, σ)
  | .cons (.fmt a) l, acc, σ => (ev C a σ).bind fun x => (rd x.2.2 x.1).bind fun d => (fmtD d).bind fun y => (R.guard (sizeOk (acc ++ y).length)).bind fun _ => evJ C l (acc ++ y) x.2.2
  | .cons (.lit (.str y)) l, acc, σ => (R.guard (sizeOk (acc ++ y).length)).bind fun _ => evJ C l (acc ++ y) σ
  | _, _, _ => .bad
/-- items, spread rows among them -/
noncomputable def evS (C : Cb) : E → Fm → R (List D × Fm)
  | .nil, σ => .ok ([], σ)
  | .cons (.star a) l, σ => (val (ev C a σ)).bind fun x => (seqD x.1).bind fun ds => (evS C l x.2).bind fun y => .ok (ds ++ y.1, y.2)
  | .cons a l, σ => (ev C a σ).bind fun x => (fz x).bind fun x => (evS C l x.2.2).bind fun y => .ok (x.1 :: y.1, y.2)
  | _, _ => .bad
noncomputable def evW (C : Cb) : E → Fm → R (List (D × Bool) × Fm)
  | .nil, σ => .ok ([], σ)
  | .cons a l, σ => (ev C a σ).bind fun x => (fz x).bind fun x => (evW C l x.2.2).bind fun y => .ok ((x.1, x.2.1) :: y.1, y.2)
  | _, _ => .bad
noncomputable def evO (C : Cb) : E → Fm → R (List Opd × Fm)
  | .nil, σ => .ok ([], σ)
  | .cons a l, σ => (ev C a σ).bind fun x => (evO C l x.2.2).bind fun y => .ok (x.1 :: y.1, y.2)
  | _, _ => .bad
noncomputable def evP (C : Cb) : E → Fm → R (Option Int × Fm)
  | .nil, σ => .ok (none, σ)
  | .cons a .nil, σ => (val (ev C a σ)).bind fun x => match x.1 with | .int i => .ok (some i, x.2) | _ => .bad
  | _, _ => .bad
noncomputable def evAnd (C : Cb) : E → Fm → Res
  | .cons a .nil, σ => ev C a σ
  | .cons a l, σ => (ev C a σ).bind fun x => (rd x.2.2 x.1).bind fun d => (truth d).bind fun b => if b then evAnd C l x.2.2 else .ok (x.1, false, x.2.2)
  | _, _ => .bad
noncomputable def evOr (C : Cb) : E → Fm → Res
  | .cons a .nil, σ => ev C a σ
  | .cons a l, σ => (ev C a σ).bind fun x => (rd x.2.2 x.1).bind fun d => (truth d).bind fun b => if b then .ok (x.1, false, x.2.2) else evOr C l x.2.2
  | _, _ => .bad
noncomputable def evC (C : Cb) : E → Fm → R (Bool × Fm)
  | .nil, σ => .ok (true, σ)
  | .cons a l, σ => (tst (ev C a σ)).bind fun x => if x.1 then evC C l x.2 else .ok (false, x.2)
  | _, _ => .bad
noncomputable def evI (C : Cb) : E → Fm → R (List D × Opd × Fm)
  | .range l, σ => (evO C l σ).bind fun x => (rds x.2 x.1).bind fun ds => (ranged ds).bind fun is => .ok (is, .v .non, x.2)
  | .itm a, σ => (ev C a σ).bind fun x => (walked x.1 x.2.2).bind fun y => .ok (y.1, x.1, y.2)
  | .enum a, σ => (ev C a σ).bind fun x => (walked x.1 x.2.2).bind fun y => .ok (enumF 0 y.1, x.1, y.2)
  | .zip a b, σ => (ev C a σ).bind fun x => (fz x).bind fun x => (ev C b x.2.2).bind fun y => (fz y).bind fun y => (zipD x.1 y.1).bind fun l => .ok (l, .v .non, y.2.2)
  | _, _ => .bad
end

/-! ### statements -/
inductive Fl where
  | nx (σ : Fm) | ret (d : D) (o : Bool) (σ : Fm) | brk (σ : Fm) | ct (σ : Fm)
noncomputable def isObj : D → Bool
  | .lst _ => true | .dic _ _ => true | .dit _ _ => true | .ins _ _ _ => true | _ => false
/-- a slot takes a value, a new one as its own -/
noncomputable def putS (i : Nat) (d : D) (o : Bool) (σ : Fm) : R Fm := match σ[i]? with
  | some (.io _) => .bad | some (.lk _) => .bad | none => .bad
  | some _ => if o && isObj d then .ok (σ.set i (.mu d)) else .ok (σ.set i (.im d))
noncomputable def putSs : List Nat → List (D × Bool) → Fm → R Fm
  | [], [], σ => .ok σ
  | i :: is, x :: xs, σ => (putS i x.1 x.2 σ).bind fun σ' => putSs is xs σ'
  | _, _, _ => .bad
/-- what a slot owns is changed -/
noncomputable def upS (i : Nat) (f : D → R D) (σ : Fm) : R Fm := match σ[i]? with
  | some (.mu d) => (f d).bind fun d' => .ok (σ.set i (.mu d'))
  | some (.io d) => (f d).bind fun d' => .ok (σ.set i (.io d'))
  | _ => .bad
/-- an element of a list, by a place from the front -/
noncomputable def itemP : D → D → R D
  | .lst l, .int i => if 0 ≤ i ∧ i < (l.length : Int) then R.of l[i.toNat]? else .bad
  | _, _ => .bad
/-- op= of whole numbers -/
noncomputable def ipD : Operator → D → D → R D
  | .Add, .int i, .int j => .ok (.int (i + j))
  | .Sub, .int i, .int j => .ok (.int (i - j))
  | _, _, _ => .bad
noncomputable def appD (y : D) : D → R D
  | .lst l => (R.guard (decide (l.length < 16777216))).bind fun _ => .ok (.lst (l ++ [y]))
  | _ => .bad
noncomputable def extD (y : D) : D → R D := fun x => match x, y with
  | .lst l, .lst m => (R.guard (sizeOk (l.length + m.length))).bind fun _ => .ok (.lst (l ++ m))
  | _, _ => .bad
noncomputable def setD (k y : D) : D → R D := fun x => match x, k with
  | .lst l, .int i => if 0 ≤ i ∧ i < (l.length : Int) then .ok (.lst (l.set i.toNat y)) else .bad
  | _, _ => .bad
/-- d[k] = y -/
noncomputable def setK (k y : D) : D → R D
  | .dic ks vs => (R.of (keyD k)).bind fun k => (R.guard (decide (ks.length = vs.length ∧ ks.length < 16777216))).bind fun _ => .ok (.dic (putKs k ks) (putVs k y ks vs))
  | .dit ks vs => match k with
    | .tup l => (R.of (keysD l)).bind fun k => (R.guard (decide (ks.length = vs.length ∧ ks.length < 16777216))).bind fun _ => .ok (.dit (putKs k ks) (putVs k y ks vs))
    | _ => .bad
  | _ => .bad
/-- slot i owns a dict, or has one lent -/
noncomputable def isDc (i : Nat) (σ : Fm) : R Unit := match σ[i]? with
  | some (.mu (.dic _ _)) => .ok ()
  | some (.mu (.dit _ _)) => .ok ()
  | some (.io (.dic _ _)) => .ok ()
  | some (.io (.dit _ _)) => .ok ()
  | _ => .bad
noncomputable def putF (f : Nat) (y : D) : List Nat → List D → List Nat × List D
  | g :: gs, d :: ds => if g = f then (g :: gs, y :: ds) else (g :: (putF f y gs ds).1, d :: (putF f y gs ds).2)
  | _, _ => ([f], [y])
noncomputable def setA (f : Nat) (y : D) : D → R D
  | .ins c ns vs => if ns.length < 900 then .ok (.ins c (putF f y ns vs).1 (putF f y ns vs).2) else .bad
  | _ => .bad
noncomputable def forLoop (f : D → Fm → R Fl) : List D → Fm → R Fl
  | [], σ => .ok (.nx σ)
  | d :: ds, σ => (f d σ).bind fun
    | .nx σ' => forLoop f ds σ'
    | .ct σ' => forLoop f ds σ'
    | .brk σ' => .ok (.nx σ')
    | .ret d o σ' => .ok (.ret d o σ')
noncomputable def whileLoop (f : Fm → R (Bool × Fm)) (g : Fm → R Fl) : Nat → Fm → R Fl
  | 0, _ => .bad
  | n + 1, σ => (f σ).bind fun x => if x.1 then (g x.2).bind fun
      | .nx σ' => whileLoop f g n σ'
      | .ct σ' => whileLoop f g n σ'
      | .brk σ' => .ok (.nx σ')
      | .ret d o σ' => .ok (.ret d o σ')
    else .ok (.nx x.2)
noncomputable def ex (C : Cb) : S → Fm → R Fl
  | .done, σ => .ok (.nx σ)
  | .seq s t, σ => (ex C s σ).bind fun
    | .nx σ' => ex C t σ'
    | f => .ok f
  | .asg (.var i) e, σ => (ev C e σ).bind fun x => (fz x).bind fun x => (putS i x.1 x.2.1 x.2.2).bind fun σ' => .ok (.nx σ')
  | .asg t e, σ => (ev C e σ).bind fun x => (fz x).bind fun x => (putT t x.1 x.2.2).bind fun σ' => .ok (.nx σ')
  | .par is l, σ => (evW C l σ).bind fun x => (putSs is x.1 x.2).bind fun σ' => .ok (.nx σ')
  | .ret (.var i), σ => match σ[i]? with
    | some (.mu d) => .ok (.ret d true (σ.set i .no))
    | some (.im d) => .ok (.ret d false σ)
    | _ => .bad
  | .ret e, σ => (ev C e σ).bind fun x => (fz x).bind fun x => .ok (.ret x.1 x.2.1 x.2.2)
  | .retn, σ => .ok (.ret .non false σ)
  | .ife t a b, σ => (tst (ev C t σ)).bind fun x => if x.1 then ex C a x.2 else ex C b x.2
  | .whl t b, σ => whileLoop (fun σ => tst (ev C t σ)) (ex C b) C.lim σ
  | .for t it b, σ => (evI C it σ).bind fun x => (forLoop (fun d σ' => (putT t d σ').bind fun σ1 => ex C b σ1) x.1 x.2.2).bind fun
    | .nx σ' => (unlock x.2.1 σ').bind fun σ2 => .ok (.nx σ2)
    | f => .ok f
  | .expr e, σ => (ev C e σ).bind fun x => .ok (.nx x.2.2)
  | .app i e, σ => (isL i σ).bind fun _ => (ev C e σ).bind fun x => (fz x).bind fun x => (upS i (appD x.1) x.2.2).bind fun σ' => .ok (.nx σ')
  | .ext i e, σ => (isL i σ).bind fun _ => (val (ev C e σ)).bind fun x => (upS i (extD x.1) x.2).bind fun σ' => .ok (.nx σ')
  | .seti i k e, σ => (ev C e σ).bind fun x => (fz x).bind fun x => (isL i x.2.2).bind fun _ => (val (ev C k x.2.2)).bind fun y => (upS i (setD y.1 x.1) y.2).bind fun σ' => .ok (.nx σ')
  | .setd i k e, σ => (ev C e σ).bind fun x => (fz x).bind fun x => (isDc i x.2.2).bind fun _ => (val (ev C k x.2.2)).bind fun y => (upS i (setK y.1 x.1) y.2).bind fun σ' => .ok (.nx σ')
  | .augi i k op e, σ => (isL i σ).bind fun _ => (val (ev C k σ)).bind fun x => (rd x.2 (.r i)).bind fun l => (itemP l x.1).bind fun d => (val (ev C e x.2)).bind fun y => (ipD op d y.1).bind fun z => (upS i (setD x.1 z) y.2).bind fun σ' => .ok (.nx σ')
  | .aug i op e, σ => match σ[i]? with
    | some (.im d) => (val (ev C e σ)).bind fun y => (ipD op d y.1).bind fun z => (putS i z false y.2).bind fun σ' => .ok (.nx σ')
    | _ => .bad
  | .seta i f e, σ => (ev C e σ).bind fun x => (fz x).bind fun x => (upS i (setA f x.1) x.2.2).bind fun σ' => .ok (.nx σ')
  | .raise c e, σ => (ev C e σ).bind fun x => (fz x).bind fun x => .err c x.1
  | .pass, σ => .ok (.nx σ)
  | .brk, σ => .ok (.brk σ)
  | .ct, σ => .ok (.ct σ)
  | .nope, _ => .bad
/-- a def: how many parameters, how many slots, whether the first parameter is lent, the body -/
structure Fn where
  ps : Nat
  n : Nat
  io : Bool
  body : S
/-- the parameters behind a call: what was lent, as it stands now -/
noncomputable def back : List Slot → Fm → List Slot
  | .io _ :: as, .io d :: σ => .io d :: back as σ
  | s :: as, _ :: σ => s :: back as σ
  | as, _ => as
noncomputable def ends (as : List Slot) : Fl → R (D × Bool × List Slot)
  | .ret d o σ => .ok (d, o, back as σ)
  | .nx σ => .ok (.non, false, back as σ)
  | _ => .bad
/-- the program: its defs by number, __init__ of a class, the methods -/
structure Pr where
  fn : Nat → Option Fn
  init : Nat → Option Nat
  meth : Nat → Option (Nat × Nat)
  lim : Nat
  isa : Nat → Nat → Bool
  sp : Nat → Nat → Option Nat
noncomputable def evF (P : Pr) : Nat → Nat → List Slot → R (D × Bool × List Slot)
  | 0, _, _ => .bad
  | n + 1, f, as => match P.fn f with
    | some F => if as.length = F.ps then (ex ⟨evF P n, fun g => ((P.fn g).map (·.io)).getD false, P.init, P.meth, P.lim, P.isa, P.sp⟩ F.body (as ++ List.replicate (F.n - F.ps) .no)).bind (ends as) else .bad
    | none => .bad
end Mini

set_option Elab.async false
set_option linter.all false
set_option maxRecDepth 100000
set_option maxHeartbeats 2000000
/-! ## what stands in the heap -/
namespace Mini
open PySem L2
/-- what the top has made: the classes by number, the attributes' names -/
structure Wd where
  K : PySem.W.Frag
  cls : Nat → Option Addr
  att : Nat → Str
noncomputable abbrev Zone := Addr → Prop
noncomputable def Wr (K : PySem.W.Frag) (a : Addr) (xs : List V) : Prop := ∃ (o : Obj) (its : Array Value) (n : Nat), K.lookup a = some o ∧ o.cls = .type "list" ∧ o.dict = none ∧ o.data = .seq its n ∧ its.size ≤ sizeLine ∧ Vals xs its.toList
mutual
inductive Den (W : Wd) (H : Hp) (M : Zone) : D → V → Prop where
  | non : Den W H M .non .non
  | bl (b : Bool) : Den W H M (.bl b) (.bl b)
  | int (i : Int) : Den W H M (.int i) (.int i)
  | str (z : Str) : Den W H M (.str z) (.str z)
  | tup {ds : List D} {a : Addr} {vs : List V} (h : H a = some (.tup vs)) (m : True) (l : DenL W H M ds vs) : Den W H M (.tup ds) (.ref a)
  | lst {ds : List D} {a : Addr} {vs : List V} (h : H a = some (.lst vs)) (m : ¬ M a) (l : DenL W H M ds vs) : Den W H M (.lst ds) (.ref a)
  | frz {ds : List D} {a : Addr} {o : Obj} {vs : List V} (h : H a = some (.frz o (.lst vs))) (m : ¬ M a) (l : DenL W H M ds vs) : Den W H M (.frz ds) (.ref a)
  | lsw {ds : List D} {a : Addr} {vs : List V} (h : Wr W.K a vs) (l : DenL W H M ds vs) : Den W H M (.frz ds) (.ref a)
  | dik {ds : List D} {a : Addr} {kvs : List (Key × V)} (h : H a = some (.dK kvs)) (m : ¬ M a) (l : DenL W H M ds (kvs.map (·.2))) : Den W H M (.dic (kvs.map (·.1)) ds) (.ref a)
  | dit {ds : List D} {a : Addr} {kvs : List (List Key × V)} (h : H a = some (.dT kvs)) (m : ¬ M a) (l : DenL W H M ds (kvs.map (·.2))) : Den W H M (.dit (kvs.map (·.1)) ds) (.ref a)
  | ins {c : Nat} {ns : List Nat} {ds : List D} {a C dx : Addr} {fs : List (Str × V)} (h : H a = some (.ins C dx fs)) (m : ¬ M a) (hc : W.cls c = some C) (hn : fs.map (·.1) = ns.map W.att) (l : DenL W H M ds (fs.map (·.2))) :
      Den W H M (.ins c ns ds) (.ref a)
inductive DenL (W : Wd) (H : Hp) (M : Zone) : List D → List V → Prop where
  | nil : DenL W H M [] []
  | cons {d : D} {v : V} {ds : List D} {vs : List V} (h : Den W H M d v) (l : DenL W H M ds vs) : DenL W H M (d :: ds) (v :: vs)
end
/-- what a slot owns stands at a -/
inductive Own (W : Wd) (H : Hp) (M : Zone) (a : Addr) : D → Prop where
  | lst {ds : List D} {vs : List V} (h : H a = some (.lst vs)) (l : DenL W H M ds vs) : Own W H M a (.lst ds)
  | dik {ds : List D} {kvs : List (Key × V)} (h : H a = some (.dK kvs)) (l : DenL W H M ds (kvs.map (·.2))) : Own W H M a (.dic (kvs.map (·.1)) ds)
  | dit {ds : List D} {kvs : List (List Key × V)} (h : H a = some (.dT kvs)) (l : DenL W H M ds (kvs.map (·.2))) : Own W H M a (.dit (kvs.map (·.1)) ds)
  | ins {c : Nat} {ns : List Nat} {ds : List D} {C dx : Addr} {fs : List (Str × V)} (h : H a = some (.ins C dx fs)) (hc : W.cls c = some C) (hn : fs.map (·.1) = ns.map W.att) (l : DenL W H M ds (fs.map (·.2))) : Own W H M a (.ins c ns ds)
/-- all but what lies in Mw stands -/
noncomputable def Fr (Mw : Zone) (H H' : Hp) : Prop := ∀ a o, H a = some o → (¬ Mw a ∨ ∃ xs, o = .tup xs) → H' a = some o
theorem Fr.at' {Mw : Zone} {H H' : Hp} (f : Fr Mw H H') {a : Addr} {o : HO} (e : H a = some o) (n : ¬ Mw a) : H' a = some o := f a o e (.inl n)
theorem Fr.tp {Mw : Zone} {H H' : Hp} (f : Fr Mw H H') {a : Addr} {xs : List V} (e : H a = some (.tup xs)) : H' a = some (.tup xs) := f a _ e (.inr ⟨xs, rfl⟩)
noncomputable def Z0 : Zone := fun _ => False
noncomputable def Zp (M : Zone) (p : Addr) : Zone := fun a => M a ∨ a = p

section
variable {W : Wd} {H H' H1 H2 : Hp} {M M' Mw : Zone} {a p : Addr}
theorem Fr.refl : Fr Mw H H := fun _ _ h _ => h
theorem Fr.trans (f : Fr Mw H H1) (g : Fr M H1 H2) (h : ∀ a, M a → Mw a ∨ H a = none) : Fr Mw H H2 := fun a o e n => g a o (f a o e n) (n.imp (fun n z => by
  rcases h a z with q | q
  · exact n q
  · rw [e] at q; cases q) id)
theorem Fr.mono (f : Fr Mw H H') (h : ∀ a, Mw a → M a) : Fr M H H' := fun a o e n => f a o e (n.imp (fun n z => n (h a z)) id)
theorem Fr.new {o : HO} (h : H p = none) : Fr Mw H (upd H p o) := fun a u e _ => by
  rw [upd_ne (ne_of_none e h)]
  exact e
theorem out_of {u : HO} (r : H a = some u) (m : ¬ M a) (h : ∀ b, M' b → M b ∨ H b = none) : ¬ M' a := fun z => by
  rcases h a z with q | q
  · exact m q
  · rw [r] at q; cases q
mutual
theorem Den.step {d : D} {v : V} (h : Den W H M d v) (f : Fr Mw H H') (hw : ∀ b, Mw b → M b) (hm : ∀ b, M' b → M b ∨ H b = none) : Den W H' M' d v := by
  cases h with
  | non => exact .non
  | bl b => exact .bl b
  | int i => exact .int i
  | str z => exact .str z
  | tup h m l => exact .tup (f.tp h) trivial (DenL.step l f hw hm)
  | lst h m l => exact .lst (f.at' h fun z => m (hw _ z)) (out_of h m hm) (DenL.step l f hw hm)
  | frz h m l => exact .frz (f.at' h fun z => m (hw _ z)) (out_of h m hm) (DenL.step l f hw hm)
  | lsw h l => exact .lsw h (DenL.step l f hw hm)
  | dik h m l => exact .dik (f.at' h fun z => m (hw _ z)) (out_of h m hm) (DenL.step l f hw hm)
  | dit h m l => exact .dit (f.at' h fun z => m (hw _ z)) (out_of h m hm) (DenL.step l f hw hm)
  | ins h m hc hn l => exact .ins (f.at' h fun z => m (hw _ z)) (out_of h m hm) hc hn (DenL.step l f hw hm)
theorem DenL.step {ds : List D} {vs : List V} (h : DenL W H M ds vs) (f : Fr Mw H H') (hw : ∀ b, Mw b → M b) (hm : ∀ b, M' b → M b ∨ H b = none) : DenL W H' M' ds vs := by
  cases h with
  | nil => exact .nil
  | cons h l => exact .cons (Den.step h f hw hm) (DenL.step l f hw hm)
end
theorem Own.step {d : D} (h : Own W H M a d) (f : Fr Mw H H') (n : ¬ Mw a) (hw : ∀ b, Mw b → M b) (hm : ∀ b, M' b → M b ∨ H b = none) : Own W H' M' a d := by
  cases h with
  | lst h l => exact .lst (f.at' h n) (l.step f hw hm)
  | dik h l => exact .dik (f.at' h n) (l.step f hw hm)
  | dit h l => exact .dit (f.at' h n) (l.step f hw hm)
  | ins h hc hn l => exact .ins (f.at' h n) hc hn (l.step f hw hm)
theorem Own.den {d : D} (h : Own W H M a d) (n : ¬ M a) : Den W H M d (.ref a) := by
  cases h with
  | lst h l => exact .lst h n l
  | dik h l => exact .dik h n l
  | dit h l => exact .dit h n l
  | ins h hc hn l => exact .ins h n hc hn l
theorem Own.some {d : D} (h : Own W H M a d) : H a ≠ none := by
  cases h with
  | lst h l => rw [h]; exact fun z => nomatch z
  | dik h l => rw [h]; exact fun z => nomatch z
  | dit h l => rw [h]; exact fun z => nomatch z
  | ins h hc hn l => rw [h]; exact fun z => nomatch z
theorem Own.isObj {d : D} (h : Own W H M a d) : Mini.isObj d = true := by cases h <;> rfl
theorem DenL.length {ds : List D} {vs : List V} (h : DenL W H M ds vs) : ds.length = vs.length := by
  induction ds generalizing vs with
  | nil => cases h; rfl
  | cons d ds ih => cases h with | cons h l => simp [ih l]
theorem DenL.get {ds : List D} {vs : List V} (h : DenL W H M ds vs) {i : Nat} {d : D} (e : ds[i]? = some d) : ∃ v, vs[i]? = some v ∧ Den W H M d v := by
  induction ds generalizing vs i with
  | nil => simp at e
  | cons d ds ih =>
    cases h with
    | cons h l =>
      cases i with
      | zero => simp at e; subst e; exact ⟨_, rfl, h⟩
      | succ i => simpa using ih l (by simpa using e)
theorem DenL.append {ds es : List D} {vs us : List V} (h : DenL W H M ds vs) (g : DenL W H M es us) : DenL W H M (ds ++ es) (vs ++ us) := by
  induction ds generalizing vs with
  | nil => cases h; exact g
  | cons d ds ih => cases h with | cons h l => exact .cons h (ih l)
theorem DenL.take {ds : List D} {vs : List V} (h : DenL W H M ds vs) (n : Nat) : DenL W H M (ds.take n) (vs.take n) := by
  induction ds generalizing vs n with
  | nil => cases h; simp; exact .nil
  | cons d ds ih =>
    cases h with
    | cons h l => cases n with
      | zero => exact .nil
      | succ n => exact .cons h (ih l n)
theorem DenL.drop {ds : List D} {vs : List V} (h : DenL W H M ds vs) (n : Nat) : DenL W H M (ds.drop n) (vs.drop n) := by
  induction ds generalizing vs n with
  | nil => cases h; simp; exact .nil
  | cons d ds ih =>
    cases h with
    | cons h l => cases n with
      | zero => exact .cons h l
      | succ n => exact ih l n
theorem DenL.set {ds : List D} {vs : List V} (h : DenL W H M ds vs) (n : Nat) {d : D} {v : V} (g : Den W H M d v) : DenL W H M (ds.set n d) (vs.set n v) := by
  induction ds generalizing vs n with
  | nil => cases h; simp; exact .nil
  | cons e ds ih =>
    cases h with
    | cons h l => cases n with
      | zero => exact .cons g l
      | succ n => exact .cons h (ih l n)
end
end Mini

set_option Elab.async false
set_option linter.all false
set_option maxRecDepth 100000
set_option maxHeartbeats 2000000
/-! ## slots and what stands in the heap -/
namespace Mini
open PySem L2
noncomputable def Slot.held : Slot → Option D
  | .mu d => some d | .lk d => some d | .io d => some d | _ => none
noncomputable def Slot.wr : Slot → Option D
  | .mu d => some d | .io d => some d | _ => none
/-- lent or locked: the slot stays so -/
noncomputable def Slot.pin : Slot → Option Bool
  | .io _ => some true | .lk _ => some false | _ => none
noncomputable def Pin (σ : Fm) (i : Nat) (b : Bool) : Prop := ∃ s, σ[i]? = some s ∧ s.pin = some b
theorem Pin.set {σ : Fm} {i j : Nat} {s s' : Slot} {b : Bool} (h : Pin σ j b) (e : σ[i]? = some s) (k : ∀ c, s.pin = some c → s'.pin = some c) : Pin (σ.set i s') j b := by
  obtain ⟨t, e1, e2⟩ := h
  by_cases q : j = i
  · subst q
    rw [e] at e1
    cases e1
    exact ⟨s', List.getElem?_set_self (List.getElem?_eq_some_iff.mp e).1, k b e2⟩
  · exact ⟨t, by rw [List.getElem?_set_ne (Ne.symm q)]; exact e1, e2⟩
theorem Pin.held {σ : Fm} {i : Nat} {b : Bool} (h : Pin σ i b) : ∃ s d, σ[i]? = some s ∧ s.held = some d := by
  obtain ⟨s, e, k⟩ := h
  cases s with
  | io d => exact ⟨_, d, e, rfl⟩
  | lk d => exact ⟨_, d, e, rfl⟩
  | _ => cases k
noncomputable def Held (σ : Fm) (i : Nat) (d : D) : Prop := ∃ s, σ[i]? = some s ∧ s.held = some d
noncomputable def muts (σ : Fm) (σV : L2.St) : Zone := fun a => ∃ i d, Held σ i d ∧ σV[i]? = some (some (.ref a))
/-- what may be written -/
noncomputable def wrt (σ : Fm) (σV : L2.St) : Zone := fun a => ∃ (i : Nat) (s : Slot) (d : D), σ[i]? = some s ∧ Slot.wr s = some d ∧ σV[i]? = some (some (V.ref a))
theorem wr_held {s : Slot} {d : D} (h : s.wr = some d) : s.held = some d := by cases s <;> simp [Slot.wr] at h <;> (subst h; rfl)
theorem wrt_le {σ : Fm} {σV : L2.St} {a : Addr} (h : wrt σ σV a) : muts σ σV a := let ⟨i, s, d, h1, h2, h3⟩ := h; ⟨i, d, ⟨s, h1, wr_held h2⟩, h3⟩
noncomputable def Mu (Mo : Zone) (σ : Fm) (σV : L2.St) : Zone := fun a => Mo a ∨ muts σ σV a
structure Rel (W : Wd) (Mo : Zone) (σ : Fm) (σV : L2.St) (H : Hp) : Prop where
  len : σ.length = σV.length
  im : ∀ (i : Nat) (d : D), σ[i]? = some (Slot.im d) → ∃ v, σV[i]? = some (some v) ∧ Den W H (Mu Mo σ σV) d v
  mu : ∀ (i : Nat) (d : D), Held σ i d → ∃ a, σV[i]? = some (some (.ref a)) ∧ ¬ Mo a ∧ Own W H (Mu Mo σ σV) a d
  ne : ∀ (i j : Nat) (d e : D) (a : Addr), Held σ i d → Held σ j e → σV[i]? = some (some (.ref a)) → σV[j]? = some (some (.ref a)) → i = j
  tr : ∀ a, Mo a → H a ≠ none
/-- what a value is to be: a slot's, one that stays, one that is new -/
noncomputable def VR (W : Wd) (Mo : Zone) (σ : Fm) (σV : L2.St) (H : Hp) : Opd → Bool → V → Prop
  | .r i, _, v => σV[i]? = some (some v)
  | .v d, false, v => Den W H (Mu Mo σ σV) d v
  | .v d, true, v => ∃ p, v = .ref p ∧ ¬ Mu Mo σ σV p ∧ Own W H (Zp (Mu Mo σ σV) p) p d ∧ Rel W (Zp Mo p) σ σV H
structure Post (W : Wd) (Mo : Zone) (σ : Fm) (σV : L2.St) (H : Hp) (x : Opd) (o : Bool) (σ' : Fm) (v : V) (H' : Hp) : Prop where
  fr : Fr (wrt σ σV) H H'
  dm : ∀ a, H a ≠ none → H' a ≠ none
  mm : ∀ a, muts σ' σV a → muts σ σV a
  wm : ∀ a, wrt σ' σV a → wrt σ σV a
  ios : ∀ (i : Nat) (b : Bool), Pin σ i b → Pin σ' i b
  rel : Rel W Mo σ' σV H'
  val : VR W Mo σ' σV H' x o v
  nw : o = true → ∀ p, v = .ref p → H p = none
/-- a value for reading: one that stays, or what a slot owns -/
noncomputable def DenW (W : Wd) (H : Hp) (M : Zone) (d : D) (v : V) : Prop := Den W H M d v ∨ ∃ a, v = .ref a ∧ Own W H M a d
/-- a new value -/
noncomputable def New (W : Wd) (M : Zone) (H : Hp) (d : D) (o : Bool) (v : V) (H' : Hp) : Prop :=
  Fr Z0 H H' ∧ match o with
    | false => Den W H' M d v
    | true => ∃ p, v = .ref p ∧ H p = none ∧ Own W H' (Zp M p) p d
section
variable {W : Wd} {H H' H1 H2 : Hp} {M Mo : Zone} {σ σ1 σ2 σ' : Fm} {σV : L2.St} {x y : Opd} {o : Bool} {v : V} {d : D}
theorem Rel.held_tr (r : Rel W Mo σ σV H) {a : Addr} (h : muts σ σV a) : H a ≠ none := by
  obtain ⟨i, d, hh, e⟩ := h
  obtain ⟨b, e', _, ow⟩ := r.mu i d hh
  rw [e] at e'
  cases e'
  exact ow.some
theorem Rel.mu_tr (r : Rel W Mo σ σV H) {a : Addr} (h : Mu Mo σ σV a) : H a ≠ none := by
  rcases h with h | h
  · exact r.tr a h
  · exact r.held_tr h
/-- the heap has grown, nothing else -/
theorem Rel.grow (r : Rel W Mo σ σV H) (f : Fr Z0 H H') : Rel W Mo σ σV H' where
  len := r.len
  im := fun i d e => let ⟨v, h1, h2⟩ := r.im i d e; ⟨v, h1, h2.step f (fun _ z => z.elim) fun _ z => .inl z⟩
  mu := fun i d e => let ⟨a, h1, h2, h3⟩ := r.mu i d e; ⟨a, h1, h2, h3.step f (fun z => z) (fun _ z => z.elim) fun _ z => .inl z⟩
  ne := r.ne
  tr := fun a h => by
    cases e : H a with
    | none => exact absurd e (r.tr a h)
    | some o => rw [f.at' e (fun z => z)]; exact fun z => nomatch z
/-- .. and a new object lies apart -/
theorem Rel.apart (r : Rel W Mo σ σV H) (f : Fr Z0 H H') {p : Addr} (hp : H p = none) (hp' : H' p ≠ none) : Rel W (Zp Mo p) σ σV H' := by
  have hm : ∀ b, Mu (Zp Mo p) σ σV b → Mu Mo σ σV b ∨ H b = none := fun b z => by
    rcases z with (z | z) | z
    · exact .inl (.inl z)
    · rw [z]; exact .inr hp
    · exact .inl (.inr z)
  refine ⟨r.len, fun i d e => ?_, fun i d e => ?_, r.ne, fun a h => ?_⟩
  · obtain ⟨v, h1, h2⟩ := r.im i d e
    exact ⟨v, h1, h2.step f (fun _ z => z.elim) hm⟩
  · obtain ⟨a, h1, h2, h3⟩ := r.mu i d e
    refine ⟨a, h1, fun z => ?_, h3.step f (fun z => z) (fun _ z => z.elim) hm⟩
    rcases z with z | z
    · exact h2 z
    · rw [z] at h3; exact h3.some hp
  · rcases h with h | h
    · exact (r.grow f).tr a h
    · rw [h]; exact hp'
theorem Rel.drop {p : Addr} (r : Rel W (Zp Mo p) σ σV H) : Rel W Mo σ σV H := by
  have hm : ∀ b, Mu Mo σ σV b → Mu (Zp Mo p) σ σV b ∨ H b = none := fun b z => .inl (z.elim (fun q => .inl (.inl q)) .inr)
  refine ⟨r.len, fun i d e => ?_, fun i d e => ?_, r.ne, fun a h => r.tr a (.inl h)⟩
  · obtain ⟨v, h1, h2⟩ := r.im i d e
    exact ⟨v, h1, h2.step (Mw := Z0) .refl (fun _ z => z.elim) hm⟩
  · obtain ⟨a, h1, h2, h3⟩ := r.mu i d e
    exact ⟨a, h1, fun z => h2 (.inl z), h3.step (Mw := Z0) .refl (fun z => z) (fun _ z => z.elim) hm⟩
theorem VR.drop (h : VR W Mo σ σV H x o v) : VR W Mo σ σV H x false v := by
  cases x with
  | r i => exact h
  | v d =>
    cases o with
    | false => exact h
    | true =>
      obtain ⟨p, rfl, n, ow, _⟩ := h
      exact (ow.step (M' := Mu Mo σ σV) (Mw := Z0) .refl (fun z => z) (fun _ z => z.elim) fun _ z => .inl (.inl z)).den n
theorem Rel.mu_own (r : Rel W Mo σ σV H) {i : Nat} (h : Held σ i d) (e : σV[i]? = some (some v)) : ∃ a, v = .ref a ∧ ¬ Mo a ∧ Own W H (Mu Mo σ σV) a d := by
  obtain ⟨a, h1, h2, h3⟩ := r.mu i d h
  rw [e] at h1
  exact ⟨a, Option.some.inj (Option.some.inj h1), h2, h3⟩
theorem rd_held {i : Nat} (h : rd σ (.r i) = .ok d) : Held σ i d := by
  unfold rd at h
  cases e : σ[i]? with
  | none => simp only [e] at h; cases h
  | some s =>
    refine ⟨s, e, ?_⟩
    cases s <;> simp only [e] at h <;> first | (cases h; done) | (cases h; rfl)
/-- reading an operand -/
theorem VR.rd (r : Rel W Mo σ σV H) (h : VR W Mo σ σV H x o v) (e : rd σ x = .ok d) : DenW W H (Mu Mo σ σV) d v := by
  cases x with
  | r i =>
    obtain ⟨a, rfl, _, ow⟩ := r.mu_own (rd_held e) h
    exact .inr ⟨a, rfl, ow⟩
  | v d' =>
    cases e
    exact .inl h.drop
theorem Fr.dom (f : Fr Z0 H H') (a : Addr) (h : H a ≠ none) : H' a ≠ none := by
  cases e : H a with
  | none => exact absurd e h
  | some o => rw [f.at' e fun z => z]; exact fun z => nomatch z
theorem Post.refl (r : Rel W Mo σ σV H) (h : VR W Mo σ σV H x false v) : Post W Mo σ σV H x false σ v H :=
  ⟨.refl, fun _ z => z, fun _ z => z, fun _ z => z, fun _ _ e => e, r, h, fun z => nomatch z⟩
theorem none_back (h : ∀ a, H a ≠ none → H' a ≠ none) {p : Addr} (e : H' p = none) : H p = none := by
  cases q : H p with
  | none => rfl
  | some o => exact absurd e (h p (by rw [q]; exact fun z => nomatch z))
/-- what was told stays told -/
theorem VR.step {o' : Bool} {u : V} (h : VR W Mo σ σV H x o v) (p : Post W Mo σ σV H y o' σ' u H') : VR W Mo σ' σV H' x false v := by
  have h := h.drop
  cases x with
  | r i => exact h
  | v d => exact Den.step (show Den W H (Mu Mo σ σV) d v from h) p.fr (fun _ z => .inr (wrt_le z)) fun b z => .inl (z.elim .inl fun q => .inr (p.mm b q))
theorem Post.trans {o' : Bool} {u : V} (p : Post W Mo σ σV H x o σ1 u H1) (q : Post W Mo σ1 σV H1 y o' σ2 v H2) : Post W Mo σ σV H y o' σ2 v H2 :=
  ⟨p.fr.trans q.fr fun a z => .inl (p.wm a z), fun a z => q.dm a (p.dm a z), fun a z => p.mm a (q.mm a z), fun a z => p.wm a (q.wm a z), fun i b e => q.ios i b (p.ios i b e), q.rel, q.val, fun z a e => none_back p.dm (q.nw z a e)⟩
/-- a new value behind -/
theorem Post.new {u : V} (p : Post W Mo σ σV H x o σ1 u H1) {o' : Bool} (n : New W (Mu Mo σ1 σV) H1 d o' v H2) : Post W Mo σ σV H (.v d) o' σ1 v H2 := by
  obtain ⟨f, n⟩ := n
  cases o' with
  | false => exact ⟨p.fr.trans f fun _ z => z.elim, fun a z => f.dom a (p.dm a z), p.mm, p.wm, p.ios, p.rel.grow f, n, fun z => nomatch z⟩
  | true =>
    obtain ⟨q, rfl, hq, ow⟩ := n
    have hq2 : H2 q ≠ none := ow.some
    refine ⟨p.fr.trans f fun _ z => z.elim, fun a z => f.dom a (p.dm a z), p.mm, p.wm, p.ios, p.rel.grow f, ⟨q, rfl, fun z => p.rel.mu_tr z hq, ow, p.rel.apart f hq hq2⟩, fun _ a e => ?_⟩
    cases e
    exact none_back p.dm hq
theorem New.same {M : Zone} (h : Den W H M d v) : New W M H d false v H := ⟨.refl, h⟩
theorem New.lst {M : Zone} {p : Addr} {ds : List D} {vs : List V} (hp : H p = none) (l : DenL W H M ds vs) : New W M H (.lst ds) true (.ref p) (upd H p (.lst vs)) :=
  ⟨.new hp, p, rfl, hp, .lst upd_same (l.step (Mw := Z0) (.new hp) (fun _ z => z.elim) fun b z => z.elim .inl fun e => .inr (by rw [e]; exact hp))⟩
theorem New.tup {M : Zone} {p : Addr} {ds : List D} {vs : List V} (hp : H p = none) (n : ¬ M p) (l : DenL W H M ds vs) : New W M H (.tup ds) false (.ref p) (upd H p (.tup vs)) :=
  ⟨.new hp, .tup upd_same trivial (l.step (Mw := Z0) (.new hp) (fun _ z => z.elim) fun b z => .inl z)⟩
/-- what a slot owns is no tuple -/
theorem Own.nt {M : Zone} {a : Addr} {xs : List V} (h : Own W H M a d) : H a ≠ Option.some (HO.tup xs) := by
  cases h with
  | lst h l => rw [h]; exact fun z => nomatch z
  | dik h l => rw [h]; exact fun z => nomatch z
  | dit h l => rw [h]; exact fun z => nomatch z
  | ins h hc hn l => rw [h]; exact fun z => nomatch z
theorem Rel.nt (r : Rel W Mo σ σV H) {a : Addr} {xs : List V} (h : H a = some (HO.tup xs)) : ¬ wrt σ σV a := fun ⟨i, s, d, e1, e2, e3⟩ => by
  obtain ⟨b, h1, _, ow⟩ := r.mu i d ⟨s, e1, wr_held e2⟩
  rw [e3] at h1
  cases h1
  exact ow.nt h
/-- reading data: lists, tuples -/
theorem DenW.lst {M : Zone} {ds : List D} (h : DenW W H M (.lst ds) v) : ∃ a vs, v = .ref a ∧ H a = some (.lst vs) ∧ DenL W H M ds vs := by
  rcases h with h | ⟨a, rfl, h⟩
  · cases h with
    | lst h m l => exact ⟨_, _, rfl, h, l⟩
  · cases h with
    | lst h l => exact ⟨_, _, rfl, h, l⟩
theorem DenW.tup {M : Zone} {ds : List D} (h : DenW W H M (.tup ds) v) : ∃ a vs, v = .ref a ∧ H a = some (.tup vs) ∧ True ∧ DenL W H M ds vs := by
  rcases h with h | ⟨a, rfl, h⟩
  · cases h with
    | tup h m l => exact ⟨_, _, rfl, h, m, l⟩
  · cases h
theorem DenW.dic {M : Zone} {ks : List Key} {ds : List D} (h : DenW W H M (.dic ks ds) v) : ∃ a kvs, v = .ref a ∧ H a = some (.dK kvs) ∧ ks = kvs.map (·.1) ∧ DenL W H M ds (kvs.map (·.2)) := by
  rcases h with h | ⟨a, rfl, h⟩
  · cases h with
    | dik h m l => exact ⟨_, _, rfl, h, rfl, l⟩
  · cases h with
    | dik h l => exact ⟨_, _, rfl, h, rfl, l⟩
theorem DenW.dit {M : Zone} {ks : List (List Key)} {ds : List D} (h : DenW W H M (.dit ks ds) v) : ∃ a kvs, v = .ref a ∧ H a = some (.dT kvs) ∧ ks = kvs.map (·.1) ∧ DenL W H M ds (kvs.map (·.2)) := by
  rcases h with h | ⟨a, rfl, h⟩
  · cases h with
    | dit h m l => exact ⟨_, _, rfl, h, rfl, l⟩
  · cases h with
    | dit h l => exact ⟨_, _, rfl, h, rfl, l⟩
theorem keyD_den {M : Zone} {d : D} {k : Key} (h : DenW W H M d v) (e : keyD d = some k) : v = kV k := by
  cases d <;> simp only [keyD, reduceCtorEq, Option.some.injEq] at e
  · subst e
    rcases h with h | ⟨a, rfl, h⟩ <;> cases h
    rfl
  · subst e
    rcases h with h | ⟨a, rfl, h⟩ <;> cases h
    rfl
theorem keysD_den {M : Zone} : ∀ {ds : List D} {vs : List V} {ks : List Key}, DenL W H M ds vs → keysD ds = some ks → vs = ks.map kV
  | [], vs, ks, h, e => by cases h; cases e; rfl
  | d :: ds, vs, ks, h, e => by
    cases h with
    | cons h l =>
      simp only [keysD, Option.bind_eq_some_iff, Option.map_eq_some_iff] at e
      obtain ⟨k, e1, ks', e2, rfl⟩ := e
      rw [keyD_den (.inl h) e1, keysD_den l e2]
      rfl
section
variable {κ : Type} [DecidableEq κ]
theorem lk_den {M : Zone} {k : κ} {d : D} : ∀ {kvs : List (κ × V)} {ds : List D}, DenL W H M ds (kvs.map (·.2)) → lkK k (kvs.map (·.1)) ds = some d → ∃ u, valV kvs k = some u ∧ Den W H M d u
  | [], ds, h, e => by cases h; cases e
  | (j, u) :: kvs, ds, h, e => by
    cases h with
    | cons h l =>
      simp only [List.map_cons, lkK] at e
      by_cases g : j = k
      · rw [if_pos g] at e
        cases e
        exact ⟨u, valV_pos g, h⟩
      · rw [if_neg g] at e
        rw [valV_neg g]
        exact lk_den l e
theorem any_mem {k : κ} (kvs : List (κ × V)) : (kvs.any fun kv => decide (kv.1 = k)) = memK k (kvs.map (·.1)) := by
  unfold memK
  rw [List.any_map]
  rfl
theorem valV_mem {k : κ} (kvs : List (κ × V)) : (valV kvs k).isSome = memK k (kvs.map (·.1)) := by
  rw [← valV_any, any_mem]
theorem putK_keys {k : κ} {y : V} (kvs : List (κ × V)) : (putK kvs k y).map (·.1) = putKs k (kvs.map (·.1)) := by
  unfold putK putKs
  rw [any_mem]
  by_cases g : memK k (kvs.map (·.1)) = true
  · rw [if_pos g, if_pos g, List.map_map]
    refine List.map_congr_left fun kv _ => ?_
    show (if kv.1 = k then (kv.1, y) else kv).1 = kv.1
    split <;> rfl
  · rw [if_neg g, if_neg g, List.map_append]
    rfl
theorem rep_den {M : Zone} {k : κ} {y : D} {u : V} (hu : Den W H M y u) : ∀ {kvs : List (κ × V)} {ds : List D}, DenL W H M ds (kvs.map (·.2)) → DenL W H M (repV k y (kvs.map (·.1)) ds) ((kvs.map fun kv => if kv.1 = k then (kv.1, u) else kv).map (·.2))
  | [], ds, h => by cases h; exact .nil
  | (j, w) :: kvs, ds, h => by
    cases h with
    | cons h l =>
      simp only [List.map_cons, repV]
      by_cases g : j = k
      · rw [if_pos g, if_pos g]; exact .cons hu (rep_den hu l)
      · rw [if_neg g, if_neg g]; exact .cons h (rep_den hu l)
theorem putV_den {M : Zone} {k : κ} {y : D} {u : V} (hu : Den W H M y u) {kvs : List (κ × V)} {ds : List D} (l : DenL W H M ds (kvs.map (·.2))) : DenL W H M (putVs k y (kvs.map (·.1)) ds) ((putK kvs k u).map (·.2)) := by
  unfold putVs putK
  rw [any_mem]
  by_cases g : memK k (kvs.map (·.1)) = true
  · rw [if_pos g, if_pos g]
    exact rep_den hu l
  · rw [if_neg g, if_neg g, List.map_append]
    exact l.append (.cons hu .nil)
end
theorem DenW.frz {M : Zone} {ds : List D} (h : DenW W H M (.frz ds) v) : ∃ a vs, v = .ref a ∧ SqL W.K H a vs ∧ DenL W H M ds vs := by
  rcases h with h | ⟨a, rfl, h⟩
  · cases h with
    | frz h m l => exact ⟨_, _, rfl, .inl (.inr ⟨_, h⟩), l⟩
    | lsw h l => exact ⟨_, _, rfl, .inr h, l⟩
  · cases h
theorem DenW.int {M : Zone} {i : Int} (h : DenW W H M (.int i) v) : v = .int i := by
  rcases h with h | ⟨a, rfl, h⟩
  · cases h; rfl
  · cases h
theorem DenW.bl {M : Zone} {i : Bool} (h : DenW W H M (.bl i) v) : v = .bl i := by
  rcases h with h | ⟨a, rfl, h⟩
  · cases h; rfl
  · cases h
theorem DenW.str {M : Zone} {i : Str} (h : DenW W H M (.str i) v) : v = .str i := by
  rcases h with h | ⟨a, rfl, h⟩
  · cases h; rfl
  · cases h
theorem DenW.non {M : Zone} (h : DenW W H M .non v) : v = .non := by
  rcases h with h | ⟨a, rfl, h⟩
  · cases h; rfl
  · cases h
end
/-! ### readings -/
noncomputable def tE (W : Wd) (r : Fm → Res) : TE := fun σV H Q => ∃ Mo σ x o σ', Rel W Mo σ σV H ∧ r σ = .ok (x, o, σ') ∧ ∀ v H', Post W Mo σ σV H x o σ' v H' → Q v H'
/-- tests -/
noncomputable def tT (W : Wd) (r : Fm → R (Bool × Fm)) : TT := fun σV H Q => ∃ Mo σ b σ', Rel W Mo σ σV H ∧ r σ = .ok (b, σ') ∧ ∀ H', Post W Mo σ σV H (.v .non) false σ' .non H' → Q b H'
theorem PE.weak {X : Cx} {e : Expr} {t t' : TE} (h : PE X e t) (k : ∀ σ H Q, t' σ H Q → t σ H Q) : PE X e t' := ⟨fun pins s σ H Q I q => h.run pins s σ H Q I (k σ H Q q)⟩
theorem PT.weak {X : Cx} {e : Expr} {t t' : TT} (h : PT X e t) (k : ∀ σ H Q, t' σ H Q → t σ H Q) : PT X e t' := ⟨fun pins s σ H Q I q => h.run pins s σ H Q I (k σ H Q q)⟩
theorem PA.weak {X : Cx} {es : List Expr} {t t' : TA} (h : PA X es t) (k : ∀ σ H Q, t' σ H Q → t σ H Q) : PA X es t' := ⟨fun pos pins s σ H Q I q => h.run pos pins s σ H Q I (k σ H Q q)⟩
theorem PS.weak {X : Cx} {st : Stmt} {t t' : TS} (h : PS X st t) (k : ∀ D σ H, t' D σ H → t D σ H) : PS X st t' := ⟨fun pins s σ H D I q => h.run pins s σ H D I (k D σ H q)⟩
theorem PSs.weak {X : Cx} {st : List Stmt} {t t' : TS} (h : PSs X st t) (k : ∀ D σ H, t' D σ H → t D σ H) : PSs X st t' := ⟨fun pins s σ H D I q => h.run pins s σ H D I (k D σ H q)⟩
theorem bind_inv {α β : Type} {r : R α} {f : α → R β} {b : β} (h : r.bind f = .ok b) : ∃ a, r = .ok a ∧ f a = .ok b := by
  cases r with
  | ok a => exact ⟨a, rfl, h⟩
  | bad => cases h
  | err c v => cases h
theorem guard_inv {β : Type} {c : Bool} {f : Unit → R β} {b : β} (h : (R.guard c).bind f = .ok b) : c = true ∧ f () = .ok b := by
  cases c with
  | true => exact ⟨rfl, h⟩
  | false => cases h
theorem of_inv {α β : Type} {o : Option α} {f : α → R β} {b : β} (h : (R.of o).bind f = .ok b) : ∃ a, o = some a ∧ f a = .ok b := by
  cases o with
  | some a => exact ⟨a, rfl, h⟩
  | none => cases h
end Mini

set_option Elab.async false
set_option linter.all false
set_option maxRecDepth 100000
set_option maxHeartbeats 2000000
/-! ## the operations are sound -/
namespace Mini
open PySem L2
noncomputable def Trk (M : Zone) (H : Hp) : Prop := ∀ a, M a → H a ≠ none
theorem Trk.no {M : Zone} {H : Hp} (t : Trk M H) {p : Addr} (h : H p = none) : ¬ M p := fun z => t p z h
theorem size_ok {n : Nat} (h : sizeOk n = true) : n ≤ sizeLine := by
  rw [sizeLine_eq]
  exact of_decide_eq_true h
section
variable {X : Cx} {W : Wd}
theorem op_powW : OpR X (binaryOp .Pow) (rI (fun i j => 0 ≤ j ∧ (Builtin.Int.intBits i : Int) * j ≤ 2 ^ 27) fun i j => .int (i ^ j.toNat)) := opI fun _ _ _ _ _ _ _ hc q => PyProof.Rows.pow_int hc.1 hc.2 q
noncomputable def rBin (W : Wd) (op : Operator) : R2 := fun x y H Q => ∃ M d e g o, Trk M H ∧ DenW W H M d x ∧ DenW W H M e y ∧ binop op d e = .ok (g, o) ∧ ∀ v H', New W M H g o v H' → Q v H'
theorem new_v {M : Zone} {H : Hp} {d : D} {v : V} {Q : VK} (k : ∀ v H', New W M H d false v H' → Q v H') (h : Den W H M d v) : Q v H := k v H (.same h)
theorem opR_bin (hK : X.K = W.K) (op : Operator) : OpR X (binaryOp op) (rBin W op) := by
  intro pins s σ H x y v u Q I rx ry h
  obtain ⟨M, d, e, g, o, tr, hd, he, hb, k⟩ := h
  unfold binop at hb
  split at hb
  · cases hd.int; cases he.int; cases hb
    exact op_add pins s σ H _ _ v u Q I rx ry ⟨_, _, rfl, rfl, new_v k (.int _)⟩
  · cases hd.str; cases he.str
    obtain ⟨hz, hb⟩ := guard_inv hb
    cases hb
    exact op_add_str pins s σ H _ _ v u Q I rx ry ⟨_, _, rfl, rfl, size_ok hz, new_v k (.str _)⟩
  · obtain ⟨hz, hb⟩ := guard_inv hb
    cases hb
    obtain ⟨a, xs, rfl, ha, la⟩ := hd.lst
    obtain ⟨b, ys, rfl, hb, lb⟩ := he.lst
    exact op_cat pins s σ H _ _ v u Q I rx ry ⟨_, _, _, _, rfl, rfl, ha, hb, by rw [← la.length, ← lb.length]; exact size_ok hz, fun p hp => k _ _ (.lst hp (la.append lb))⟩
  · obtain ⟨hz, hb⟩ := guard_inv hb
    cases hb
    obtain ⟨a, xs, rfl, ha, ma, la⟩ := hd.tup
    obtain ⟨b, ys, rfl, hb2, mb, lb⟩ := he.tup
    refine op_catA pins s σ H _ _ v u Q I rx ry ⟨_, _, _, _, rfl, rfl, .of ha, .of hb2, by rw [← la.length, ← lb.length]; exact size_ok hz, fun e1 => ?_, fun e1 e2 => ?_, fun _ _ p hp => k _ _ (.tup hp (tr.no hp) (la.append lb))⟩
    · subst e1
      cases la
      exact new_v k (.tup hb2 mb lb)
    · subst e2
      cases lb
      rw [List.append_nil] at k
      exact new_v k (.tup ha ma la)
  · cases hd.int; cases he.int; cases hb
    exact op_sub pins s σ H _ _ v u Q I rx ry ⟨_, _, rfl, rfl, new_v k (.int _)⟩
  · cases hd.int; cases he.int
    obtain ⟨hz, hb⟩ := guard_inv hb
    cases hb
    have hz := of_decide_eq_true hz
    exact op_mulW pins s σ H _ _ v u Q I rx ry ⟨_, _, rfl, rfl, hz, new_v k (.int _)⟩
  · obtain ⟨hz, hb⟩ := guard_inv hb
    cases hb
    rename_i l j
    obtain ⟨a, xs, rfl, ha, la⟩ := hd.lst
    cases he.int
    simp only [Bool.and_eq_true, decide_eq_true_eq] at hz
    have hz2 := size_ok hz.2
    refine op_rep pins s σ H _ _ v u Q I rx ry ⟨_, _, _, rfl, rfl, ha, by omega, hz.1.2, by rw [← la.length]; exact hz2, fun p hp => k _ _ (.lst hp ?_)⟩
    clear hz hz2
    induction j.toNat with
    | zero => exact .nil
    | succ n ih =>
      rw [List.replicate_succ, List.replicate_succ, List.flatten_cons, List.flatten_cons]
      exact la.append ih
  · obtain ⟨hz, hb⟩ := guard_inv hb
    cases hb
    rename_i l j
    obtain ⟨a, xs, rfl, ha, ma, la⟩ := hd.tup
    cases he.int
    simp only [Bool.and_eq_true, Bool.not_eq_true', decide_eq_true_eq] at hz
    refine op_repT pins s σ H _ _ v u Q I rx ry ⟨_, _, _, rfl, rfl, .of ha, fun e => ?_, hz.1.1, hz.1.2, by rw [← la.length]; exact hz.2.2, fun p hp => k _ _ (.tup hp (tr.no hp) ?_)⟩
    · rw [e] at la
      cases la
      exact absurd hz.2.1 (by simp)
    clear hz
    induction j.toNat with
    | zero => exact .nil
    | succ n ih =>
      rw [List.replicate_succ, List.replicate_succ, List.flatten_cons, List.flatten_cons]
      exact la.append ih
  · cases hd.int; cases he.int
    obtain ⟨hz, hb⟩ := guard_inv hb
    cases hb
    simp only [Bool.and_eq_true, decide_eq_true_eq] at hz
    exact op_fdivW pins s σ H _ _ v u Q I rx ry ⟨_, _, rfl, rfl, hz, new_v k (.int _)⟩
  · cases hd.int; cases he.int
    obtain ⟨hz, hb⟩ := guard_inv hb
    cases hb
    exact op_mod pins s σ H _ _ v u Q I rx ry ⟨_, _, rfl, rfl, of_decide_eq_true hz, new_v k (.int _)⟩
  · cases hd.int; cases he.int
    obtain ⟨hz, hb⟩ := guard_inv hb
    cases hb
    have hz := of_decide_eq_true hz
    exact op_powW pins s σ H _ _ v u Q I rx ry ⟨_, _, rfl, rfl, ⟨hz.1, by have := hz.2; omega⟩, new_v k (.int _)⟩
  · cases hd.int; cases he.int; cases hb
    exact op_and pins s σ H _ _ v u Q I rx ry ⟨_, _, rfl, rfl, new_v k (.int _)⟩
  · cases hb
/-! ### data as the library's -/
mutual
theorem dp_of {H : Hp} {M : Zone} : ∀ {d : D} {v : V} {p : PyData}, DenW W H M d v → toPy d = some p → Dp W.K H v p
  | .non, v, p, h, e => by cases h.non; cases e; exact .non
  | .bl b, v, p, h, e => by cases h.bl; cases e; exact .bl b
  | .int i, v, p, h, e => by cases h.int; cases e; exact .int i
  | .str z, v, p, h, e => by cases h.str; cases e; exact .str z
  | .tup l, v, p, h, e => by
    obtain ⟨a, xs, rfl, ha, ma, la⟩ := h.tup
    unfold toPy at e
    cases q : toPyL l with
    | none => rw [q] at e; cases e
    | some ps => rw [q] at e; cases e; exact .tup (.of ha) (dpAll_of la q)
  | .lst l, v, p, h, e => by
    obtain ⟨a, xs, rfl, ha, la⟩ := h.lst
    unfold toPy at e
    cases q : toPyL l with
    | none => rw [q] at e; cases e
    | some ps => rw [q] at e; cases e; exact .lst (.of ha) (dpAll_of la q)
  | .dic _ _, _, _, _, e => by cases e
  | .dit _ _, _, _, _, e => by cases e
  | .frz _, _, _, _, e => by cases e
  | .ins _ _ _, _, _, _, e => by cases e
  | .exc _ _, _, _, _, e => by cases e
theorem dpAll_of {H : Hp} {M : Zone} : ∀ {l : List D} {vs : List V} {ps : List PyData}, DenL W H M l vs → toPyL l = some ps → DpAll W.K H vs ps
  | [], vs, ps, h, e => by cases h; cases e; exact .nil
  | d :: l, vs, ps, h, e => by
    cases h with
    | cons h hl =>
      unfold toPyL at e
      cases q : toPy d with
      | none => rw [q] at e; cases e
      | some p =>
        rw [q] at e
        cases q2 : toPyL l with
        | none => rw [q2] at e; cases e
        | some ps' => rw [q2] at e; cases e; exact .cons (dp_of (.inl h) q) (dpAll_of hl q2)
end
noncomputable def rCmp (W : Wd) (op : CmpOp) : R2 := fun x y H Q => ∃ M d e b, DenW W H M d x ∧ DenW W H M e y ∧ cmpop op d e = .ok b ∧ Q (.bl b) H
theorem deq_inv {d e : D} {b : Bool} (h : deq d e = .ok b) : ∃ p q, toPy d = some p ∧ toPy e = some q ∧ SeqAt.shaped p = true ∧ SeqAt.shaped q = true ∧ b = PyData.eqv p q := by
  unfold deq at h
  obtain ⟨p, h1, h⟩ := of_inv h
  obtain ⟨q, h2, h⟩ := of_inv h
  obtain ⟨h3, h⟩ := guard_inv h
  cases h
  simp only [Bool.and_eq_true] at h3
  exact ⟨p, q, h1, h2, h3.1, h3.2, rfl⟩
theorem DenW.isNon {H : Hp} {M : Zone} {d : D} {v : V} (h : DenW W H M d v) : decide (v = .non) = isNonD d := by
  rcases h with h | ⟨a, rfl, h⟩
  · cases h <;> rfl
  · cases h <;> rfl
noncomputable def toV : D → V
  | .bl b => .bl b | .int i => .int i | .str z => .str z | _ => .non
theorem den_flat {M : Zone} {H : Hp} {d : D} {v : V} (h : DenW W H M d v) (f : flatD d = true) : v = toV d := by
  cases d <;> first | exact h.non | exact h.bl | exact h.int | exact h.str | cases f
theorem flat_to {d : D} (f : flatD d = true) : flatV (toV d) = true := by cases d <;> first | rfl | cases f
theorem eq_to {y x : D} (fy : flatD y = true) (fx : flatD x = true) : eqV (toV y) (toV x) = eqF y x := by cases y <;> cases x <;> first | rfl | exact absurd fx Bool.false_ne_true | exact absurd fy Bool.false_ne_true
theorem denL_flat {M : Zone} {H : Hp} : ∀ {ds : List D} {vs : List V}, DenL W H M ds vs → ds.all flatD = true → vs = ds.map toV
  | [], _, h, _ => by cases h; rfl
  | d :: ds, _, h, f => by
    cases h with
    | cons h l =>
      rw [List.all_cons, Bool.and_eq_true] at f
      rw [den_flat (.inl h) f.1, denL_flat l f.2]
      rfl
theorem inL_inv {x : D} {l : List D} {b : Bool} (h : inL x l = .ok b) : flatD x = true ∧ l.all flatD = true ∧ b = l.any fun y => eqF y x := by
  unfold inL at h
  obtain ⟨h1, h⟩ := guard_inv h
  cases h
  rw [Bool.and_eq_true] at h1
  exact ⟨h1.1, h1.2, rfl⟩
theorem inV_to {x : D} (fx : flatD x = true) : ∀ {l : List D}, l.all flatD = true → inV (toV x) (l.map toV) = l.any fun y => eqF y x
  | [], _ => rfl
  | d :: l, f => by
    rw [List.all_cons, Bool.and_eq_true] at f
    unfold inV
    rw [List.map_cons, List.any_cons, List.any_cons, eq_to f.1 fx]
    exact congrArg _ (inV_to fx f.2)
theorem all_to : ∀ {l : List D}, l.all flatD = true → (l.map toV).all flatV = true
  | [], _ => rfl
  | d :: l, f => by
    rw [List.all_cons, Bool.and_eq_true] at f
    rw [List.map_cons, List.all_cons, flat_to f.1, all_to f.2]
    rfl
/-- x in a list or a tuple of values without parts -/
theorem rin_of (hK : X.K = W.K) {neg : Bool} {M : Zone} {H : Hp} {d : D} {l : List D} {x y : V} {b : Bool} {Q : VK} (hd : DenW W H M d x) (hy : (DenW W H M (.lst l) y) ∨ (DenW W H M (.tup l) y)) (hb : inL d l = .ok b) (k : Q (.bl (if neg then !b else b)) H) : rIn X.K neg x y H Q := by
  obtain ⟨fx, fl, rfl⟩ := inL_inv hb
  have ex := den_flat hd fx
  rcases hy with hy | hy
  · obtain ⟨a, vs, rfl, ha, la⟩ := hy.lst
    have ev := denL_flat la fl
    subst ev ex
    exact ⟨a, _, rfl, .inl (.of ha), flat_to fx, all_to fl, by rw [inV_to fx fl]; exact k⟩
  · obtain ⟨a, vs, rfl, ha, _, la⟩ := hy.tup
    have ev := denL_flat la fl
    subst ev ex
    exact ⟨a, _, rfl, .inr (.of ha), flat_to fx, all_to fl, by rw [inV_to fx fl]; exact k⟩
theorem opR_cmp (hK : X.K = W.K) (hu : X.A.units + 64 < cLine) (op : CmpOp) : OpR X (compareOp op) (rCmp W op) := by
  intro pins s σ H x y v u Q I rx ry h
  obtain ⟨M, d, e, b, hd, he, hb, k⟩ := h
  unfold cmpop at hb
  split at hb
  · cases hd.int; cases he.int; cases hb
    exact op_lt pins s σ H _ _ v u Q I rx ry ⟨_, _, rfl, rfl, k⟩
  · cases hd.int; cases he.int; cases hb
    exact op_le pins s σ H _ _ v u Q I rx ry ⟨_, _, rfl, rfl, k⟩
  · cases hd.int; cases he.int; cases hb
    exact op_gt pins s σ H _ _ v u Q I rx ry ⟨_, _, rfl, rfl, k⟩
  · cases hd.int; cases he.int; cases hb
    exact op_ge pins s σ H _ _ v u Q I rx ry ⟨_, _, rfl, rfl, k⟩
  · obtain ⟨p, q, h1, h2, h3, h4, rfl⟩ := deq_inv hb
    exact op_eqD hu pins s σ H _ _ v u Q I rx ry ⟨p, q, by rw [hK]; exact dp_of hd h1, by rw [hK]; exact dp_of he h2, h3, h4, k⟩
  · obtain ⟨b', hb', hb⟩ := bind_inv hb
    cases hb
    obtain ⟨p, q, h1, h2, h3, h4, rfl⟩ := deq_inv hb'
    exact op_neD hu pins s σ H _ _ v u Q I rx ry ⟨p, q, by rw [hK]; exact dp_of hd h1, by rw [hK]; exact dp_of he h2, h3, h4, k⟩
  · cases hb
    refine op_isN pins s σ H _ _ v u Q I rx ry ⟨he.non, ?_⟩
    rw [hd.isNon]
    exact k
  · cases hb
    refine op_notN pins s σ H _ _ v u Q I rx ry ⟨he.non, ?_⟩
    rw [hd.isNon]
    exact k
  · cases hd.bl; cases he.bl; cases hb
    exact op_is_bl pins s σ H _ _ v u Q I rx ry ⟨_, _, rfl, rfl, k⟩
  · cases hd.bl; cases he.bl; cases hb
    exact op_isnot_bl pins s σ H _ _ v u Q I rx ry ⟨_, _, rfl, rfl, k⟩
  · exact op_in_seq pins s σ H _ _ v u Q I rx ry (rin_of hK hd (.inl he) hb k)
  · exact op_in_seq pins s σ H _ _ v u Q I rx ry (rin_of hK hd (.inr he) hb k)
  · obtain ⟨b', hb', hb⟩ := bind_inv hb
    cases hb
    exact op_notIn_seq pins s σ H _ _ v u Q I rx ry (rin_of hK hd (.inl he) hb' k)
  · obtain ⟨b', hb', hb⟩ := bind_inv hb
    cases hb
    exact op_notIn_seq pins s σ H _ _ v u Q I rx ry (rin_of hK hd (.inr he) hb' k)
  · obtain ⟨kk, h1, hb⟩ := of_inv hb
    cases hb
    obtain ⟨a, kvs, rfl, ha, rfl, la⟩ := he.dic
    cases keyD_den hd h1
    obtain rfl : u = Value.ref a := ry
    exact d_in (by omega) I (.k ha) rx fun s' I' => ⟨.bl _, H, I', rfl, by rw [valV_mem]; exact k⟩
  · obtain ⟨kk, h1, hb⟩ := of_inv hb
    cases hb
    obtain ⟨a, kvs, rfl, ha, rfl, la⟩ := he.dit
    obtain ⟨c, ys, rfl, hc, mc, lc⟩ := hd.tup
    cases keysD_den lc h1
    obtain rfl : u = Value.ref a := ry
    exact d_in (by omega) I (.t ha hc) rx fun s' I' => ⟨.bl _, H, I', rfl, by rw [valV_mem]; exact k⟩
  · obtain ⟨kk, h1, hb⟩ := of_inv hb
    cases hb
    obtain ⟨a, kvs, rfl, ha, rfl, la⟩ := he.dic
    cases keyD_den hd h1
    obtain rfl : u = Value.ref a := ry
    exact d_notIn (by omega) I (.k ha) rx fun s' I' => ⟨.bl _, H, I', rfl, by rw [valV_mem]; exact k⟩
  · obtain ⟨kk, h1, hb⟩ := of_inv hb
    cases hb
    obtain ⟨a, kvs, rfl, ha, rfl, la⟩ := he.dit
    obtain ⟨c, ys, rfl, hc, mc, lc⟩ := hd.tup
    cases keysD_den lc h1
    obtain rfl : u = Value.ref a := ry
    exact d_notIn (by omega) I (.t ha hc) rx fun s' I' => ⟨.bl _, H, I', rfl, by rw [valV_mem]; exact k⟩
  · cases hb
/-- truth -/
theorem truV_of (hK : X.K = W.K) {H : Hp} {M : Zone} {d : D} {v : V} {b : Bool} (h : DenW W H M d v) (e : truth d = .ok b) : TruV X.K v H b := by
  unfold truth at e
  split at e
  · cases h.non; cases e; rfl
  · cases h.bl; cases e; rfl
  · cases h.int; cases e; rfl
  · cases h.str
    obtain ⟨hz, e⟩ := guard_inv e
    cases e
    exact ⟨size_ok hz, rfl⟩
  · cases e
    obtain ⟨a, xs, rfl, ha, ma, la⟩ := h.tup
    exact .inr (.inl ⟨xs, .of ha, by cases la <;> rfl⟩)
  · cases e
    obtain ⟨a, xs, rfl, ha, la⟩ := h.lst
    exact .inl ⟨xs, .of ha, by cases la <;> rfl⟩
  · cases e
end
end Mini

set_option Elab.async false
set_option linter.all false
set_option maxRecDepth 100000
set_option maxHeartbeats 2000000
/-! ## lists of values; built-in functions -/
namespace Mini
open PySem L2
noncomputable def All2 {α β : Type} (P : α → β → Prop) : List α → List β → Prop
  | [], [] => True
  | a :: as, b :: bs => P a b ∧ All2 P as bs
  | _, _ => False
theorem All2.imp {α β : Type} {P Q : α → β → Prop} (h : ∀ a b, P a b → Q a b) : ∀ {as : List α} {bs : List β}, All2 P as bs → All2 Q as bs
  | [], [], _ => trivial
  | _ :: _, _ :: _, ⟨p, q⟩ => ⟨h _ _ p, All2.imp h q⟩
theorem All2.length {α β : Type} {P : α → β → Prop} : ∀ {as : List α} {bs : List β}, All2 P as bs → as.length = bs.length
  | [], [], _ => rfl
  | _ :: _, _ :: _, ⟨_, q⟩ => by simp [All2.length q]
/-- operands, one behind the other -/
structure PostO (W : Wd) (Mo : Zone) (σ : Fm) (σV : L2.St) (H : Hp) (xs : List Opd) (σ' : Fm) (vs : List V) (H' : Hp) : Prop where
  fr : Fr (wrt σ σV) H H'
  dm : ∀ a, H a ≠ none → H' a ≠ none
  mm : ∀ a, muts σ' σV a → muts σ σV a
  wm : ∀ a, wrt σ' σV a → wrt σ σV a
  ios : ∀ (i : Nat) (b : Bool), Pin σ i b → Pin σ' i b
  rel : Rel W Mo σ' σV H'
  val : All2 (fun x v => VR W Mo σ' σV H' x false v) xs vs
/-- values, one behind the other; the new ones lie apart -/
noncomputable def ownsOf : List (D × Bool) → List V → List Addr
  | (_, true) :: xs, .ref p :: vs => p :: ownsOf xs vs
  | _ :: xs, _ :: vs => ownsOf xs vs
  | _, _ => []
noncomputable def Zl (M : Zone) (ps : List Addr) : Zone := fun a => M a ∨ a ∈ ps
structure PostW (W : Wd) (Mo : Zone) (σ : Fm) (σV : L2.St) (H : Hp) (xs : List (D × Bool)) (σ' : Fm) (vs : List V) (H' : Hp) : Prop where
  fr : Fr (wrt σ σV) H H'
  dm : ∀ a, H a ≠ none → H' a ≠ none
  mm : ∀ a, muts σ' σV a → muts σ σV a
  wm : ∀ a, wrt σ' σV a → wrt σ σV a
  ios : ∀ (i : Nat) (b : Bool), Pin σ i b → Pin σ' i b
  rel : Rel W (Zl Mo (ownsOf xs vs)) σ' σV H'
  nd : (ownsOf xs vs).Nodup
  out : ∀ p ∈ ownsOf xs vs, ¬ Mu Mo σ' σV p ∧ H p = none
  val : All2 (fun x v => match x.2 with
    | false => Den W H' (Zl (Mu Mo σ' σV) (ownsOf xs vs)) x.1 v
    | true => ∃ p, v = .ref p ∧ Own W H' (Zl (Mu Mo σ' σV) (ownsOf xs vs)) p x.1) xs vs
noncomputable def tO (W : Wd) (r : Fm → R (List Opd × Fm)) : TA := fun σV H Q => ∃ Mo σ xs σ', Rel W Mo σ σV H ∧ r σ = .ok (xs, σ') ∧ ∀ vs H', PostO W Mo σ σV H xs σ' vs H' → Q vs H'
noncomputable def tW (W : Wd) (r : Fm → R (List (D × Bool) × Fm)) : TA := fun σV H Q => ∃ Mo σ xs σ', Rel W Mo σ σV H ∧ r σ = .ok (xs, σ') ∧ ∀ vs H', PostW W Mo σ σV H xs σ' vs H' → Q vs H'
section
variable {W : Wd} {H H' H1 H2 : Hp} {M Mo : Zone} {σ σ1 σ2 σ' : Fm} {σV : L2.St} {x y : Opd} {o : Bool} {v u : V} {d : D}
theorem PostO.nil (r : Rel W Mo σ σV H) : PostO W Mo σ σV H [] σ [] H := ⟨.refl, fun _ z => z, fun _ z => z, fun _ z => z, fun _ _ e => e, r, trivial⟩
theorem VR.stepO {xs : List Opd} {vs : List V} (h : VR W Mo σ σV H x o v) (p : PostO W Mo σ σV H xs σ' vs H') : VR W Mo σ' σV H' x false v := by
  have h := h.drop
  cases x with
  | r i => exact h
  | v d => exact Den.step (show Den W H (Mu Mo σ σV) d v from h) p.fr (fun _ z => .inr (wrt_le z)) fun b z => .inl (z.elim .inl fun q => .inr (p.mm b q))
theorem PostO.cons {xs : List Opd} {vs : List V} (p : Post W Mo σ σV H x o σ1 v H1) (q : PostO W Mo σ1 σV H1 xs σ2 vs H2) : PostO W Mo σ σV H (x :: xs) σ2 (v :: vs) H2 :=
  ⟨p.fr.trans q.fr fun a z => .inl (p.wm a z), fun a z => q.dm a (p.dm a z), fun a z => p.mm a (q.mm a z), fun a z => p.wm a (q.wm a z), fun i b e => q.ios i b (p.ios i b e), q.rel, p.val.stepO q, q.val⟩
theorem rds_den : ∀ {xs : List Opd} {vs : List V} {ds : List D}, Rel W Mo σ σV H → All2 (fun x v => VR W Mo σ σV H x false v) xs vs → rds σ xs = .ok ds → All2 (DenW W H (Mu Mo σ σV)) ds vs
  | [], [], ds, r, h, e => by cases e; trivial
  | x :: xs, v :: vs, ds, r, ⟨h, hs⟩, e => by
    obtain ⟨d, e1, e⟩ := bind_inv e
    obtain ⟨ds', e2, e⟩ := bind_inv e
    cases e
    exact ⟨h.rd r e1, rds_den r hs e2⟩
  | [], _ :: _, _, _, h, _ => h.elim
  | _ :: _, [], _, _, h, _ => h.elim
/-- operands, then a new value -/
theorem PostO.new {xs : List Opd} {vs : List V} (p : PostO W Mo σ σV H xs σ1 vs H1) {o' : Bool} (n : New W (Mu Mo σ1 σV) H1 d o' v H2) : Post W Mo σ σV H (.v d) o' σ1 v H2 := by
  have p' : Post W Mo σ σV H (.v .non) false σ1 .non H1 := ⟨p.fr, p.dm, p.mm, p.wm, p.ios, p.rel, .non, fun z => nomatch z⟩
  exact p'.new n
end
/-! ### built-in functions -/
noncomputable def biName : Bi → Str
  | .len => "len" | .int => "int" | .str => "str" | .abs => "abs" | .max => "max" | .min => "min" | .sum => "sum" | .all => "all" | .any => "any"
  | .list => "list" | .tuple => "tuple" | .sorted => "sorted" | .gcd => "gcd" | .bool => "bool" | .dict => "dict" | .repr => "repr"
noncomputable def rB (W : Wd) (f : List D → R (D × Bool)) : List V → Hp → VK → Prop := fun vs H Q => ∃ M ds g o, Trk M H ∧ All2 (DenW W H M) ds vs ∧ f ds = .ok (g, o) ∧ ∀ v H', New W M H g o v H' → Q v H'
theorem all2_1 {α β : Type} {P : α → β → Prop} {a : α} {bs : List β} (h : All2 P [a] bs) : ∃ b, bs = [b] ∧ P a b := by
  cases bs with
  | nil => exact h.elim
  | cons b bs => cases bs with
    | nil => exact ⟨b, rfl, h.1⟩
    | cons _ _ => exact h.2.elim
theorem all2_2 {α β : Type} {P : α → β → Prop} {a a' : α} {bs : List β} (h : All2 P [a, a'] bs) : ∃ b b', bs = [b, b'] ∧ P a b ∧ P a' b' := by
  cases bs with
  | nil => exact h.elim
  | cons b bs =>
    obtain ⟨b', e, h2⟩ := all2_1 h.2
    exact ⟨b, b', by rw [e], h.1, h2⟩
theorem ints_den {W : Wd} {H : Hp} {M : Zone} : ∀ {ds : List D} {vs : List V} {ns : List Int}, DenL W H M ds vs → intsD ds = some ns → vs = ns.map V.int
  | [], _, _, h, e => by cases h; cases e; rfl
  | d :: ds, _, _, h, e => by
    cases h with
    | cons h l =>
      cases h <;> simp only [intsD] at e <;> try cases e
      rw [Option.map_eq_some_iff] at e
      obtain ⟨ns, e1, rfl⟩ := e
      rw [ints_den l e1]
      rfl
theorem bools_den {W : Wd} {H : Hp} {M : Zone} : ∀ {ds : List D} {vs : List V} {ns : List Bool}, DenL W H M ds vs → boolsD ds = some ns → vs = ns.map V.bl
  | [], _, _, h, e => by cases h; cases e; rfl
  | d :: ds, _, _, h, e => by
    cases h with
    | cons h l =>
      cases h <;> simp only [boolsD] at e <;> try cases e
      rw [Option.map_eq_some_iff] at e
      obtain ⟨ns, e1, rfl⟩ := e
      rw [bools_den l e1]
      rfl
theorem lenV {W : Wd} {H : Hp} {M : Zone} {d : D} {v : V} {n : Nat} (h : DenW W H M d v) (e : lenOf d = .ok n) : LenV W.K v H n := by
  unfold lenOf at e
  split at e
  · cases h.str
    obtain ⟨hz, e⟩ := guard_inv e
    cases e
    exact ⟨size_ok hz, rfl⟩
  · cases e
    obtain ⟨a, xs, rfl, ha, _, la⟩ := h.tup
    exact .inr ⟨xs, .of ha, la.length⟩
  · cases e
    obtain ⟨a, xs, rfl, ha, la⟩ := h.lst
    exact .inl ⟨xs, .of ha, la.length⟩
  · cases e
    obtain ⟨a, xs, rfl, ha, la⟩ := h.frz
    exact .inl ⟨xs, ha, la.length⟩
  · cases e
section
variable {X : Cx} {W : Wd}
theorem cr_len (hK : X.K = W.K) : CallR X (.builtin "len") (rB W biLen) := by
  intro pins s σ H xs us Q I r h
  obtain ⟨M, ds, g, o, tr, hd, e, k⟩ := h
  unfold biLen at e
  split at e
  · obtain ⟨v, rfl, hv⟩ := all2_1 hd
    obtain ⟨n, e1, e⟩ := bind_inv e
    cases e
    exact call_len pins s σ H _ us Q I r ⟨v, n, rfl, by rw [hK]; exact lenV hv e1, new_v k (.int _)⟩
  · cases e
theorem cr_int : CallR X (.type "int") (rB W biInt) := by
  intro pins s σ H xs us Q I r h
  obtain ⟨M, ds, g, o, tr, hd, e, k⟩ := h
  unfold biInt at e
  split at e
  · obtain ⟨v, rfl, hv⟩ := all2_1 hd
    cases hv.int; cases e
    exact call_int1 pins s σ H _ us Q I r (.inl ⟨_, rfl, new_v k (.int _)⟩)
  · obtain ⟨v, rfl, hv⟩ := all2_1 hd
    cases hv.bl; cases e
    exact call_int1 pins s σ H _ us Q I r (.inr ⟨_, rfl, new_v k (.int _)⟩)
  · obtain ⟨v, rfl, hv⟩ := all2_1 hd
    cases hv.str
    obtain ⟨hz, e⟩ := guard_inv e
    obtain ⟨n, hn, e⟩ := of_inv e
    cases e
    exact call_int_str pins s σ H _ us Q I r ⟨_, n, rfl, hn, of_decide_eq_true hz, new_v k (.int _)⟩
  · cases e
theorem cr_str : CallR X (.type "str") (rB W biStr) := by
  intro pins s σ H xs us Q I r h
  obtain ⟨M, ds, g, o, tr, hd, e, k⟩ := h
  unfold biStr at e
  split at e
  · obtain ⟨v, rfl, hv⟩ := all2_1 hd
    cases hv.int
    obtain ⟨hz, e⟩ := guard_inv e
    cases e
    exact call_str_int pins s σ H _ us Q I r ⟨_, rfl, of_decide_eq_true hz, new_v k (.str _)⟩
  · cases e
theorem cr_repr (hK : X.K = W.K) (hg : X.A.guards = some []) (hu : X.A.units + 64 < cLine) : CallR X (.builtin "repr") (rB W biRepr) := by
  intro pins s σ H xs us Q I r h
  obtain ⟨M, ds, g, o, tr, hd, e, k⟩ := h
  have deep : ∀ {v : V} {u : Value} {p : PyData} {a : Addr}, u = .ref a → Dp X.K H v p → RelV v u → reprOk p = true →
      (∀ t H', Inv X pins σ H H' → EP X pins σ Q (.str p.shown t) H') → wpAny (model X.prog X.w) X.A (call (.builtin "repr") [u]) (EP X pins σ Q) X.xe s := by
    intro v u p a hu' hp rv ok fin
    subst hu'
    unfold reprOk at ok
    simp only [Bool.and_eq_true, decide_eq_true_eq, Bool.not_eq_true'] at ok
    obtain ⟨⟨⟨o1, o2⟩, o3⟩, o4⟩ := ok
    obtain ⟨as, rr⟩ := Dp.reads I p v _ hp rv
    exact repr_of_reads' rr o1 (PyData.noDict_hsm o4) hg (by omega) (fun _ _ z => z) (fun h' t tk kp => fin t _ (I.kept kp)) (by rw [sizeLine_eq]; exact o2)
  have fin : ∀ {z : Str}, g = .str z → o = false → ∀ t s', Inv X pins σ H s' → EP X pins σ Q (.str z t) s' := fun {z} e1 e2 t s' J => by
    subst e1
    subst e2
    exact ⟨.str z, H, J, ⟨t, rfl⟩, new_v k (.str z)⟩
  unfold biRepr at e
  split at e
  · obtain ⟨v, rfl, hv⟩ := all2_1 hd
    cases hv.int
    obtain ⟨hz, e⟩ := guard_inv e
    cases e
    exact SkE.call_repr_int pins s σ H _ us Q I r ⟨_, rfl, of_decide_eq_true hz, new_v k (.str _)⟩
  · obtain ⟨v, rfl, hv⟩ := all2_1 hd
    cases hv.bl
    cases e
    obtain ⟨u, rfl, rfl⟩ := vals1 r
    exact PySem.P.repr_of_bool (fin rfl rfl _ _ (I.tok _))
  · obtain ⟨v, rfl, hv⟩ := all2_1 hd
    cases hv.non
    cases e
    obtain ⟨u, rfl, rfl⟩ := vals1 r
    exact PySem.P.repr_of_none (fin rfl rfl _ _ (I.tok _))
  · obtain ⟨v, rfl, hv⟩ := all2_1 hd
    cases hv.str
    obtain ⟨hz, e⟩ := guard_inv e
    cases e
    obtain ⟨u, rfl, t, rfl⟩ := vals1 r
    exact PySem.P.repr_of_str (fin rfl rfl _ _ (I.tok _)) (by rw [sizeLine_eq]; exact of_decide_eq_true hz)
  · rename_i l
    obtain ⟨v, rfl, hv⟩ := all2_1 hd
    obtain ⟨ps, hp, e⟩ := of_inv e
    obtain ⟨ok, e⟩ := guard_inv e
    cases e
    have dp : Dp X.K H v (.tuple ps) := by
      rw [hK]
      refine dp_of (d := .tup l) hv ?_
      unfold toPy
      rw [hp]
      rfl
    obtain ⟨u, rfl, ru⟩ := vals1 r
    obtain ⟨a, xs, rfl, _⟩ := hv.tup
    exact deep ru dp ru ok (fin rfl rfl)
  · rename_i l
    obtain ⟨v, rfl, hv⟩ := all2_1 hd
    obtain ⟨ps, hp, e⟩ := of_inv e
    obtain ⟨ok, e⟩ := guard_inv e
    cases e
    have dp : Dp X.K H v (.list ps) := by
      rw [hK]
      refine dp_of (d := .lst l) hv ?_
      unfold toPy
      rw [hp]
      rfl
    obtain ⟨u, rfl, ru⟩ := vals1 r
    obtain ⟨a, xs, rfl, _⟩ := hv.lst
    exact deep ru dp ru ok (fin rfl rfl)
  · cases e
theorem cr_abs : CallR X (.builtin "abs") (rB W biAbs) := by
  intro pins s σ H xs us Q I r h
  obtain ⟨M, ds, g, o, tr, hd, e, k⟩ := h
  unfold biAbs at e
  split at e
  · obtain ⟨v, rfl, hv⟩ := all2_1 hd
    cases hv.int; cases e
    exact call_abs pins s σ H _ us Q I r ⟨_, rfl, new_v k (.int _)⟩
  · cases e
theorem cr_max (hc : X.calm = true) : CallR X (.builtin "max") (rB W biMax) := by
  intro pins s σ H xs us Q I r h
  obtain ⟨M, ds, g, o, tr, hd, e, k⟩ := h
  unfold biMax at e
  split at e
  · obtain ⟨v, v', rfl, hv, hv'⟩ := all2_2 hd
    cases hv.int; cases hv'.int; cases e
    exact call_max2 hc pins s σ H _ us Q I r ⟨_, _, rfl, new_v k (.int _)⟩
  · obtain ⟨v, rfl, hv⟩ := all2_1 hd
    obtain ⟨ns, hn, e⟩ := of_inv e
    obtain ⟨m, hm, e⟩ := of_inv e
    cases e
    obtain ⟨a, ys, rfl, ha, la⟩ := hv.lst
    have ne : 0 < ns.length := by
      cases ns with
      | nil => cases hm
      | cons _ _ => simp
    refine L2.cr_max hc pins s σ H _ us Q I r ⟨a, ns, rfl, by rw [← ints_den la hn]; exact .of ha, ne, fun m' h1 h2 => ?_⟩
    have e2 : ns.max? = some m' := List.max?_eq_some_iff.mpr ⟨h1, h2⟩
    rw [hm] at e2
    cases e2
    exact new_v k (.int _)
  · cases e
theorem cr_min (hc : X.calm = true) : CallR X (.builtin "min") (rB W biMin) := by
  intro pins s σ H xs us Q I r h
  obtain ⟨M, ds, g, o, tr, hd, e, k⟩ := h
  unfold biMin at e
  split at e
  · obtain ⟨v, v', rfl, hv, hv'⟩ := all2_2 hd
    cases hv.int; cases hv'.int; cases e
    exact call_min2 hc pins s σ H _ us Q I r ⟨_, _, rfl, new_v k (.int _)⟩
  · obtain ⟨v, rfl, hv⟩ := all2_1 hd
    obtain ⟨ns, hn, e⟩ := of_inv e
    obtain ⟨m, hm, e⟩ := of_inv e
    cases e
    obtain ⟨a, ys, rfl, ha, la⟩ := hv.lst
    have ne : 0 < ns.length := by
      cases ns with
      | nil => cases hm
      | cons _ _ => simp
    refine L2.cr_min hc pins s σ H _ us Q I r ⟨a, ns, rfl, by rw [← ints_den la hn]; exact .of ha, ne, fun m' h1 h2 => ?_⟩
    have e2 : ns.min? = some m' := List.min?_eq_some_iff.mpr ⟨h1, h2⟩
    rw [hm] at e2
    cases e2
    exact new_v k (.int _)
  · cases e
theorem cr_sumW (hc : X.calm = true) : CallR X (.builtin "sum") (rB W biSum) := by
  intro pins s σ H xs us Q I r h
  obtain ⟨M, ds, g, o, tr, hd, e, k⟩ := h
  unfold biSum at e
  split at e
  · obtain ⟨v, rfl, hv⟩ := all2_1 hd
    obtain ⟨ns, hn, e⟩ := of_inv e
    cases e
    obtain ⟨a, ys, rfl, ha, la⟩ := hv.lst
    exact cr_sum hc pins s σ H _ us Q I r ⟨a, ns, rfl, by rw [← ints_den la hn]; exact .of ha, new_v k (.int _)⟩
  · cases e
theorem cr_allW (hc : X.calm = true) : CallR X (.builtin "all") (rB W biAll) := by
  intro pins s σ H xs us Q I r h
  obtain ⟨M, ds, g, o, tr, hd, e, k⟩ := h
  unfold biAll at e
  split at e
  · obtain ⟨v, rfl, hv⟩ := all2_1 hd
    obtain ⟨ns, hn, e⟩ := of_inv e
    cases e
    obtain ⟨a, ys, rfl, ha, la⟩ := hv.lst
    exact cr_all hc pins s σ H _ us Q I r ⟨a, ns, rfl, by rw [← bools_den la hn]; exact .of ha, new_v k (.bl _)⟩
  · cases e
theorem cr_anyW (hc : X.calm = true) : CallR X (.builtin "any") (rB W biAny) := by
  intro pins s σ H xs us Q I r h
  obtain ⟨M, ds, g, o, tr, hd, e, k⟩ := h
  unfold biAny at e
  split at e
  · obtain ⟨v, rfl, hv⟩ := all2_1 hd
    obtain ⟨ns, hn, e⟩ := of_inv e
    cases e
    obtain ⟨a, ys, rfl, ha, la⟩ := hv.lst
    exact cr_any hc pins s σ H _ us Q I r ⟨a, ns, rfl, by rw [← bools_den la hn]; exact .of ha, new_v k (.bl _)⟩
  · cases e
theorem denL_ints {W : Wd} {H : Hp} {M : Zone} : ∀ ns : List Int, DenL W H M (ns.map D.int) (ns.map V.int)
  | [] => .nil
  | n :: ns => .cons (.int n) (denL_ints ns)
theorem cr_sortedW : CallR X (.builtin "sorted") (rB W biSorted) := by
  intro pins s σ H xs us Q I r h
  obtain ⟨M, ds, g, o, tr, hd, e, k⟩ := h
  unfold biSorted at e
  split at e
  · obtain ⟨v, rfl, hv⟩ := all2_1 hd
    obtain ⟨ns, hn, e⟩ := of_inv e
    cases e
    obtain ⟨a, ys, rfl, ha, la⟩ := hv.lst
    refine cr_sortedI pins s σ H _ us Q I r ⟨a, ns, rfl, by rw [← ints_den la hn]; exact .of ha, fun ns' p h1 h2 hp => ?_⟩
    have e2 : ns' = PySem.W.sortI ns := List.Perm.eq_of_pairwise (fun _ _ _ _ a b => Int.le_antisymm a b) h2 (PySem.W.sortI_rises ns) (h1.trans (PySem.W.sortI_perm ns).symm)
    rw [e2]
    exact k _ _ (.lst hp (denL_ints _))
  · cases e
theorem cr_list (hK : X.K = W.K) : CallR X (.type "list") (rB W biList) := by
  intro pins s σ H xs us Q I r h
  obtain ⟨M, ds, g, o, tr, hd, e, k⟩ := h
  unfold biList at e
  split at e
  · obtain ⟨v, rfl, hv⟩ := all2_1 hd
    cases e
    obtain ⟨a, ys, rfl, ha, la⟩ := hv.lst
    exact call_list_of pins s σ H _ us Q I r ⟨a, ys, rfl, .inl (.of ha), fun p hp => k _ _ (.lst hp la)⟩
  · obtain ⟨v, rfl, hv⟩ := all2_1 hd
    cases e
    obtain ⟨a, ys, rfl, ha, _, la⟩ := hv.tup
    exact call_list_of pins s σ H _ us Q I r ⟨a, ys, rfl, .inr (.of ha), fun p hp => k _ _ (.lst hp la)⟩
  · cases e
theorem cr_tuple : CallR X (.type "tuple") (rB W biTuple) := by
  intro pins s σ H xs us Q I r h
  obtain ⟨M, ds, g, o, tr, hd, e, k⟩ := h
  unfold biTuple at e
  split at e
  · obtain ⟨v, rfl, hv⟩ := all2_1 hd
    cases e
    obtain ⟨a, ys, rfl, ha, la⟩ := hv.lst
    exact call_tuple_of pins s σ H _ us Q I r ⟨a, ys, rfl, .inl ⟨.of ha, fun p hp => k _ _ (.tup hp (tr.no hp) la)⟩⟩
  · obtain ⟨v, rfl, hv⟩ := all2_1 hd
    cases e
    obtain ⟨a, ys, rfl, ha, m, la⟩ := hv.tup
    exact call_tuple_of pins s σ H _ us Q I r ⟨a, ys, rfl, .inr ⟨.of ha, new_v k (.tup ha m la)⟩⟩
  · cases e
theorem cr_gcdW : CallR X (.builtin "math.gcd") (rB W biGcd) := by
  intro pins s σ H xs us Q I r h
  obtain ⟨M, ds, g, o, tr, hd, e, k⟩ := h
  unfold biGcd at e
  split at e
  · obtain ⟨v, v', rfl, hv, hv'⟩ := all2_2 hd
    cases hv.int; cases hv'.int; cases e
    exact cr_gcd pins s σ H _ us Q I r ⟨_, _, rfl, new_v k (.int _)⟩
  · cases e
/-! ### items, slices -/
theorem DenL.atI {H : Hp} {M : Zone} {ds : List D} {vs : List V} {i : Int} {d : D} (h : DenL W H M ds vs) (e : L2.atI ds i = some d) : ∃ v, L2.atI vs i = some v ∧ Den W H M d v := by
  unfold L2.atI at e ⊢
  rw [h.length] at e
  cases q : ixN vs.length i with
  | none => rw [q] at e; cases e
  | some j => rw [q] at e; exact h.get e
noncomputable def rItm (W : Wd) : R2 := fun x y H Q => ∃ M d e g, DenW W H M d x ∧ DenW W H M e y ∧ item d e = .ok g ∧ ∀ v, Den W H M g v → Q v H
theorem of_ok {α : Type} {o : Option α} {a : α} (h : R.of o = .ok a) : o = some a := by
  cases o with
  | none => cases h
  | some b => cases h; rfl
theorem ix_dict (hu : X.A.units + 1 < cLine) : IxR X (fun x y H Q => ∃ a v, x = .ref a ∧ DGet H a y (some v) ∧ Q v H) := by
  intro value slice pins s σ H x y v u Q I rx ry h hs
  obtain ⟨a, z, rfl, g, q⟩ := h
  obtain rfl : v = Value.ref a := rx
  exact PyProof.Rows.tail_any (dict_typeIs I g) PySem.F.slot_dict_getitem.lookup (d_getItem hu I g ry fun w' s' I' r => ⟨z, H, I', r, q⟩) hs
theorem ix_itm (hK : X.K = W.K) (hu : X.A.units + 1 < cLine) : IxR X (rItm W) := by
  intro value slice pins s σ H x y v u Q I rx ry h hs
  obtain ⟨M, d, e, g, hd, he, e1, k⟩ := h
  unfold item at e1
  split at e1
  · obtain ⟨kk, h1, e1⟩ := of_inv e1
    obtain ⟨a, kvs, rfl, ha, rfl, la⟩ := hd.dic
    cases keyD_den he h1
    obtain ⟨w, h2, h3⟩ := lk_den la (of_ok e1)
    exact ix_dict hu value slice pins s σ H _ _ v u Q I rx ry ⟨a, w, rfl, by rw [← h2]; exact .k ha, k _ h3⟩ hs
  · obtain ⟨kk, h1, e1⟩ := of_inv e1
    obtain ⟨a, kvs, rfl, ha, rfl, la⟩ := hd.dit
    obtain ⟨c, ys, rfl, hc, mc, lc⟩ := he.tup
    cases keysD_den lc h1
    obtain ⟨w, h2, h3⟩ := lk_den la (of_ok e1)
    exact ix_dict hu value slice pins s σ H _ _ v u Q I rx ry ⟨a, w, rfl, by rw [← h2]; exact .t ha hc, k _ h3⟩ hs
  · cases he.int
    obtain ⟨a, ys, rfl, ha, la⟩ := hd.lst
    obtain ⟨w, h1, h2⟩ := la.atI (of_ok e1)
    exact ix_list value slice pins s σ H _ _ v u Q I rx ry ⟨a, ys, _, w, rfl, rfl, .of ha, h1, k _ h2⟩ hs
  · cases he.int
    obtain ⟨a, ys, rfl, ha, la⟩ := hd.frz
    obtain ⟨w, h1, h2⟩ := la.atI (of_ok e1)
    exact ix_list value slice pins s σ H _ _ v u Q I rx ry ⟨a, ys, _, w, rfl, rfl, by rw [hK]; exact ha, h1, k _ h2⟩ hs
  · cases he.int
    obtain ⟨a, ys, rfl, ha, _, la⟩ := hd.tup
    obtain ⟨w, h1, h2⟩ := la.atI (of_ok e1)
    exact ix_tup value slice pins s σ H _ _ v u Q I rx ry ⟨a, ys, _, w, rfl, rfl, .of ha, h1, k _ h2⟩ hs
  · cases he.int; cases hd.str
    obtain ⟨hz, e1⟩ := guard_inv e1
    obtain ⟨c, h1, e1⟩ := of_inv e1
    cases e1
    exact ix_str value slice pins s σ H _ _ v u Q I rx ry ⟨_, _, c, rfl, rfl, size_ok hz, h1, k _ (.str _)⟩ hs
  · cases e1
theorem DenL.cut {H : Hp} {M : Zone} {ds : List D} {vs : List V} (h : DenL W H M ds vs) (lo hi : Option Int) : DenL W H M (cutL ds lo hi) (cutV vs lo hi) := by
  unfold cutL cutV
  rw [h.length]
  exact (h.drop _).take _
noncomputable def rSlc (W : Wd) : V → Option Int → Option Int → Hp → VK → Prop := fun x lo hi H Q => ∃ M d g o, Trk M H ∧ DenW W H M d x ∧ slice d lo hi = .ok (g, o) ∧ ∀ v H', New W M H g o v H' → Q v H'
theorem sl_slc (hK : X.K = W.K) : SlR X (rSlc W) := by
  intro pins s σ H x v vl vu lo hi sl Q I rx hs pl pu h
  obtain ⟨M, d, g, o, tr, hd, e, k⟩ := h
  unfold slice at e
  split at e
  · cases e
    obtain ⟨a, ys, rfl, ha, la⟩ := hd.lst
    exact sl_list pins s σ H _ v vl vu lo hi sl Q I rx hs pl pu ⟨a, ys, rfl, .of ha, fun p hp => k _ _ (.lst hp (la.cut lo hi))⟩
  · cases e
    obtain ⟨a, ys, rfl, ha, m, la⟩ := hd.tup
    refine sl_tupA pins s σ H _ v vl vu lo hi sl Q I rx hs pl pu ⟨a, ys, rfl, .of ha, fun hw => ?_, fun _ p hp => k _ _ (.tup hp (tr.no hp) (la.cut lo hi))⟩
    have e1 : cutV ys lo hi = ys := by
      unfold cutV
      rw [hw.1, hw.2, List.drop_zero, Nat.sub_zero, List.take_length]
    have q := la.cut lo hi
    rw [e1] at q
    exact new_v k (.tup ha m q)
  · cases e
/-! ### isinstance -/
noncomputable def kTy : Nat → String | 0 => "int" | 1 => "bool" | 2 => "str" | 3 => "tuple" | 4 => "list" | _ => "dict"
noncomputable def rIs (W : Wd) (k : Nat) : List V → Hp → VK → Prop := fun vs H Q => ∃ M d x b, vs = [x, .ty (kTy k)] ∧ k < 6 ∧ DenW W H M d x ∧ isInst k d = .ok b ∧ Q (.bl b) H
theorem cr_is (k : Nat) : CallR X (.builtin "isinstance") (rIs W k) := by
  intro pins s σ H xs us Q I r h
  obtain ⟨M, d, x, b, rfl, hk, hd, e, q⟩ := h
  have go : ∀ {T : String}, TyX X.K H x (.type T) → kitB T (kTy k) = some b → wpAny (model X.prog X.w) X.A (call (.builtin "isinstance") us) (EP X pins σ Q) X.xe s := fun ty e => by
    exact call_isi pins s σ H _ us Q I r ⟨x, _, _, _, b, rfl, .ty _, ty, kit_ty e, q⟩
  have six : k = 0 ∨ k = 1 ∨ k = 2 ∨ k = 3 ∨ k = 4 ∨ k = 5 := by omega
  have h10 : k < 10 := by omega
  unfold isInst at e
  split at e
  · rw [if_pos h10] at e; cases e
    cases hd.non
    refine go (.base .non) ?_
    rcases six with rfl | rfl | rfl | rfl | rfl | rfl <;> rfl
  · rw [if_pos h10] at e; cases e
    cases hd.bl
    refine go (.base (.bl _)) ?_
    rcases six with rfl | rfl | rfl | rfl | rfl | rfl <;> rfl
  · rw [if_pos h10] at e; cases e
    cases hd.int
    refine go (.base (.int _)) ?_
    rcases six with rfl | rfl | rfl | rfl | rfl | rfl <;> rfl
  · rw [if_pos h10] at e; cases e
    cases hd.str
    refine go (.base (.str _)) ?_
    rcases six with rfl | rfl | rfl | rfl | rfl | rfl <;> rfl
  · rw [if_pos h10] at e; cases e
    obtain ⟨a, ys, rfl, ha, m, la⟩ := hd.tup
    refine go (.base (.tup ha)) ?_
    rcases six with rfl | rfl | rfl | rfl | rfl | rfl <;> rfl
  · rw [if_pos h10] at e; cases e
    obtain ⟨a, ys, rfl, ha, la⟩ := hd.lst
    refine go (.base (.lst ha)) ?_
    rcases six with rfl | rfl | rfl | rfl | rfl | rfl <;> rfl
  · cases e
end
end Mini

set_option Elab.async false
set_option linter.all false
set_option maxRecDepth 100000
set_option maxHeartbeats 2000000
/-! ## slots that change -/
namespace Mini
open PySem L2
section
variable {W : Wd} {H H' H1 H2 : Hp} {M Mo Mo2 : Zone} {σ σ1 σ2 σ' : Fm} {σV : L2.St} {x y : Opd} {o : Bool} {v u : V} {d d' : D} {i : Nat} {a p : Addr} {s s' : Slot}
theorem lt_of_some {α : Type} {l : List α} {i : Nat} {a : α} (h : l[i]? = some a) : i < l.length := (List.getElem?_eq_some_iff.mp h).1
theorem held_set (hs : s'.held = some d') (hi : i < σ.length) {j : Nat} {e : D} : Held (σ.set i s') j e ↔ (j = i ∧ e = d') ∨ (j ≠ i ∧ Held σ j e) := by
  unfold Held
  by_cases hj : j = i
  · subst hj
    rw [List.getElem?_set_self hi]
    constructor
    · rintro ⟨t, e1, e2⟩
      cases e1
      rw [hs] at e2
      exact .inl ⟨rfl, (Option.some.inj e2).symm⟩
    · rintro (⟨_, e⟩ | ⟨n, _⟩)
      · exact ⟨s', rfl, by rw [hs, e]⟩
      · exact absurd rfl n
  · rw [List.getElem?_set_ne (Ne.symm hj)]
    constructor
    · exact fun h => .inr ⟨hj, h⟩
    · rintro (⟨e, _⟩ | ⟨_, h⟩)
      · exact absurd e hj
      · exact h
theorem held_off (hs : s'.held = none) (hi : i < σ.length) {j : Nat} {e : D} : Held (σ.set i s') j e ↔ (j ≠ i ∧ Held σ j e) := by
  unfold Held
  by_cases hj : j = i
  · subst hj
    rw [List.getElem?_set_self hi]
    constructor
    · rintro ⟨t, e1, e2⟩
      cases e1
      rw [hs] at e2
      cases e2
    · exact fun h => absurd rfl h.1
  · rw [List.getElem?_set_ne (Ne.symm hj)]
    exact ⟨fun h => ⟨hj, h⟩, fun h => h.2⟩
theorem muts_set (h : Held σ i d) (hs : s'.held = some d') {b : Addr} : muts (σ.set i s') σV b ↔ muts σ σV b := by
  obtain ⟨s, e, hd⟩ := h
  have hi := lt_of_some e
  constructor
  · rintro ⟨j, e', hj, hv⟩
    rcases (held_set hs hi).mp hj with ⟨rfl, _⟩ | ⟨_, hj⟩
    · exact ⟨j, d, ⟨s, e, hd⟩, hv⟩
    · exact ⟨j, e', hj, hv⟩
  · rintro ⟨j, e', hj, hv⟩
    by_cases q : j = i
    · exact ⟨i, d', (held_set hs hi).mpr (.inl ⟨rfl, rfl⟩), by rw [← q]; exact hv⟩
    · exact ⟨j, e', (held_set hs hi).mpr (.inr ⟨q, hj⟩), hv⟩
theorem wrt_set {s : Slot} (e : σ[i]? = some s) (h : s.wr = some d) (hs : s'.wr = some d') {b : Addr} : wrt (σ.set i s') σV b ↔ wrt σ σV b := by
  have hi := lt_of_some e
  constructor
  · rintro ⟨j, t, e', hj, hd, hv⟩
    by_cases q : j = i
    · subst q
      exact ⟨j, s, d, e, h, hv⟩
    · rw [List.getElem?_set_ne (Ne.symm q)] at hj
      exact ⟨j, t, e', hj, hd, hv⟩
  · rintro ⟨j, t, e', hj, hd, hv⟩
    by_cases q : j = i
    · subst q
      exact ⟨j, s', d', List.getElem?_set_self hi, hs, hv⟩
    · exact ⟨j, t, e', by rw [List.getElem?_set_ne (Ne.symm q)]; exact hj, hd, hv⟩
theorem wrt_off (hs : s'.wr = none) (hi : i < σ.length) {b : Addr} (h : wrt (σ.set i s') σV b) : wrt σ σV b := by
  obtain ⟨j, t, e', hj, hd, hv⟩ := h
  by_cases q : j = i
  · subst q
    rw [List.getElem?_set_self hi] at hj
    cases hj
    rw [hs] at hd
    cases hd
  · rw [List.getElem?_set_ne (Ne.symm q)] at hj
    exact ⟨j, t, e', hj, hd, hv⟩
theorem muts_off (hs : s'.held = none) (hi : i < σ.length) {b : Addr} (h : muts (σ.set i s') σV b) : muts σ σV b := by
  obtain ⟨j, e', hj, hv⟩ := h
  exact ⟨j, e', ((held_off hs hi).mp hj).2, hv⟩
/-- what slot i owns, at a, has another content; nothing else has changed -/
theorem Rel.upd (r : Rel W Mo σ σV H) (h : Held σ i d) (hs : s'.held = some d') (ha : σV[i]? = some (some (.ref a))) (f : Fr (fun b => b = a) H H') (dm : ∀ b, H b ≠ none → H' b ≠ none)
    (hm : ∀ b, Mo b → Mo2 b) (hm2 : ∀ b, Mo2 b → Mo b ∨ H b = none) (tr : ∀ b, Mo2 b → H' b ≠ none) (ow : Own W H' (Mu Mo2 σ σV) a d') : Rel W Mo2 (σ.set i s') σV H' := by
  have hi : i < σ.length := let ⟨_, e, _⟩ := h; lt_of_some e
  obtain ⟨a', e', na, owa⟩ := r.mu i d h
  rw [ha] at e'
  cases e'
  have hz : ∀ b, Mu Mo2 (σ.set i s') σV b ↔ Mu Mo2 σ σV b := fun b => ⟨fun z => z.elim .inl fun q => .inr ((muts_set h hs).mp q), fun z => z.elim .inl fun q => .inr ((muts_set h hs).mpr q)⟩
  have hz2 : ∀ b, Mu Mo2 (σ.set i s') σV b → Mu Mo σ σV b ∨ H b = none := fun b z => ((hz b).mp z).elim (fun q => (hm2 b q).elim (fun q => .inl (.inl q)) .inr) fun q => .inl (.inr q)
  have hma : ∀ b, (fun b => b = a) b → Mu Mo σ σV b := fun b e => .inr ⟨i, d, h, by rw [show b = a from e]; exact ha⟩
  refine ⟨by rw [List.length_set]; exact r.len, fun j e hj => ?_, fun j e hj => ?_, fun j k e e2 b hj hk hvj hvk => ?_, tr⟩
  · by_cases q : j = i
    · subst q
      rw [List.getElem?_set_self hi] at hj
      cases hj
      cases hs
    · rw [List.getElem?_set_ne (Ne.symm q)] at hj
      obtain ⟨v, h1, h2⟩ := r.im j e hj
      exact ⟨v, h1, h2.step f hma hz2⟩
  · rcases (held_set hs hi).mp hj with ⟨rfl, rfl⟩ | ⟨q, hj'⟩
    · refine ⟨a, ha, fun z => ?_, ow.step (Mw := Z0) .refl (fun z => z) (fun _ z => z.elim) fun b z => .inl ((hz b).mp z)⟩
      rcases hm2 a z with z | z
      · exact na z
      · exact owa.some z
    · obtain ⟨b, h1, h2, h3⟩ := r.mu j e hj'
      refine ⟨b, h1, fun z => ?_, h3.step f (fun z => ?_) hma hz2⟩
      · rcases hm2 b z with z | z
        · exact h2 z
        · exact h3.some z
      · have z' : b = a := z
        subst z'
        exact q (r.ne j i e d b hj' h h1 ha)
  · have red : ∀ {j : Nat} {e : D}, Held (σ.set i s') j e → ∃ e', Held σ j e' := fun {j e} hj => by
      rcases (held_set hs hi).mp hj with ⟨rfl, _⟩ | ⟨_, hj⟩
      · exact ⟨d, h⟩
      · exact ⟨e, hj⟩
    obtain ⟨e', hj'⟩ := red hj
    obtain ⟨e2', hk'⟩ := red hk
    exact r.ne j k e' e2' b hj' hk' hvj hvk
/-- slot i no longer owns: the value stays from now on -/
theorem Rel.freeze (r : Rel W Mo σ σV H) (h : Held σ i d) : Rel W Mo (σ.set i (.im d)) σV H := by
  have hi : i < σ.length := let ⟨_, e, _⟩ := h; lt_of_some e
  obtain ⟨a, ha, na, owa⟩ := r.mu i d h
  have hz : ∀ b, Mu Mo (σ.set i (.im d)) σV b → Mu Mo σ σV b := fun b z => z.elim .inl fun q => .inr (muts_off rfl hi q)
  refine ⟨by rw [List.length_set]; exact r.len, fun j e hj => ?_, fun j e hj => ?_, fun j k e e2 b hj hk hvj hvk => ?_, r.tr⟩
  · by_cases q : j = i
    · subst q
      rw [List.getElem?_set_self hi] at hj
      cases hj
      refine ⟨.ref a, ha, (owa.step (Mw := Z0) .refl (fun z => z) (fun _ z => z.elim) fun b z => .inl (hz b z)).den fun z => ?_⟩
      rcases z with z | ⟨k, e2, hk, hv⟩
      · exact na z
      · obtain ⟨n, hk'⟩ := (held_off rfl hi).mp hk
        exact n (r.ne k j e2 _ a hk' h hv ha)
    · rw [List.getElem?_set_ne (Ne.symm q)] at hj
      obtain ⟨v, h1, h2⟩ := r.im j e hj
      exact ⟨v, h1, h2.step (Mw := Z0) .refl (fun _ z => z.elim) fun b z => .inl (hz b z)⟩
  · obtain ⟨q, hj'⟩ := (held_off rfl hi).mp hj
    obtain ⟨b, h1, h2, h3⟩ := r.mu j e hj'
    exact ⟨b, h1, h2, h3.step (Mw := Z0) .refl (fun z => z) (fun _ z => z.elim) fun b z => .inl (hz b z)⟩
  · exact r.ne j k e e2 b ((held_off rfl hi).mp hj).2 ((held_off rfl hi).mp hk).2 hvj hvk
theorem Post.freeze (q : Post W Mo σ σV H x o σ1 v H1) {e : D} {o' : Bool} (h : fz (x, o, σ1) = .ok (e, o', σ2)) : Post W Mo σ σV H (.v e) o' σ2 v H1 := by
  cases x with
  | v d => cases h; exact q
  | r i =>
    unfold fz at h
    dsimp only at h
    split at h
    · rename_i d' e1
      cases h
      have hh : Held σ1 i e := ⟨.mu e, e1, rfl⟩
      have hi := lt_of_some e1
      have r2 := q.rel.freeze hh
      obtain ⟨u, hu, hden⟩ := r2.im i e (List.getElem?_set_self hi)
      have ev : u = v := by
        have z : σV[i]? = some (some v) := q.val
        rw [hu] at z
        exact Option.some.inj (Option.some.inj z)
      refine ⟨q.fr, q.dm, fun b z => q.mm b (muts_off rfl hi z), fun b z => q.wm b (wrt_off rfl hi z), fun j b ej => (q.ios j b ej).set e1 (fun c z => nomatch z), r2, ?_, fun z => nomatch z⟩
      · rw [← ev]
        exact hden
    · cases h
/-- a slot is read -/
theorem post_var (r : Rel W Mo σ σV H) {y : Res} (C : Cb) (e : ev C (.var i) σ = .ok (x, o, σ')) : ∃ v, σV[i]? = some (some v) ∧ Post W Mo σ σV H x o σ' v H := by
  unfold ev at e
  split at e
  · rename_i d h
    cases e
    obtain ⟨v, h1, h2⟩ := r.im i _ h
    exact ⟨v, h1, .refl r h2⟩
  · rename_i d h
    cases e
    obtain ⟨b, h1, _, _⟩ := r.mu i d ⟨_, h, rfl⟩
    exact ⟨_, h1, .refl r h1⟩
  · rename_i d h
    cases e
    obtain ⟨b, h1, _, _⟩ := r.mu i d ⟨_, h, rfl⟩
    exact ⟨_, h1, .refl r h1⟩
  · rename_i d h
    cases e
    obtain ⟨b, h1, _, _⟩ := r.mu i d ⟨_, h, rfl⟩
    exact ⟨_, h1, .refl r h1⟩
  · cases e
end
end Mini

set_option Elab.async false
set_option linter.all false
set_option maxRecDepth 100000
set_option maxHeartbeats 2000000
/-! ## expressions are sound -/
namespace Mini
open PySem L2
/-- what is told of a text's names: the world part, a def's slots, the names that are built in, the module's constants, its defs -/
structure Tb where
  W : Wd
  N : List Str
  blt : List Str
  gcd : Bool
  kon : Str → Option D
  fn : Str → Option Nat
  na : Nat → Bool
  /-- classes by name; numbers that are methods' names -/
  cl : Str → Option Nat
  nm : Nat → Bool
  /-- defs whose last parameter has the default None, by name -/
  dfn : Str → Option Nat := fun _ => none
noncomputable def isVis (sc : Scope) (x : Str) : Bool := match sc.names.lookup x with | some .local => true | some .cell => true | some .free => true | _ => false
noncomputable def isGl (sc : Scope) (x : Str) : Bool := match sc.names.lookup x with | some .globalImplicit => true | _ => false
noncomputable def litC : D → Const → Bool
  | .int i, .int j => decide (i = j)
  | .str x, .str y => decide (x = y)
  | .bl a, .bool b => decide (a = b)
  | .non, .none => true
  | _, _ => false
noncomputable def litD : D → D → Bool
  | .int i, .int j => decide (i = j)
  | .str x, .str y => decide (x = y)
  | .bl a, .bl b => decide (a = b)
  | .non, .non => true
  | _, _ => false
noncomputable def notIn : CmpOp → Bool | _ => true
noncomputable def bmName : Bm → Str
  | .split => "split" | .join => "join" | .items => "items" | .isascii => "isascii" | .isdigit => "isdigit" | .upper => "upper" | .get => "get"
noncomputable def bmOk : Bm → Bool | .items => false | .get => false | _ => true
noncomputable def biOk : Bi → Bool | .bool => false | .dict => false | _ => true
noncomputable def noCall : Expr → Bool | .Call _ [] _ _ => false | _ => true
mutual
noncomputable def chkT (T : Tb) (dl : Bool) (sc : Scope) : E → Expr → Bool
  | .var i, .Name x _ => decide (T.N[i]? = some x) && (match sc.names.lookup x with | some .local => true | some .cell => dl | _ => false)
  | .tup l, .Tuple es _ _ => chkTs T dl sc l es
  | _, _ => false
noncomputable def chkTs (T : Tb) (dl : Bool) (sc : Scope) : E → List Expr → Bool
  | .nil, [] => true
  | .cons a l, e :: es => chkT T dl sc a e && chkTs T dl sc l es
  | _, _ => false
end
noncomputable def plainE : Expr → Bool | .Starred _ _ => false | .Slice _ _ _ _ => false | .Set _ _ _ => false | _ => true
@[simp] noncomputable def nopeE : Expr → Bool | .Starred _ _ => false | .Slice _ _ _ _ => false | .Set _ _ _ => false | .ListComp _ _ _ _ => false | .SetComp _ _ _ _ => false | .DictComp _ _ _ _ _ => false | _ => true
noncomputable def isTupE : Expr → Bool | .Tuple _ _ _ => true | _ => false
theorem isTupE_inv {e : Expr} (h : isTupE e = true) : ∃ l k p, e = .Tuple l k p := by
  cases e <;> first | exact ⟨_, _, _, rfl⟩ | cases h
noncomputable def ownL (N : List Str) (vs : List Nat) : List (Str × Nat) := vs.map fun i => (N.getD i default, i)
/-- written keys of a dict -/
noncomputable def chkKs : E → List (Option Expr) → Bool
  | .nil, [] => true
  | .cons (.lit (.str x)) l, some (.Constant (.str y) _ _) :: es => decide (x = y) && chkKs l es
  | _, _ => false
mutual
noncomputable def chk (T : Tb) (sc : Scope) : E → Expr → Bool
  | .var i, ex => match ex with
    | .Name x _ => decide (T.N[i]? = some x) && isVis sc x && !(x == ("__debug__" : Str)) && !(x == ("__classdict__" : Str))
    | _ => false
  | .lit d, ex => match ex with
    | .Constant c _ _ => litC d c
    | .Name x _ => isGl sc x && !(x == ("__debug__" : Str)) && (match T.kon x with | some e => litD d e | none => false)
    | _ => false
  | .bin op a b, ex => match ex with
    | .BinOp x op' y _ => decide (op = op') && chk T sc a x && chk T sc b y
    | _ => false
  | .neg a, ex => match ex with
    | .UnaryOp .USub x _ => chk T sc a x
    | _ => false
  | .not a, ex => match ex with
    | .UnaryOp .Not x _ => chk T sc a x
    | _ => false
  | .cmp op a b, ex => match ex with
    | .Compare x [op'] [y] _ => decide (op = op') && notIn op && chk T sc a x && chk T sc b y
    | _ => false
  | .cmp2 o1 o2 a b c, ex => match ex with
    | .Compare x [p1, p2] [y, z] _ => decide (o1 = p1) && decide (o2 = p2) && notIn o1 && notIn o2 && chk T sc a x && chk T sc b y && chk T sc c z
    | _ => false
  | .and l, ex => match ex with
    | .BoolOp .And es _ => !es.isEmpty && chkL T sc l es
    | _ => false
  | .or l, ex => match ex with
    | .BoolOp .Or es _ => !es.isEmpty && chkL T sc l es
    | _ => false
  | .ife t a b, ex => match ex with
    | .IfExp p x y _ => chk T sc t p && chk T sc a x && chk T sc b y
    | _ => false
  | .tup l, ex => match ex with
    | .Tuple es _ _ => chkL T sc l es
    | _ => false
  | .lst l, ex => match ex with
    | .List es _ => chkL T sc l es
    | _ => false
  | .idx a b, ex => match ex with
    | .Subscript x y _ => chk T sc a x && chk T sc b y
    | _ => false
  | .slc a lo hi, ex => match ex with
    | .Subscript x (.Slice p q none _) _ => chk T sc a x && chkP T sc lo p && chkP T sc hi q
    | _ => false
  | .attr a f, ex => match ex with
    | .Attribute x n _ => decide (T.W.att f = n) && T.na f && noCall x && chk T sc a x
    | _ => false
  | .bi b l, ex => match ex with
    | .Call (.Name x _) es [] _ => biOk b && decide (x = biName b) && isGl sc x && !es.isEmpty && (if b = .gcd then T.gcd else T.blt.contains x) && chkL T sc l es
    | _ => false
  | .lrg l, ex => match ex with
    | .Call (.Name x _) [.Call (.Name y _) es [] _] [] _ => decide (x = ("list" : Str)) && isGl sc x && T.blt.contains x && decide (y = ("range" : Str)) && isGl sc y && T.blt.contains y && (es.length == 1 || es.length == 2) && chkL T sc l es
    | _ => false
  | .bm b a l, ex => match ex with
    | .Call (.Attribute x n ap) es [] cp => bmOk b && decide (n = bmName b) && noCall x && (ap.endLine == cp.line) && decide (es.length < 29) && chk T sc a x && chkL T sc l es
    | _ => false
  | .pop i l, ex => match ex with
    | .Call (.Attribute (.Name x p) n ap) es [] cp => decide (n = ("pop" : Str)) && decide (T.N[i]? = some x) && isVis sc x && !(x == ("__debug__" : Str)) && !(x == ("__classdict__" : Str)) && (ap.endLine == cp.line) && decide (es.length < 2) && chkL T sc l es
    | _ => false
  | .isi k a, ex => match ex with
    | .Call (.Name x _) [e, .Name t _] [] _ => decide (x = ("isinstance" : Str)) && isGl sc x && T.blt.contains x && decide (k < 6) && decide (t = Str.ofString (kTy k)) && isGl sc t && T.blt.contains t && chk T sc a e
    | _ => false
  | .call f l, ex => match ex with
    | .Call (.Name x _) es [] _ => decide (T.fn x = some f) && isGl sc x && !(x == ("__debug__" : Str)) && chkL T sc l es
    | _ => false
  | .dcall f l, ex => match ex with
    | .Call (.Name x _) es [] _ => decide (T.dfn x = some f) && isGl sc x && !(x == ("__debug__" : Str)) && !es.isEmpty && chkL T sc l es
    | _ => false
  | .make c l, ex => match ex with
    | .Call (.Name x _) es [] _ => decide (T.cl x = some c) && isGl sc x && !(x == ("__debug__" : Str)) && !es.isEmpty && chkL T sc l es
    | _ => false
  | .meth a m l, ex => match ex with
    | .Call (.Attribute x n ap) es [] cp => decide (T.W.att m = n) && T.nm m && noCall x && (ap.endLine == cp.line) && decide (es.length < 29) && chk T sc a x && chkL T sc l es
    | _ => false
  | .comp e t it c vs, ex => match ex with
    | .ListComp elt [⟨tg, iter, ifs, as⟩] scope _ => decide (as = 0) && blkC T.N sc scope (ownL T.N vs) && chkI T sc it tg iter && chkT T false (L2.relS scope sc) t tg && (tgs t).all (fun i => vs.contains i) && chkC T (L2.relS scope sc) c ifs && chk T (L2.relS scope sc) e elt
    | _ => false
  | .nope, e => nopeE e
  | .tyi a, ex => match ex with
    | .Compare (.Call (.Name x _) [y] [] _) [.Is] [.Name z _] _ => decide (x = ("type" : Str)) && isGl sc x && T.blt.contains x && decide (z = ("int" : Str)) && isGl sc z && T.blt.contains z && chk T sc a y
    | _ => false
  | .isc c a, ex => match ex with
    | .Call (.Name x _) [e, .Name t _] [] _ => decide (x = ("isinstance" : Str)) && isGl sc x && T.blt.contains x && decide (T.cl t = some c) && isGl sc t && !(t == ("__debug__" : Str)) && chk T sc a e
    | _ => false
  | .oeq neg a b, ex => match ex with
    | .Compare x [op] [y] _ => decide (op = if neg then .NotEq else .Eq) && chk T sc a x && chk T sc b y
    | _ => false
  | .fstr l, ex => match ex with
    | .JoinedStr es _ => decide (2 ≤ es.length) && chkJ T sc l es
    | _ => false
  | .lset e t it c vs, ex => match ex with
    | .Call (.Name x _) [.SetComp elt [⟨tg, iter, ifs, as⟩] scope _] [] _ => decide (x = ("len" : Str)) && isGl sc x && T.blt.contains x && decide (as = 0) && blkC T.N sc scope (ownL T.N vs) && chkI T sc it tg iter && chkT T false (L2.relS scope sc) t tg && (tgs t).all (fun i => vs.contains i) && chkC T (L2.relS scope sc) c ifs && chk T (L2.relS scope sc) e elt
    | _ => false
  | .dic ks vs, ex => match ex with
    | .Dict keys es _ => chkKs ks keys && !keys.isEmpty && decide (keys.length ≤ 15) && decide (keys.length = es.length) && chkL T sc vs es
    | _ => false
  | .dnt _, ex => match ex with
    | .Dict [] [] _ => true
    | _ => false
  | .itl a, ex => match ex with
    | .Call (.Name x _) [.Call (.Attribute y n ap) [] [] cp] [] _ => decide (x = ("list" : Str)) && isGl sc x && T.blt.contains x && decide (n = ("items" : Str)) && noCall y && (ap.endLine == cp.line) && chk T sc a y
    | _ => false
  | .dcp a, ex => match ex with
    | .Call (.Name z _) [.Call (.Name x _) [.Call (.Attribute y n ap) [] [] cp] [] _] [] _ => decide (z = ("dict" : Str)) && isGl sc z && T.blt.contains z && decide (x = ("list" : Str)) && isGl sc x && T.blt.contains x && decide (n = ("items" : Str)) && noCall y && (ap.endLine == cp.line) && chk T sc a y
    | _ => false
  | .srs a, ex => match ex with
    | .Call (.Name z _) [.Call (.Name x _) [y] [] _] [] _ => decide (z = ("sorted" : Str)) && isGl sc z && T.blt.contains z && decide (x = ("set" : Str)) && isGl sc x && T.blt.contains x && chk T sc a y
    | _ => false
  | .lsn a, ex => match ex with
    | .Call (.Name z _) [.Call (.Name x _) [y] [] _] [] _ => decide (z = ("len" : Str)) && isGl sc z && T.blt.contains z && decide (x = ("set" : Str)) && isGl sc x && T.blt.contains x && chk T sc a y
    | _ => false
  | .stp a k, ex => match ex with
    | .Subscript y (.Slice lo none (some (.Constant (.int i) _ _)) _) _ => decide (i = 2) && (match lo with | none => decide (k = 0) | some (.Constant (.int j) _ _) => decide (j = (k : Int)) && decide (k < 1000) | _ => false) && chk T sc a y
    | _ => false
  | .lss l, ex => match ex with
    | .List es _ => chkSt T sc l es
    | _ => false
  | .rev a, ex => match ex with
    | .Subscript y (.Slice none none (some (.UnaryOp .USub (.Constant (.int i) _ _) _)) _) _ => decide (i = 1) && chk T sc a y
    | _ => false
  | .nil, _ => false
  | .cons _ _, _ => false
  | .range _, _ => false
  | .enum _, _ => false
  | .zip _ _, _ => false
  | .itm _, _ => false
  | .fmt _, _ => false
  | .star _, _ => false
noncomputable def chkJ (T : Tb) (sc : Scope) : E → List Expr → Bool
  | .nil, [] => true
  | .cons (.fmt a) l, .FormattedValue e c none _ :: es => decide (c = -1) && chk T sc a e && chkJ T sc l es
  | .cons (.lit (.str y)) l, .Constant (.str z) _ _ :: es => decide (y = z) && chkJ T sc l es
  | _, _ => false
noncomputable def chkSt (T : Tb) (sc : Scope) : E → List Expr → Bool
  | .nil, [] => true
  | .cons (.star a) l, .Starred e _ :: es => chk T sc a e && chkSt T sc l es
  | .cons a l, e :: es => chk T sc a e && chkSt T sc l es
  | _, _ => false
noncomputable def chkI (T : Tb) (sc : Scope) : E → Expr → Expr → Bool
  | .range l, _, .Call (.Name x _) es [] _ => decide (x = ("range" : Str)) && isGl sc x && T.blt.contains x && chkL T sc l es && (es.length == 1 || es.length == 2)
  | .itm a, _, e => chk T sc a e
  | .enum a, tg, .Call (.Name x _) [e] [] _ => decide (x = ("enumerate" : Str)) && isGl sc x && T.blt.contains x && isTupE tg && chk T sc a e
  | .zip a b, tg, .Call (.Name x _) [e, f] [] _ => decide (x = ("zip" : Str)) && isGl sc x && T.blt.contains x && isTupE tg && chk T sc a e && chk T sc b f
  | _, _, _ => false
noncomputable def chkC (T : Tb) (sc : Scope) : E → List Expr → Bool
  | .nil, [] => true
  | .cons a .nil, [e] => chk T sc a e
  | _, _ => false
noncomputable def chkL (T : Tb) (sc : Scope) : E → List Expr → Bool
  | .nil, [] => true
  | .cons a l, e :: es => chk T sc a e && chkL T sc l es
  | _, _ => false
noncomputable def chkP (T : Tb) (sc : Scope) : E → Option Expr → Bool
  | .nil, none => true
  | .cons a .nil, some e => chk T sc a e
  | _, _ => false
end
theorem chk_plain {T : Tb} {sc : Scope} : ∀ {c : E} {e : Expr}, chk T sc c e = true → plainE e = true := fun {c e} h => by
  cases e <;> first | rfl | (cases c <;> first | (simp [chk] at h; done) | simpa [chk] using h)
theorem star_plain {e : Expr} {es : List Expr} {env : PySem.Env} (h : plainE e = true) : starEach (e :: es) env = (false, eval e env) :: starEach es env := by
  cases e <;> first | rfl | (simp [plainE] at h)
theorem ix_plain {e : Expr} (h : plainE e = true) : PlainIx e := fun o i => by
  cases e <;> first | rfl | (simp [plainE] at h)
theorem mark_plain {e : Expr} {op : CmpOp} (h : plainE e = true) : behindInMarks op e = false := by
  cases e <;> first | rfl | (simp [plainE] at h)
theorem stars_plain {T : Tb} {sc : Scope} {env : PySem.Env} {pos : Pos} : ∀ {c : E} {es : List Expr}, chkL T sc c es = true → (backTo pos (starEach es env)).any (·.1) = false
  | c, [], _ => rfl
  | c, e :: es, h => by
    cases c <;> simp only [chkL, Bool.and_eq_true, reduceCtorEq, Bool.false_eq_true] at h
    rw [star_plain (chk_plain h.1)]
    show ((false, _) :: backTo pos (starEach es env)).any (·.1) = false
    rw [List.any_cons]
    exact stars_plain h.2
/-! ### calls where no repr is under way -/
/-- a def's promise there -/
structure FnG (P : Program) (w : World) (K : PySem.W.Frag) (mg : Str → Option Value) (base : Heap) (CX : CXT) (k : Nat) (f : Addr) (fd : FuncData) (ps : List Str) (sp : Sp) : Prop where
  len : ∀ vs H Q E, sp vs H Q E → vs.length = ps.length
  run : ∀ {A : Around} {outer : List PySem.Env} {s : Shared} {H : Hp} {args : Args} {us : List Value} {vs : List V} {Q : VK} {E : XK}, A.guards = some [] → Room k A → Env0 P w K mg base A outer s H → BindsTo s fd args (ps.zip us) → Vals vs us →
    sp vs H Q E → codeAny (model P w) A (.call (.ref f) args) (CR CX outer P w H s Q E) s
section
variable {P : Program} {w : World} {K : PySem.W.Frag} {mg : Str → Option Value} {base : Heap} {CX : CXT} {j k : Nat} {f C : Addr} {fd : FuncData} {ps : List Str} {sp : Sp} {X : Cx} {pins : List (Addr × Obj)} {σ : L2.St} {H : Hp} {s s' : Shared} {Q : VK} {E : XK}
  {us ds : List Value} {vs dvs : List V} {x m : Str} {p pos apos : Pos} {e o : Expr} {es : List Expr} {ta : TE} {t : TA}
theorem FnG.mono (F : FnG P w K mg base CX j f fd ps sp) (h : j ≤ k) : FnG P w K mg base CX k f fd ps sp := ⟨F.len, fun hg hr e0 hb r hs => F.run hg (hr.mono h) e0 hb r hs⟩
theorem FnG.imp {sp' : Sp} (F : FnG P w K mg base CX k f fd ps sp) (h : ∀ vs H Q E, sp' vs H Q E → sp vs H Q E) : FnG P w K mg base CX k f fd ps sp' :=
  ⟨fun vs H Q E z => F.len vs H Q E (h _ _ _ _ z), fun hg hr e0 hb r hs => F.run hg hr e0 hb r (h _ _ _ _ hs)⟩
/-- what a callee leaves, for its caller -/
theorem cr_end {r : Result} {R : Value → Shared → Prop} (hR : ∀ u, CE X.stack X.prog X.w H s Q u s' → R u s') (hx : ∀ e, CX X.stack H s E e s' → X.xe e s') (h : CR CX X.stack X.prog X.w H s Q E r s') : callEnd R X.xe r s' := by
  cases r with
  | error e => exact hx e h
  | ok fl =>
    cases fl with
    | ret u => exact hR u h
    | next => exact h.elim
    | brk => exact h.elim
    | cont => exact h.elim
theorem run_g (F : FnG X.prog X.w X.K X.mg X.base CX k f fd ps sp) (hg : X.A.guards = some []) (hr : Room k X.A) (hb : Binds X.K fd ps ds) (hd : Vals dvs ds) (hx : Passes CX X E) (I : Inv X pins σ H s) (r : Vals vs us) (h : sp (vs ++ dvs) H Q E) :
    wpAny (model X.prog X.w) X.A (call (.ref f) us) (EP X pins σ Q) X.xe s := by
  have rr : Vals (vs ++ dvs) (us ++ ds) := r.append hd
  have hl := F.len _ _ _ _ h
  rw [rr.length] at hl
  exact wpAny_call (codeAny_mono (F.run hg hr I.env0 (hb s us I.kIn hl) rr h) fun z s2 hz => cr_end (fun u => I.after) (fun e => hx pins σ H s e s2 I) hz)
theorem pe_callG (F : FnG X.prog X.w X.K X.mg X.base CX k f fd ps sp) (hgu : X.A.guards = some []) (hr : Room k X.A) (hg : Gl X x) (hm : X.mg x = some (.ref f)) (hk : PySem.W.keepIn X.K (.ref f) = true) (hb : Binds X.K fd ps ds) (hd : Vals dvs ds) (hx : Passes CX X E)
    (ha : PA X (e :: es) t) (hdb : (x == ("__debug__" : Str)) = false) (he : starEach (e :: es) X.env = (false, eval e X.env) :: starEach es X.env) (hpl : (backTo pos (starEach es X.env)).any (·.1) = false) :
    PE X (.Call (.Name x p) (e :: es) [] pos) (tCall sp dvs E t) :=
  ⟨fun pins s σ H Q I h => wpAny_Call_Name_kw (ld_glob I hg hm (PySem.W.callWith_K (h₀ := X.base) I.ok.mod.kin hk (thn (ha.run pos pins s σ H _ I h) fun us s1 ⟨vs, H1, I1, r, q⟩ => ⟨I1.kIn, run_g F hgu hr hb hd hx I1 r q⟩) he hpl) hdb)⟩
theorem pe_call0G (F : FnG X.prog X.w X.K X.mg X.base CX k f fd ps sp) (hgu : X.A.guards = some []) (hr : Room k X.A) (hg : Gl X x) (hm : X.mg x = some (.ref f)) (hk : PySem.W.keepIn X.K (.ref f) = true) (hb : Binds X.K fd ps ds) (hd : Vals dvs ds) (hx : Passes CX X E)
    (hdb : (x == ("__debug__" : Str)) = false) : PE X (.Call (.Name x p) [] [] pos) (tCall sp dvs E tNil) :=
  ⟨fun pins s σ H Q I h => wpAny_Call_Name_kw (ld_glob I hg hm (PySem.W.callWith_K0 I.kIn hk (run_g (us := []) F hgu hr hb hd hx I .nil h)) hdb)⟩
theorem pe_methG {pl : Sem Bool} (he : PE X o ta) (c : Cls X.K C) (hm : Meth X.K C m f) (F : FnG X.prog X.w X.K X.mg X.base CX k f fd ps sp) (hgu : X.A.guards = some []) (hr : Room k X.A) (hb : Binds X.K fd ps ds) (hd : Vals dvs ds) (hx : Passes CX X E) (ha : PA X (e :: es) t)
    (hst : starEach (e :: es) X.env = (false, eval e X.env) :: starEach es X.env) (hpl : (backTo pos (starEach es X.env)).any (·.1) = false)
    (ht : eval (.Call (.Attribute o m apos) (e :: es) [] pos) X.env = (do
      let ov ← eval o X.env
      standAt apos.atName
      let (g, first) ← holding [ov] (getMethod ov m pl)
      callWith pos g first (backTo pos (starEach (e :: es) X.env)) (backToKw pos (keywordEach [] X.env)))) :
    PE X (.Call (.Attribute o m apos) (e :: es) [] pos) (tMeth C m sp dvs E ta t) := by
  refine ⟨fun pins s σ H Q I h => PySem.W.methodCall_KW (pl := pl) (thn (he.run pins s σ H _ I h) fun u s1 hu => ?_) ht⟩
  obtain ⟨xv, H1, I1, rx, a, dx, fs, ex, ea, l, q⟩ := hu
  subst ex
  cases (show u = Value.ref a from rx)
  exact getmeth_ok I1 ea c hm l (PySem.W.callWith_K (first := [.ref a]) (h₀ := X.base) I.ok.mod.kin hm.kp (thn (ha.run pos pins s1 σ H1 _ I1 q) fun us s2 ⟨vs, H2, I2, r, q2⟩ =>
    ⟨I2.kIn, run_g (us := .ref a :: us) (vs := .ref a :: vs) F hgu hr hb hd hx I2 (.cons rfl r) q2⟩) hst hpl)
theorem pe_meth0G {pl : Sem Bool} (he : PE X o ta) (c : Cls X.K C) (hm : Meth X.K C m f) (F : FnG X.prog X.w X.K X.mg X.base CX k f fd ps sp) (hgu : X.A.guards = some []) (hr : Room k X.A) (hb : Binds X.K fd ps ds) (hd : Vals dvs ds) (hx : Passes CX X E)
    (ht : eval (.Call (.Attribute o m apos) [] [] pos) X.env = (do
      let ov ← eval o X.env
      standAt apos.atName
      let (g, first) ← holding [ov] (getMethod ov m pl)
      callWith pos g first (backTo pos (starEach [] X.env)) (backToKw pos (keywordEach [] X.env)))) :
    PE X (.Call (.Attribute o m apos) [] [] pos) (tMeth C m sp dvs E ta tNil) := by
  refine ⟨fun pins s σ H Q I h => PySem.W.methodCall_KW (pl := pl) (thn (he.run pins s σ H _ I h) fun u s1 hu => ?_) ht⟩
  obtain ⟨xv, H1, I1, rx, a, dx, fs, ex, ea, l, q⟩ := hu
  subst ex
  cases (show u = Value.ref a from rx)
  exact getmeth_ok I1 ea c hm l (PySem.W.callWith_K0 (first := [.ref a]) I1.kIn hm.kp (run_g (us := [.ref a]) (vs := [.ref a]) F hgu hr hb hd hx I1 (.cons rfl .nil) q))
theorem make_guards {A : Around} {C : Addr} {us : List Value} {kw : List (Str × Value)} (h : A.guards = some []) : (A.under (.builtin "type.__call__" ⟨.ref C :: us, kw⟩)).guards = some [] := by
  have z : (Code.builtin "type.__call__" ⟨.ref C :: us, kw⟩).guards = [] := by
    unfold Code.guards
    rw [if_neg]
    show ¬ guardIds.contains "type.__call__" = true
    decide +kernel
  simp only [Around.under, z, pushGuards, h]
theorem pe_makeG (M : Mk X.K C f) (F : FnG X.prog X.w X.K X.mg X.base CX k f fd ps sp) (hgu : X.A.guards = some []) (hr : Room (k + 1) X.A) (hg : Gl X x) (hm : X.mg x = some (.ref C)) (hb : Binds X.K fd ps ds) (hd : Vals dvs ds) (hx : Passes CX X E)
    (ha : PA X (e :: es) t) (hdb : (x == ("__debug__" : Str)) = false) (he : starEach (e :: es) X.env = (false, eval e X.env) :: starEach es X.env) (hpl : (backTo pos (starEach es X.env)).any (·.1) = false) :
    PE X (.Call (.Name x p) (e :: es) [] pos) (tMake C sp dvs E t) := by
  refine ⟨fun pins s σ H Q I h => wpAny_Call_Name_kw (ld_glob I hg hm (PySem.W.callWith_K (h₀ := X.base) I.ok.mod.kin M.kp (thn (ha.run pos pins s σ H _ I h) fun us s1 hu => ?_) he hpl) hdb)⟩
  obtain ⟨vs, H1, I1, r, q⟩ := hu
  refine ⟨I1.kIn, ?_⟩
  have fr : ∀ b, s1.heap.objs.size ≤ b → H1 b = none := fun b hb => I1.hok.fresh hb
  have hq := q (s1.heap.objs.size + 1) s1.heap.objs.size (fr _ (Nat.le_succ _)) (fr _ (Nat.le_refl _)) (Nat.ne_of_lt (Nat.lt_succ_self _))
  have J := Inv.made (C := C) I1
  have rr : Vals (V.ref (s1.heap.objs.size + 1) :: (vs ++ dvs)) ((Value.ref (s1.heap.objs.size + 1) :: us) ++ ds) := .cons rfl (r.append hd)
  have hl := F.len _ _ _ _ hq
  rw [rr.length] at hl
  refine wpAny_call (make_map (f := f) I1.kIn M.makes M.init (beq_iff_eq.mp M.fn) (codeAny_mono (F.run (make_guards hgu) (hr.make C us []) (J.env0.make C us []) (hb _ (Value.ref (s1.heap.objs.size + 1) :: us) J.kIn hl) rr hq) fun z s2 hz => ?_))
  cases z with
  | error e => exact hx pins σ _ _ e s2 J hz
  | ok fl =>
    cases fl with
    | ret u =>
      obtain ⟨v, H2, J2, rv, ev, q3⟩ := J.after hz
      subst ev
      exact ⟨rv, V.ref (s1.heap.objs.size + 1), H2, J2, rfl, q3⟩
    | next => exact (show False from hz).elim
    | brk => exact (show False from hz).elim
    | cont => exact (show False from hz).elim
end
end Mini

set_option Elab.async false
set_option linter.all false
set_option maxRecDepth 100000
set_option maxHeartbeats 4000000
namespace Mini
open PySem L2
/-- arguments: values that stay, what is lent -/
noncomputable def plainA (as : List Slot) : Prop := ∀ (i : Nat) s, as[i]? = some s → (∃ d, s = .im d) ∨ ∃ d, s = .io d
noncomputable def spF (W : Wd) (F : List Slot → R (D × Bool × List Slot)) : Sp := fun vs H Q _ => ∃ Mo as d o as', plainA as ∧ Rel W Mo as (vs.map some) H ∧ F as = .ok (d, o, as') ∧ ∀ v H', Post W Mo as (vs.map some) H (.v d) o as' v H' → Q v H'
structure Okay (T : Tb) (C : Cb) (n : Nat) (X : Cx) (sc : Scope) : Prop where
  N : X.N = T.N
  nd : X.N.Nodup
  sc : X.env.scope = sc
  calm : X.calm = true
  K : X.K = T.W.K
  room : Room (n + 1) X.A
  gd : X.A.guards = some []
  blt : ∀ x, T.blt.contains x = true → X.mg x = none
  gcd : T.gcd = true → X.mg "gcd" = some (.builtin "math.gcd")
  kon : ∀ x d, T.kon x = some d → ∃ u v, X.mg x = some u ∧ RelV v u ∧ ∀ H M, Den T.W H M d v
  att : ∀ f, T.na f = true → (∀ b, T.W.att b = T.W.att f → b = f) ∧ ∀ c A, T.W.cls c = some A → Cls X.K A ∧ NoAttr X.K A (T.W.att f)
  call : ∀ x f, T.fn x = some f → ∃ a fd ps, X.mg x = some (.ref a) ∧ PySem.W.keepIn X.K (.ref a) = true ∧ Binds X.K fd ps [] ∧ FnG X.prog X.w X.K X.mg X.base CX0 n a fd ps (spF T.W (C.call f))
  make : ∀ x c f, T.cl x = some c → C.init c = some f → ∃ A a fd ps, T.W.cls c = some A ∧ Mk X.K A a ∧ X.mg x = some (.ref A) ∧ Binds X.K fd ps [] ∧ FnG X.prog X.w X.K X.mg X.base CX0 n a fd ps (spF T.W (C.call f))
  isown : ∀ x c, T.cl x = some c → ∃ A, X.mg x = some (.ref A) ∧ (∀ t ∈ ["NoneType", "bool", "int", "str", "list", "tuple"], PySem.W.kitOne X.K (.type t) (.ref A) = some false) ∧ ∀ c' A', T.W.cls c' = some A' → Cls X.K A' ∧ PySem.W.findIn X.K (.ref A') "__class__" = some (some (.builtin "object.__class__")) ∧
    PySem.W.specialIn X.K (.builtin "object.__class__") "__get__" = some (some (.builtin "getset_descriptor.__get__")) ∧ PySem.W.takesIn X.K (.builtin "object.__class__") = some true ∧ PySem.W.mroIn X.K A' (.type "object") = some true ∧ PySem.W.kitOne X.K (.ref A') (.ref A) = some (C.isa c' c)
  speq : ∀ c f, C.sp c 0 = some f → ∃ A a fd ps, T.W.cls c = some A ∧ PySem.W.findIn X.K (.ref A) "__eq__" = some (some (.ref a)) ∧ PySem.W.isFn X.K (.ref a) = true ∧ PySem.W.findIn X.K (.ref A) "__ne__" = some (some (.builtin "object.__ne__")) ∧ PySem.W.mroIn X.K A (.type "object") = some true ∧ Binds X.K fd ps [] ∧ FnG X.prog X.w X.K X.mg X.base CX0 n a fd ps (spF T.W (C.call f))
  meth : ∀ m c f, T.nm m = true → C.meth m = some (c, f) → (∀ b, b < 500 → 500 ≤ m → T.W.att b ≠ T.W.att m) ∧ ∃ A a fd ps, T.W.cls c = some A ∧ Cls X.K A ∧ Meth X.K A (T.W.att m) a ∧ Binds X.K fd ps [] ∧ FnG X.prog X.w X.K X.mg X.base CX0 n a fd ps (spF T.W (C.call f))
  dcal : ∀ x f, T.dfn x = some f → ∃ a fd ps, X.mg x = some (.ref a) ∧ PySem.W.keepIn X.K (.ref a) = true ∧ Binds X.K fd ps [.none] ∧ FnG X.prog X.w X.K X.mg X.base CX0 n a fd ps (spF T.W (C.call f))
section
variable {T : Tb} {C : Cb} {n : Nat} {X : Cx} {sc : Scope}
theorem Okay.hu (o : Okay T C n X sc) : X.A.units + 65 < cLine := by
  have := o.room.un
  omega
theorem vis_of (o : Okay T C n X sc) {x : Str} (h : isVis sc x = true) : Vis X.env.scope x := by
  rw [o.sc]
  unfold isVis at h
  unfold Vis
  split at h <;> first | (rename_i e; simp [e]; done) | cases h
theorem gl_of (o : Okay T C n X sc) {x : Str} (h : isGl sc x = true) : Gl X x := by
  unfold isGl at h
  show X.env.scope.names.lookup x = _
  rw [o.sc]
  split at h
  · assumption
  · cases h
/-- what is to be shown of a term of the syntax -/
structure Snd (T : Tb) (C : Cb) (c : E) (n : Nat) (X : Cx) (sc : Scope) : Prop where
  e : ∀ e, chk T sc c e = true → PE X e (tE T.W (ev C c))
  t : ∀ e, chk T sc c e = true → PT X e (tT T.W fun σ => tst (ev C c σ))
  o : ∀ es, chkL T sc c es = true → PA X es (tO T.W (evO C c))
  w : ∀ es, chkL T sc c es = true → PA X es (tW T.W (evW C c))
  an : ∀ e es pos, chkL T sc c (e :: es) = true → PE X (.BoolOp .And (e :: es) pos) (tE T.W (evAnd C c)) ∧ PW X (.BoolOp .And (e :: es) pos) (tT T.W fun σ => tst (evAnd C c σ))
  or : ∀ e es pos, chkL T sc c (e :: es) = true → PE X (.BoolOp .Or (e :: es) pos) (tE T.W (evOr C c)) ∧ PW X (.BoolOp .Or (e :: es) pos) (tT T.W fun σ => tst (evOr C c σ))
  p : ∀ e, chkP T sc c e = true → PO X e (fun σV H Q => ∃ Mo σ i σ', Rel T.W Mo σ σV H ∧ evP C c σ = .ok (i, σ') ∧ ∀ H', Post T.W Mo σ σV H (.v .non) false σ' .non H' → Q i H')
theorem tst_inv {r : Res} {b : Bool} {σ' : Fm} (h : tst r = .ok (b, σ')) : ∃ x o d, r = .ok (x, o, σ') ∧ rd σ' x = .ok d ∧ truth d = .ok b := by
  unfold tst at h
  obtain ⟨⟨x, o, σ1⟩, h1, h⟩ := bind_inv h
  obtain ⟨d, h2, h⟩ := bind_inv h
  obtain ⟨b', h3, h⟩ := bind_inv h
  cases h
  exact ⟨x, o, d, h1, h2, h3⟩
theorem val_inv {r : Res} {d : D} {σ' : Fm} (h : val r = .ok (d, σ')) : ∃ x o, r = .ok (x, o, σ') ∧ rd σ' x = .ok d := by
  unfold val at h
  obtain ⟨⟨x, o, σ1⟩, h1, h⟩ := bind_inv h
  obtain ⟨d', h2, h⟩ := bind_inv h
  cases h
  exact ⟨x, o, h1, h2⟩
theorem Post.bare {W : Wd} {Mo : Zone} {σ : Fm} {σV : L2.St} {H : Hp} {x : Opd} {o : Bool} {σ' : Fm} {v : V} {H' : Hp} (p : Post W Mo σ σV H x o σ' v H') : Post W Mo σ σV H (.v .non) false σ' .non H' :=
  ⟨p.fr, p.dm, p.mm, p.wm, p.ios, p.rel, .non, fun z => nomatch z⟩
/-- an expression whose truth is asked -/
theorem pt_of (o : Okay T C n X sc) {e : Expr} {r : Fm → Res} (h : PE X e (tE T.W r)) (he : ∀ whole, isTrue e X.env whole = (do let v ← whole; standAt e.pos; holding [v] (truthy v))) :
    PT X e (tT T.W fun σ => tst (r σ)) := by
  refine PT.weak (pt_truth h he) fun σV H Q q => ?_
  obtain ⟨Mo, σ, b, σ', hr, hs, k⟩ := q
  obtain ⟨x, o', d, h1, h2, h3⟩ := tst_inv hs
  exact ⟨Mo, σ, x, o', σ', hr, h1, fun v H' p => ⟨b, truV_of o.K (p.val.rd p.rel h2) h3, k _ p.bare⟩⟩
theorem snd_var (o : Okay T C n X sc) {i : Nat} {e : Expr} (h : chk T sc (.var i) e = true) : PE X e (tE T.W (ev C (.var i))) := by
  cases e <;> simp only [chk, Bool.false_eq_true, Bool.and_eq_true, decide_eq_true_eq, Bool.not_eq_true'] at h
  refine PE.weak (pe_var (i := i) (by rw [o.N]; exact h.1.1.1) (vis_of o h.1.1.2) h.1.2 h.2) fun σV H Q q => ?_
  obtain ⟨Mo, σ, x, ow, σ', hr, hs, k⟩ := q
  obtain ⟨v, hv, p⟩ := post_var (y := .bad) hr C hs
  exact ⟨v, hv, k v H p⟩
theorem tE_lit {d : D} {v : V} {σV : L2.St} {H : Hp} {Q : VK} (hd : ∀ M, Den T.W H M d v) (q : tE T.W (ev C (.lit d)) σV H Q) : tC v σV H Q := by
  obtain ⟨Mo, σ, x, ow, σ', hr, hs, k⟩ := q
  unfold ev at hs
  cases hs
  exact k v H (.refl hr (hd _))
theorem litD_eq {d e : D} (h : litD d e = true) : d = e := by
  cases d <;> cases e <;> simp [litD] at h <;> first | rfl | (subst h; rfl)
theorem snd_lit (o : Okay T C n X sc) {d : D} {e : Expr} (h : chk T sc (.lit d) e = true) : PE X e (tE T.W (ev C (.lit d))) := by
  cases e with
  | Constant c k pos =>
    simp only [chk] at h
    cases d <;> cases c <;> simp [litC] at h
    · exact PE.weak pe_non fun σV H Q q => tE_lit (fun M => .non) q
    · subst h; exact PE.weak pe_bl fun σV H Q q => tE_lit (fun M => .bl _) q
    · subst h; exact PE.weak pe_int fun σV H Q q => tE_lit (fun M => .int _) q
    · subst h; exact PE.weak pe_str fun σV H Q q => tE_lit (fun M => .str _) q
  | Name x pos =>
    simp only [chk, Bool.and_eq_true, Bool.not_eq_true'] at h
    obtain ⟨⟨h1, h2⟩, h3⟩ := h
    cases q : T.kon x with
    | none => rw [q] at h3; cases h3
    | some e =>
      rw [q] at h3
      have e1 := litD_eq h3
      subst e1
      obtain ⟨u, v, hm, hr, hd⟩ := o.kon x d q
      exact PE.weak (pe_glob (gl_of o h1) hm hr h2) fun σV H Q q => tE_lit (fun M => hd H M) q
  | _ => simp [chk] at h
/-- two expressions, then an operation on what they are -/
theorem tE_two {r1 r2 : Fm → Res} {f : D → D → Fm → Res} {rr : R2} (op : ∀ {M : Zone} {d e : D} {x y : V} {H : Hp} {σ' : Fm} {z : Opd} {o : Bool} {σ'' : Fm} {Q : VK}, Trk M H → DenW T.W H M d x → DenW T.W H M e y → f d e σ' = .ok (z, o, σ'') →
      (∀ g o v H', z = .v g → σ'' = σ' → New T.W M H g o v H' → (f d e σ' = .ok (.v g, o, σ')) → Q v H') → rr x y H Q)
    {σV : L2.St} {H : Hp} {Q : VK} (q : tE T.W (fun σ => (r1 σ).bind fun x => (r2 x.2.2).bind fun y => (rd y.2.2 x.1).bind fun d => (rd y.2.2 y.1).bind fun e => f d e y.2.2) σV H Q) :
    tOp rr (tE T.W r1) (tE T.W r2) σV H Q := by
  obtain ⟨Mo, σ, x, ow, σ', hr, hs, k⟩ := q
  obtain ⟨⟨x1, o1, σ1⟩, h1, hs⟩ := bind_inv hs
  obtain ⟨⟨x2, o2, σ2⟩, h2, hs⟩ := bind_inv hs
  obtain ⟨d, h3, hs⟩ := bind_inv hs
  obtain ⟨e, h4, hs⟩ := bind_inv hs
  refine ⟨Mo, σ, x1, o1, σ1, hr, h1, fun v1 H1 p1 => ⟨Mo, σ1, x2, o2, σ2, p1.rel, h2, fun v2 H2 p2 => ?_⟩⟩
  refine op (M := Mu Mo σ2 σV) (fun a z => p2.rel.mu_tr z) ((p1.val.step p2).rd p2.rel h3) (p2.val.rd p2.rel h4) hs fun g o v H' ez es nw hf => ?_
  subst ez es
  have e1 : ow = o := by
    have q := hs.symm.trans hf
    cases q
    rfl
  subst e1
  exact k v H' ((p1.trans p2).new nw)
theorem asD_inv {σ σ' : Fm} {r : R (D × Bool)} {z : Opd} {o : Bool} (h : asD σ r = .ok (z, o, σ')) : ∃ g, r = .ok (g, o) ∧ z = .v g ∧ σ' = σ := by
  unfold asD at h
  obtain ⟨⟨g, o1⟩, h1, h⟩ := bind_inv h
  cases h
  exact ⟨g, h1, rfl, rfl⟩
theorem asB_inv {σ σ' : Fm} {r : R Bool} {z : Opd} {o : Bool} (h : asB σ r = .ok (z, o, σ')) : ∃ b, r = .ok b ∧ z = .v (.bl b) ∧ o = false ∧ σ' = σ := by
  unfold asB at h
  obtain ⟨b, h1, h⟩ := bind_inv h
  cases h
  exact ⟨b, h1, rfl, rfl, rfl⟩
theorem snd_bin (o : Okay T C n X sc) {op : Operator} {a b : E} (ha : Snd T C a n X sc) (hb : Snd T C b n X sc) {e : Expr} (h : chk T sc (.bin op a b) e = true) : PE X e (tE T.W (ev C (.bin op a b))) := by
  cases e <;> simp only [chk, Bool.false_eq_true, Bool.and_eq_true, decide_eq_true_eq] at h
  obtain ⟨⟨rfl, h1⟩, h2⟩ := h
  refine PE.weak (pe_op (opR_bin o.K op) (ha.e _ h1) (hb.e _ h2)) fun σV H Q q => ?_
  refine tE_two (r1 := ev C a) (r2 := ev C b) (f := fun d e σ => asD σ (binop op d e)) (fun {M d e x y H σ' z ow σ'' Q} tr hd he hf k => ?_) q
  obtain ⟨g, h1, rfl, rfl⟩ := asD_inv hf
  exact ⟨M, d, e, g, ow, tr, hd, he, h1, fun v H' nw => k g ow v H' rfl rfl nw hf⟩
theorem snd_cmp (o : Okay T C n X sc) {op : CmpOp} {a b : E} (ha : Snd T C a n X sc) (hb : Snd T C b n X sc) {e : Expr} (h : chk T sc (.cmp op a b) e = true) :
    PE X e (tE T.W (ev C (.cmp op a b))) ∧ PT X e (tT T.W fun σ => tst (ev C (.cmp op a b) σ)) := by
  cases e with
  | Compare x ops ys pos =>
    match ops, ys, h with
    | [op'], [y], h =>
      simp only [chk, Bool.and_eq_true, decide_eq_true_eq] at h
      obtain ⟨⟨⟨rfl, h0⟩, h1⟩, h2⟩ := h
      have hm : behindInMarks op y = false := mark_plain (chk_plain h2)
      constructor
      · refine PE.weak (pe_cmpR (opR_cmp o.K (by have := o.hu; omega) op) (ha.e _ h1) (hb.e _ h2) hm) fun σV H Q q => ?_
        refine tE_two (r1 := ev C a) (r2 := ev C b) (f := fun d e σ => asB σ (cmpop op d e)) (fun {M d e x y H σ' z ow σ'' Q} tr hd he hf k => ?_) q
        obtain ⟨b, h1, rfl, rfl, rfl⟩ := asB_inv hf
        exact ⟨M, d, e, b, hd, he, h1, k _ _ _ _ rfl rfl (.same (.bl b)) hf⟩
      · refine PT.weak (pt_cmpR (opR_cmp o.K (by have := o.hu; omega) op) (ha.e _ h1) (hb.e _ h2) hm) fun σV H Q q => ?_
        obtain ⟨Mo, σ, b', σ', hr, hs, k⟩ := q
        obtain ⟨x, ow, d, g1, g2, g3⟩ := tst_inv hs
        have q : tE T.W (ev C (.cmp op a b)) σV H (fun v H' => ∃ k', v = .bl k' ∧ Q k' H') := by
          refine ⟨Mo, σ, x, ow, σ', hr, g1, fun v H' p => ?_⟩
          have g1' : ((ev C a σ).bind fun x => (ev C b x.2.2).bind fun y => (rd y.2.2 x.1).bind fun d => (rd y.2.2 y.1).bind fun e => asB y.2.2 (cmpop op d e)) = .ok (x, ow, σ') := g1
          obtain ⟨_, _, g1'⟩ := bind_inv g1'
          obtain ⟨_, _, g1'⟩ := bind_inv g1'
          obtain ⟨_, _, g1'⟩ := bind_inv g1'
          obtain ⟨_, _, g1'⟩ := bind_inv g1'
          obtain ⟨b2, _, rfl, rfl, _⟩ := asB_inv g1'
          cases g2
          cases g3
          have hv : Den T.W H' (Mu Mo σ' σV) (.bl b') v := p.val
          cases hv
          exact ⟨b', rfl, k H' p.bare⟩
        refine tE_two (r1 := ev C a) (r2 := ev C b) (f := fun d e σ => asB σ (cmpop op d e)) (fun {M d e x y H σ' z ow σ'' Q} tr hd he hf k => ?_) q
        obtain ⟨b, h1, rfl, rfl, rfl⟩ := asB_inv hf
        exact ⟨M, d, e, b, hd, he, h1, k _ _ _ _ rfl rfl (.same (.bl b)) hf⟩
  | _ => simp [chk] at h
end
end Mini

set_option Elab.async false
set_option linter.all false
set_option maxRecDepth 100000
set_option maxHeartbeats 4000000
namespace Mini
open PySem L2
section
variable {T : Tb} {C : Cb} {n : Nat} {X : Cx} {sc : Scope}
theorem snd_neg (o : Okay T C n X sc) {a : E} (ha : Snd T C a n X sc) {e : Expr} (h : chk T sc (.neg a) e = true) : PE X e (tE T.W (ev C (.neg a))) := by
  cases e with
  | UnaryOp op x pos =>
    cases op <;> simp only [chk, Bool.false_eq_true] at h
    refine PE.weak (pe_un un_neg (ha.e _ h)) fun σV H Q q => ?_
    obtain ⟨Mo, σ, x, ow, σ', hr, hs, k⟩ := q
    have hs : ((ev C a σ).bind fun x => (rd x.2.2 x.1).bind fun d => match d with | .int i => .ok (.v (.int (-i)), false, x.2.2) | _ => .bad) = .ok (x, ow, σ') := hs
    obtain ⟨⟨x1, o1, σ1⟩, h1, hs⟩ := bind_inv hs
    obtain ⟨d, h2, hs⟩ := bind_inv hs
    refine ⟨Mo, σ, x1, o1, σ1, hr, h1, fun v1 H1 p1 => ?_⟩
    have hd := p1.val.rd p1.rel h2
    split at hs
    · cases hs
      cases hd.int
      exact ⟨_, rfl, k _ _ (p1.new (.same (.int _)))⟩
    · cases hs
  | _ => simp [chk] at h
theorem snd_not (o : Okay T C n X sc) {a : E} (ha : Snd T C a n X sc) {e : Expr} (h : chk T sc (.not a) e = true) :
    PE X e (tE T.W (ev C (.not a))) ∧ PT X e (tT T.W fun σ => tst (ev C (.not a) σ)) := by
  cases e with
  | UnaryOp op x pos =>
    cases op <;> simp only [chk, Bool.false_eq_true] at h
    constructor
    · refine PE.weak (pe_notT (ha.e _ h)) fun σV H Q q => ?_
      obtain ⟨Mo, σ, x, ow, σ', hr, hs, k⟩ := q
      have hs : ((tst (ev C a σ)).bind fun x => .ok (.v (.bl (!x.1)), false, x.2)) = R.ok (x, ow, σ') := hs
      obtain ⟨⟨b, σ1⟩, h1, hs⟩ := bind_inv hs
      cases hs
      obtain ⟨x, o', d, h1, h2, h3⟩ := tst_inv h1
      refine ⟨Mo, σ, x, o', _, hr, h1, fun v1 H1 p1 => ⟨b, truV_of o.K (p1.val.rd p1.rel h2) h3, k _ _ (p1.new (.same (.bl _)))⟩⟩
    · refine PT.weak (pt_not (ha.t _ h)) fun σV H Q q => ?_
      obtain ⟨Mo, σ, b, σ', hr, hs, k⟩ := q
      obtain ⟨x, ow, d, g1, g2, g3⟩ := tst_inv hs
      have g1 : ((tst (ev C a σ)).bind fun x => .ok (.v (.bl (!x.1)), false, x.2)) = R.ok (x, ow, σ') := g1
      obtain ⟨⟨b', σ1⟩, h1, g1⟩ := bind_inv g1
      cases g1
      cases g2
      cases g3
      exact ⟨Mo, σ, b', _, hr, h1, k⟩
  | _ => simp [chk] at h
theorem snd_ife (o : Okay T C n X sc) {t a b : E} (ht : Snd T C t n X sc) (ha : Snd T C a n X sc) (hb : Snd T C b n X sc) {e : Expr} (h : chk T sc (.ife t a b) e = true) : PE X e (tE T.W (ev C (.ife t a b))) := by
  cases e with
  | IfExp p x y pos =>
    simp only [chk, Bool.and_eq_true] at h
    refine PE.weak (pe_ifExp (ht.t _ h.1.1) (ha.e _ h.1.2) (hb.e _ h.2)) fun σV H Q q => ?_
    obtain ⟨Mo, σ, x, ow, σ', hr, hs, k⟩ := q
    have hs : ((tst (ev C t σ)).bind fun x => if x.1 then ev C a x.2 else ev C b x.2) = R.ok (x, ow, σ') := hs
    obtain ⟨⟨b', σ1⟩, h1, hs⟩ := bind_inv hs
    refine ⟨Mo, σ, b', σ1, hr, h1, fun H1 p1 => ?_⟩
    cases b' with
    | true => exact ⟨Mo, σ1, x, ow, σ', p1.rel, hs, fun v H' p2 => k v H' (p1.trans p2)⟩
    | false => exact ⟨Mo, σ1, x, ow, σ', p1.rel, hs, fun v H' p2 => k v H' (p1.trans p2)⟩
  | _ => simp [chk] at h
theorem Post.tup_ {W : Wd} {Mo : Zone} {σ : Fm} {σV : L2.St} {H : Hp} {xs : List (D × Bool)} {σ' : Fm} {vs : List V} {H' : Hp} (p : PostW W Mo σ σV H xs σ' vs H') : DenL W H' (Mu Mo σ' σV) (xs.map (·.1)) vs ∧ Rel W Mo σ' σV H' := by
  have hz : ∀ b, Mu Mo σ' σV b → Zl (Mu Mo σ' σV) (ownsOf xs vs) b := fun b z => .inl z
  have out := p.out
  have val := p.val
  have rel := p.rel
  constructor
  · clear rel
    have gen : ∀ (ys : List (D × Bool)) (us : List V), (∀ q ∈ ownsOf ys us, q ∈ ownsOf xs vs) → All2 (fun x v => match x.2 with
        | false => Den W H' (Zl (Mu Mo σ' σV) (ownsOf xs vs)) x.1 v
        | true => ∃ p, v = .ref p ∧ Own W H' (Zl (Mu Mo σ' σV) (ownsOf xs vs)) p x.1) ys us → DenL W H' (Mu Mo σ' σV) (ys.map (·.1)) us := by
      intro ys
      induction ys with
      | nil => intro us _ h; cases us with | nil => exact .nil | cons _ _ => exact h.elim
      | cons y ys ih =>
        intro us hq h
        cases us with
        | nil => exact h.elim
        | cons u us =>
          obtain ⟨d, o⟩ := y
          cases o with
          | false =>
            refine .cons (Den.step (Mw := Z0) (h.1 : Den W H' _ d u) .refl (fun _ z => z.elim) fun b z => .inl (hz b z)) (ih us (fun q hq' => hq q ?_) h.2)
            unfold ownsOf
            exact hq'
          | true =>
            obtain ⟨q, rfl, ow⟩ := h.1
            have hq0 : q ∈ ownsOf xs vs := hq q (by unfold ownsOf; exact List.mem_cons_self)
            refine .cons ((ow.step (M' := Mu Mo σ' σV) (Mw := Z0) .refl (fun z => z) (fun _ z => z.elim) fun b z => .inl (hz b z)).den (out q hq0).1) (ih us (fun q' hq' => hq q' ?_) h.2)
            unfold ownsOf
            exact List.mem_cons_of_mem _ hq'
    exact gen xs vs (fun q h => h) val
  · have drop : ∀ (ps : List Addr), Rel W (Zl Mo ps) σ' σV H' → Rel W Mo σ' σV H' := fun ps r => by
      have hm : ∀ b, Mu Mo σ' σV b → Mu (Zl Mo ps) σ' σV b ∨ H' b = none := fun b z => .inl (z.elim (fun q => .inl (.inl q)) .inr)
      refine ⟨r.len, fun i d e => ?_, fun i d e => ?_, r.ne, fun a h => r.tr a (.inl h)⟩
      · obtain ⟨v, h1, h2⟩ := r.im i d e
        exact ⟨v, h1, h2.step (Mw := Z0) .refl (fun _ z => z.elim) hm⟩
      · obtain ⟨a, h1, h2, h3⟩ := r.mu i d e
        exact ⟨a, h1, fun z => h2 (.inl z), h3.step (Mw := Z0) .refl (fun z => z) (fun _ z => z.elim) hm⟩
    exact drop _ rel
theorem PostW.new {W : Wd} {Mo : Zone} {σ : Fm} {σV : L2.St} {H : Hp} {xs : List (D × Bool)} {σ' : Fm} {vs : List V} {H' H2 : Hp} {d : D} {o : Bool} {v : V} (p : PostW W Mo σ σV H xs σ' vs H') (nw : New W (Mu Mo σ' σV) H' d o v H2) : Post W Mo σ σV H (.v d) o σ' v H2 := by
  have p' : Post W Mo σ σV H (.v .non) false σ' .non H' := ⟨p.fr, p.dm, p.mm, p.wm, p.ios, (Post.tup_ p).2, .non, fun z => nomatch z⟩
  exact p'.new nw
theorem snd_tup (o : Okay T C n X sc) {l : E} (hl : Snd T C l n X sc) {e : Expr} (h : chk T sc (.tup l) e = true) : PE X e (tE T.W (ev C (.tup l))) := by
  cases e with
  | Tuple es k pos =>
    simp only [chk] at h
    refine PE.weak (pe_tup (hl.w _ h)) fun σV H Q q => ?_
    obtain ⟨Mo, σ, x, ow, σ', hr, hs, k⟩ := q
    have hs : ((evW C l σ).bind fun x => (R.guard (sizeOk x.1.length)).bind fun _ => .ok (.v (.tup (x.1.map (·.1))), false, x.2)) = R.ok (x, ow, σ') := hs
    obtain ⟨⟨xs, σ1⟩, h1, hs⟩ := bind_inv hs
    obtain ⟨hz, hs⟩ := guard_inv hs
    cases hs
    refine ⟨Mo, σ, xs, _, hr, h1, fun vs H' p => ?_⟩
    have hd := Post.tup_ p
    refine ⟨by rw [← hd.1.length, List.length_map]; exact size_ok hz, fun q hq => k _ _ (p.new (.tup hq (fun z => hd.2.mu_tr z hq) hd.1))⟩
  | _ => simp [chk] at h
theorem snd_lst (o : Okay T C n X sc) {l : E} (hl : Snd T C l n X sc) {e : Expr} (h : chk T sc (.lst l) e = true) : PE X e (tE T.W (ev C (.lst l))) := by
  cases e with
  | List es pos =>
    simp only [chk] at h
    refine PE.weak (pe_lst (hl.w _ h)) fun σV H Q q => ?_
    obtain ⟨Mo, σ, x, ow, σ', hr, hs, k⟩ := q
    have hs : ((evW C l σ).bind fun x => (R.guard (sizeOk x.1.length)).bind fun _ => .ok (.v (.lst (x.1.map (·.1))), true, x.2)) = R.ok (x, ow, σ') := hs
    obtain ⟨⟨xs, σ1⟩, h1, hs⟩ := bind_inv hs
    obtain ⟨hz, hs⟩ := guard_inv hs
    cases hs
    refine ⟨Mo, σ, xs, _, hr, h1, fun vs H' p => ?_⟩
    have hd := Post.tup_ p
    refine ⟨by rw [← hd.1.length, List.length_map]; exact size_ok hz, fun q hq => k _ _ (p.new (.lst hq hd.1))⟩
  | _ => simp [chk] at h
theorem snd_idx (o : Okay T C n X sc) {a b : E} (ha : Snd T C a n X sc) (hb : Snd T C b n X sc) {e : Expr} (h : chk T sc (.idx a b) e = true) : PE X e (tE T.W (ev C (.idx a b))) := by
  cases e with
  | Subscript x y pos =>
    simp only [chk, Bool.and_eq_true] at h
    refine PE.weak (pe_ix (ix_itm o.K (by have := o.hu; omega)) (ha.e _ h.1) (hb.e _ h.2) (ix_plain (chk_plain h.2))) fun σV H Q q => ?_
    refine tE_two (r1 := ev C a) (r2 := ev C b) (f := fun d e σ => (item d e).bind fun g => .ok (.v g, false, σ)) (fun {M d e x y H σ' z ow σ'' Q} tr hd he hf k => ?_) q
    obtain ⟨g, h1, hf'⟩ := bind_inv hf
    cases hf'
    exact ⟨M, d, e, g, hd, he, h1, fun v hv => k g false v H rfl rfl (.same hv) hf⟩
  | _ => simp [chk] at h
theorem snd_slc (o : Okay T C n X sc) {a lo hi : E} (ha : Snd T C a n X sc) (h1 : Snd T C lo n X sc) (h2 : Snd T C hi n X sc) {e : Expr} (h : chk T sc (.slc a lo hi) e = true) : PE X e (tE T.W (ev C (.slc a lo hi))) := by
  cases e with
  | Subscript x y pos =>
    cases y with
    | Slice p q st pos2 =>
      cases st with
      | some _ => simp [chk] at h
      | none =>
        simp only [chk, Bool.and_eq_true] at h
        refine PE.weak (pe_slice (sl_slc o.K) (ha.e _ h.1.1) (h1.p _ h.1.2) (h2.p _ h.2)) fun σV H Q q => ?_
        obtain ⟨Mo, σ, x, ow, σ', hr, hs, k⟩ := q
        have hs : ((ev C a σ).bind fun x => (evP C lo x.2.2).bind fun y => (evP C hi y.2).bind fun z => (rd z.2 x.1).bind fun d => asD z.2 (slice d y.1 z.1)) = R.ok (x, ow, σ') := hs
        obtain ⟨⟨x1, o1, σ1⟩, g1, hs⟩ := bind_inv hs
        obtain ⟨⟨i, σ2⟩, g2, hs⟩ := bind_inv hs
        obtain ⟨⟨j, σ3⟩, g3, hs⟩ := bind_inv hs
        obtain ⟨d, g4, hs⟩ := bind_inv hs
        obtain ⟨g, g5, rfl, rfl⟩ := asD_inv hs
        refine ⟨Mo, σ, x1, o1, σ1, hr, g1, fun v1 H1 p1 => ⟨Mo, σ1, i, σ2, p1.rel, g2, fun H2 p2 => ⟨Mo, σ2, j, _, p2.rel, g3, fun H3 p3 => ?_⟩⟩⟩
        exact ⟨_, d, g, ow, fun a z => p3.rel.mu_tr z, ((p1.val.step p2).step p3).rd p3.rel g4, g5, fun v H' nw => k v H' (((p1.trans p2).trans p3).new nw)⟩
    | _ => simp [chk] at h
  | _ => simp [chk] at h
theorem base_of {e : Expr} {n : Str} {env : PySem.Env} {w : Sem Value} (h : noCall e = true) : attributeBase e n env w = w := by
  cases e with
  | Call f args kws pos =>
    cases args with
    | nil => simp [noCall] at h
    | cons a as => cases f <;> rfl
  | _ => rfl
theorem find_den {W : Wd} {H : Hp} {M : Zone} {f : Nat} : ∀ {ns : List Nat} {ds : List D} {fs : List (Str × V)} {g : D}, fs.map (·.1) = ns.map W.att → DenL W H M ds (fs.map (·.2)) → find f ns ds = .ok g →
    (∀ b, W.att b = W.att f → b = f) → ∃ v, fs.lookup (W.att f) = some v ∧ Den W H M g v
  | [], ds, fs, g, _, _, h, _ => by unfold find at h; cases ds <;> cases h
  | n :: ns, [], fs, g, _, _, h, _ => by unfold find at h; cases h
  | n :: ns, d :: ds, [], g, e, _, h, _ => by simp at e
  | n :: ns, d :: ds, (m, v) :: fs, g, e, l, h, inj => by
    rw [List.map_cons, List.map_cons] at e
    injection e with e1 e2
    cases l with
    | cons hd hl =>
      unfold find at h
      have e1 : m = W.att n := e1
      by_cases q : n = f
      · rw [if_pos q] at h
        cases h
        refine ⟨v, ?_, hd⟩
        rw [← q, ← e1]
        simp [List.lookup]
      · rw [if_neg q] at h
        obtain ⟨w, h1, h2⟩ := find_den e2 hl h inj
        refine ⟨w, ?_, h2⟩
        have ne : (W.att f == m) = false := by
          rw [e1]
          exact beq_eq_false_iff_ne.mpr fun z => q (inj _ z.symm)
        simp only [List.lookup, ne]
        exact h1
end
end Mini

set_option Elab.async false
set_option linter.all false
set_option maxRecDepth 100000
set_option maxHeartbeats 4000000
namespace Mini
open PySem L2
section
variable {T : Tb} {C : Cb} {n : Nat} {X : Cx} {sc : Scope}
theorem snd_attr (o : Okay T C n X sc) {a : E} {f : Nat} (ha : Snd T C a n X sc) {e : Expr} (h : chk T sc (.attr a f) e = true) : PE X e (tE T.W (ev C (.attr a f))) := by
  cases e with
  | Attribute x m pos =>
    simp only [chk, Bool.and_eq_true, decide_eq_true_eq] at h
    obtain ⟨⟨⟨rfl, h1⟩, h2⟩, h3⟩ := h
    refine PE.weak (pe_fld (ha.e _ h3) (base_of h2)) fun σV H Q q => ?_
    obtain ⟨Mo, σ, x, ow, σ', hr, hs, k⟩ := q
    have hs : ((ev C a σ).bind fun x => (rd x.2.2 x.1).bind fun d => match d with | .ins _ ns vs => (find f ns vs).bind fun g => .ok (.v g, false, x.2.2) | _ => .bad) = R.ok (x, ow, σ') := hs
    obtain ⟨⟨x1, o1, σ1⟩, g1, hs⟩ := bind_inv hs
    obtain ⟨d, g2, hs⟩ := bind_inv hs
    refine ⟨Mo, σ, x1, o1, σ1, hr, g1, fun v1 H1 p1 => ?_⟩
    have hd := p1.val.rd p1.rel g2
    split at hs
    · rename_i c ns vs
      obtain ⟨g, g3, hs⟩ := bind_inv hs
      cases hs
      obtain ⟨inj, hc⟩ := o.att f h1
      have fin : ∀ {b A dx : Addr} {fs : List (Str × V)}, v1 = .ref b → H1 b = some (.ins A dx fs) → T.W.cls c = some A → fs.map (·.1) = ns.map T.W.att → DenL T.W H1 (Mu Mo σ1 σV) vs (fs.map (·.2)) →
          ∃ a C dx fs v, v1 = .ref a ∧ H1 a = some (.ins C dx fs) ∧ Cls X.K C ∧ NoAttr X.K C (T.W.att f) ∧ fs.lookup (T.W.att f) = some v ∧ Q v H1 := fun {b A dx fs} e1 e2 e3 e4 l => by
        obtain ⟨w, hw, hd⟩ := find_den e4 l g3 inj
        obtain ⟨hcl, hno⟩ := hc c A e3
        exact ⟨b, A, dx, fs, w, e1, e2, hcl, hno, hw, k _ _ (p1.new (.same hd))⟩
      rcases hd with hd | ⟨b, rfl, hd⟩
      · cases hd with
        | ins e m hc hn l => exact fin rfl e hc hn l
      · cases hd with
        | ins e hc hn l => exact fin rfl e hc hn l
    · cases hs
  | _ => simp [chk] at h
/-! ### lists -/
theorem snd_nilO : PA X [] (tO T.W (evO C .nil)) := PA.weak pa_nil fun σV H Q q => by
  obtain ⟨Mo, σ, xs, σ', hr, hs, k⟩ := q
  cases hs
  exact k [] H (.nil hr)
theorem snd_nilW : PA X [] (tW T.W (evW C .nil)) := PA.weak pa_nil fun σV H Q q => by
  obtain ⟨Mo, σ, xs, σ', hr, hs, k⟩ := q
  cases hs
  refine k [] H ⟨.refl, fun _ z => z, fun _ z => z, fun _ z => z, fun _ _ e => e, ?_, List.nodup_nil, fun p hp => absurd hp (by simp [ownsOf]), trivial⟩
  have hm : ∀ b, Mu (Zl Mo (ownsOf [] [])) σ σV b → Mu Mo σ σV b ∨ H b = none := fun b z => by
    rcases z with (z | z) | z
    · exact .inl (.inl z)
    · simp [ownsOf] at z
    · exact .inl (.inr z)
  refine ⟨hr.len, fun i d e => ?_, fun i d e => ?_, hr.ne, fun a h => ?_⟩
  · obtain ⟨v, h1, h2⟩ := hr.im i d e
    exact ⟨v, h1, h2.step (Mw := Z0) .refl (fun _ z => z.elim) hm⟩
  · obtain ⟨a, h1, h2, h3⟩ := hr.mu i d e
    refine ⟨a, h1, fun z => ?_, h3.step (Mw := Z0) .refl (fun z => z) (fun _ z => z.elim) hm⟩
    rcases z with z | z
    · exact h2 z
    · simp [ownsOf] at z
  · rcases h with h | h
    · exact hr.tr a h
    · simp [ownsOf] at h
theorem snd_consO {a l : E} (ha : Snd T C a n X sc) (hl : Snd T C l n X sc) {es : List Expr} (h : chkL T sc (.cons a l) es = true) : PA X es (tO T.W (evO C (.cons a l))) := by
  cases es with
  | nil => simp [chkL] at h
  | cons e es =>
    simp only [chkL, Bool.and_eq_true] at h
    refine PA.weak (pa_cons (ha.e _ h.1) (hl.o _ h.2) (star_plain (chk_plain h.1))) fun σV H Q q => ?_
    obtain ⟨Mo, σ, xs, σ', hr, hs, k⟩ := q
    have hs : ((ev C a σ).bind fun x => (evO C l x.2.2).bind fun y => .ok (x.1 :: y.1, y.2)) = R.ok (xs, σ') := hs
    obtain ⟨⟨x1, o1, σ1⟩, g1, hs⟩ := bind_inv hs
    obtain ⟨⟨ys, σ2⟩, g2, hs⟩ := bind_inv hs
    cases hs
    exact ⟨Mo, σ, x1, o1, σ1, hr, g1, fun v1 H1 p1 => ⟨Mo, σ1, ys, _, p1.rel, g2, fun vs H2 p2 => k _ _ (PostO.cons p1 p2)⟩⟩
noncomputable def ownZ (Mo : Zone) : Bool → V → Zone
  | true, .ref a => Zp Mo a
  | _, _ => Mo
/-- a new value ahead of others -/
theorem PostW.cons_ {W : Wd} {Mo : Zone} {σ σ1 σ2 : Fm} {σV : L2.St} {H H1 H2 : Hp} {d : D} {ow : Bool} {v : V} {xs : List (D × Bool)} {vs : List V} (p : Post W Mo σ σV H (.v d) ow σ1 v H1)
    (q : PostW W (ownZ Mo ow v) σ1 σV H1 xs σ2 vs H2) : PostW W Mo σ σV H ((d, ow) :: xs) σ2 (v :: vs) H2 := by
  cases ow with
  | false =>
    have q : PostW W Mo σ1 σV H1 xs σ2 vs H2 := q
    have eo : ownsOf ((d, false) :: xs) (v :: vs) = ownsOf xs vs := by simp only [ownsOf]
    refine ⟨p.fr.trans q.fr fun a z => .inl (p.wm a z), fun a z => q.dm a (p.dm a z), fun a z => p.mm a (q.mm a z), fun a z => p.wm a (q.wm a z), fun i b e => q.ios i b (p.ios i b e), by rw [eo]; exact q.rel, by rw [eo]; exact q.nd, fun b hb => ?_, ?_⟩
    · rw [eo] at hb
      exact ⟨(q.out b hb).1, none_back p.dm (q.out b hb).2⟩
    · rw [eo]
      refine ⟨?_, q.val⟩
      have hd : Den W H1 (Mu Mo σ1 σV) d v := p.val
      refine hd.step q.fr (fun _ z => .inr (wrt_le z)) fun b z => ?_
      rcases z with z | z
      · exact .inl (z.elim .inl fun z => .inr (q.mm b z))
      · exact .inr (q.out b z).2
  | true =>
    obtain ⟨a, rfl, na, ow, rl⟩ := p.val
    have q : PostW W (Zp Mo a) σ1 σV H1 xs σ2 vs H2 := q
    have eo : ownsOf ((d, true) :: xs) (.ref a :: vs) = a :: ownsOf xs vs := by simp only [ownsOf]
    have hz : ∀ b, Zl Mo (a :: ownsOf xs vs) b ↔ Zl (Zp Mo a) (ownsOf xs vs) b := fun b => by
      unfold Zl Zp
      simp only [List.mem_cons]
      constructor
      · rintro (z | z | z)
        · exact .inl (.inl z)
        · exact .inl (.inr z)
        · exact .inr z
      · rintro ((z | z) | z)
        · exact .inl z
        · exact .inr (.inl z)
        · exact .inr (.inr z)
    have ez : Zl Mo (a :: ownsOf xs vs) = Zl (Zp Mo a) (ownsOf xs vs) := funext fun b => propext (hz b)
    have hz2 : ∀ b, Zl (Mu Mo σ2 σV) (a :: ownsOf xs vs) b ↔ Zl (Mu (Zp Mo a) σ2 σV) (ownsOf xs vs) b := fun b => by
      unfold Zl Mu Zp
      simp only [List.mem_cons]
      constructor
      · rintro ((z | z) | z | z)
        · exact .inl (.inl (.inl z))
        · exact .inl (.inr z)
        · exact .inl (.inl (.inr z))
        · exact .inr z
      · rintro (((z | z) | z) | z)
        · exact .inl (.inl z)
        · exact .inr (.inl z)
        · exact .inl (.inr z)
        · exact .inr (.inr z)
    have ez2 : Zl (Mu Mo σ2 σV) (a :: ownsOf xs vs) = Zl (Mu (Zp Mo a) σ2 σV) (ownsOf xs vs) := funext fun b => propext (hz2 b)
    refine ⟨p.fr.trans q.fr fun a z => .inl (p.wm a z), fun a z => q.dm a (p.dm a z), fun a z => p.mm a (q.mm a z), fun a z => p.wm a (q.wm a z), fun i b e => q.ios i b (p.ios i b e), by rw [eo, ez]; exact q.rel, ?_, fun b hb => ?_, ?_⟩
    · rw [eo]
      refine List.nodup_cons.mpr ⟨fun z => (q.out a z).1 (.inl (.inr rfl)), q.nd⟩
    · rw [eo] at hb
      rcases List.mem_cons.mp hb with rfl | hb
      · refine ⟨fun z => ?_, p.nw rfl b rfl⟩
        rcases z with z | z
        · exact na (.inl z)
        · exact na (.inr (q.mm b z))
      · refine ⟨fun z => (q.out b hb).1 ?_, none_back p.dm (q.out b hb).2⟩
        rcases z with z | z
        · exact .inl (.inl z)
        · exact .inr z
    · rw [eo, ez2]
      refine ⟨⟨a, rfl, ow.step q.fr (fun z => na (.inr (wrt_le z))) (fun b z => .inl (.inr (wrt_le z))) fun b z => ?_⟩, q.val⟩
      rcases z with ((z | z) | z) | z
      · exact .inl (.inl (.inl z))
      · exact .inl (.inr z)
      · exact .inl (.inl (.inr (q.mm b z)))
      · exact .inr (q.out b z).2
theorem snd_consW {a l : E} (ha : Snd T C a n X sc) (hl : Snd T C l n X sc) {es : List Expr} (h : chkL T sc (.cons a l) es = true) : PA X es (tW T.W (evW C (.cons a l))) := by
  cases es with
  | nil => simp [chkL] at h
  | cons e es =>
    simp only [chkL, Bool.and_eq_true] at h
    refine PA.weak (pa_cons (ha.e _ h.1) (hl.w _ h.2) (star_plain (chk_plain h.1))) fun σV H Q q => ?_
    obtain ⟨Mo, σ, xs, σ', hr, hs, k⟩ := q
    have hs : ((ev C a σ).bind fun x => (fz x).bind fun x => (evW C l x.2.2).bind fun y => .ok ((x.1, x.2.1) :: y.1, y.2)) = R.ok (xs, σ') := hs
    obtain ⟨⟨x1, o1, σ1⟩, g1, hs⟩ := bind_inv hs
    obtain ⟨⟨d, ow, σ1'⟩, g2, hs⟩ := bind_inv hs
    obtain ⟨⟨ys, σ2⟩, g3, hs⟩ := bind_inv hs
    cases hs
    refine ⟨Mo, σ, x1, o1, σ1, hr, g1, fun v1 H1 p1 => ?_⟩
    have p2 := p1.freeze g2
    refine ⟨ownZ Mo ow v1, σ1', ys, _, ?_, g3, fun vs H2 p3 => k _ _ (PostW.cons_ p2 p3)⟩
    cases ow with
    | false => exact p2.rel
    | true =>
      obtain ⟨b, rfl, _, _, rl⟩ := p2.val
      exact rl
end
end Mini

set_option Elab.async false
set_option linter.all false
set_option maxRecDepth 100000
set_option maxHeartbeats 4000000
namespace Mini
open PySem L2
section
variable {T : Tb} {C : Cb} {n : Nat} {X : Cx} {sc : Scope}
theorem snd_nilP : PO X none (fun σV H Q => ∃ Mo σ i σ', Rel T.W Mo σ σV H ∧ evP C .nil σ = .ok (i, σ') ∧ ∀ H', Post T.W Mo σ σV H (.v .non) false σ' .non H' → Q i H') := by
  refine ⟨fun pins s σ H Q I q => po_none.run pins s σ H Q I ?_⟩
  obtain ⟨Mo, σ, i, σ', hr, hs, k⟩ := q
  cases hs
  exact k H (.refl hr .non)
theorem snd_oneP {a : E} (ha : Snd T C a n X sc) {e : Expr} (h : chk T sc a e = true) : PO X (some e) (fun σV H Q => ∃ Mo σ i σ', Rel T.W Mo σ σV H ∧ evP C (.cons a .nil) σ = .ok (i, σ') ∧ ∀ H', Post T.W Mo σ σV H (.v .non) false σ' .non H' → Q i H') := by
  refine ⟨fun pins s σ H Q I q => (po_some (ha.e _ h)).run pins s σ H Q I ?_⟩
  obtain ⟨Mo, σ, i, σ', hr, hs, k⟩ := q
  have hs : ((val (ev C a σ)).bind fun x => match x.1 with | .int i => .ok (some i, x.2) | _ => .bad) = R.ok (i, σ') := hs
  obtain ⟨⟨d, σ1⟩, g1, hs⟩ := bind_inv hs
  obtain ⟨x, ow, g2, g3⟩ := val_inv g1
  refine ⟨Mo, σ, x, ow, σ1, hr, g2, fun v H1 p => ?_⟩
  have hd := p.val.rd p.rel g3
  dsimp only at hs
  split at hs
  · cases hs
    cases hd.int
    exact ⟨_, rfl, k _ p.bare⟩
  · cases hs
theorem tst_of {r : Res} {x : Opd} {o : Bool} {σ' : Fm} {d : D} {b : Bool} (h1 : r = .ok (x, o, σ')) (h2 : rd σ' x = .ok d) (h3 : truth d = .ok b) : tst r = .ok (b, σ') := by
  subst h1
  show (rd σ' x).bind _ = _
  rw [h2]
  show (truth d).bind _ = _
  rw [h3]
  rfl
theorem rest_ne {T : Tb} {sc : Scope} {l : E} {e : Expr} {es : List Expr} (h : chkL T sc l (e :: es) = true) : l ≠ .nil := by
  rintro rfl
  simp [chkL] at h
theorem snd_and {a l : E} (o : Okay T C n X sc) (ha : Snd T C a n X sc) (hl : Snd T C l n X sc) {e : Expr} {es : List Expr} {pos : Pos} (h : chkL T sc (.cons a l) (e :: es) = true) :
    PE X (.BoolOp .And (e :: es) pos) (tE T.W (evAnd C (.cons a l))) ∧ PW X (.BoolOp .And (e :: es) pos) (tT T.W fun σ => tst (evAnd C (.cons a l) σ)) := by
  simp only [chkL, Bool.and_eq_true] at h
  cases es with
  | nil =>
    have e1 : l = .nil := by
      cases l <;> simp [chkL] at h ⊢
    subst e1
    exact ⟨pe_one (ha.e _ h.1), pw_and1 (ha.t _ h.1)⟩
  | cons e' es =>
    have hn := rest_ne h.2
    have ee : ∀ σ, evAnd C (.cons a l) σ = (ev C a σ).bind fun x => (rd x.2.2 x.1).bind fun d => (truth d).bind fun b => if b then evAnd C l x.2.2 else .ok (x.1, false, x.2.2) := fun σ => by
      cases l <;> first | exact absurd rfl hn | rfl
    constructor
    · refine PE.weak (pe_andT (ha.e _ h.1) (hl.an _ _ _ h.2).1) fun σV H Q q => ?_
      obtain ⟨Mo, σ, x, ow, σ', hr, hs, k⟩ := q
      rw [ee] at hs
      obtain ⟨⟨x1, o1, σ1⟩, g1, hs⟩ := bind_inv hs
      obtain ⟨d, g2, hs⟩ := bind_inv hs
      obtain ⟨b, g3, hs⟩ := bind_inv hs
      refine ⟨Mo, σ, x1, o1, σ1, hr, g1, fun v H1 p => ⟨b, truV_of o.K (p.val.rd p.rel g2) g3, ?_⟩⟩
      cases b with
      | true => exact ⟨Mo, σ1, x, ow, σ', p.rel, hs, fun v H' p2 => k v H' (p.trans p2)⟩
      | false =>
        cases hs
        exact k v H1 ⟨p.fr, p.dm, p.mm, p.wm, p.ios, p.rel, p.val.drop, fun z => nomatch z⟩
    · refine ⟨fun wh pins s σ H Q I q => (pw_and (ha.t _ h.1) (hl.an _ _ _ h.2).2).run wh pins s σ H Q I ?_⟩
      obtain ⟨Mo, σ, b, σ', hr, hs, k⟩ := q
      obtain ⟨x, ow, d, g1, g2, g3⟩ := tst_inv hs
      rw [ee] at g1
      obtain ⟨⟨x1, o1, σ1⟩, h1, g1⟩ := bind_inv g1
      obtain ⟨d1, h2, g1⟩ := bind_inv g1
      obtain ⟨b1, h3, g1⟩ := bind_inv g1
      have ht : tst (ev C a σ) = .ok (b1, σ1) := tst_of h1 h2 h3
      refine ⟨Mo, σ, b1, σ1, hr, ht, fun H1 p => ?_⟩
      cases b1 with
      | true =>
        have g1 : evAnd C l σ1 = .ok (x, ow, σ') := g1
        exact ⟨Mo, σ1, b, σ', p.rel, tst_of g1 g2 g3, fun H' p2 => k H' (p.trans p2)⟩
      | false =>
        have g1 : R.ok (x1, false, σ1) = .ok (x, ow, σ') := g1
        cases g1
        rw [h2] at g2
        cases g2
        rw [h3] at g3
        cases g3
        exact k H1 p
theorem snd_or {a l : E} (o : Okay T C n X sc) (ha : Snd T C a n X sc) (hl : Snd T C l n X sc) {e : Expr} {es : List Expr} {pos : Pos} (h : chkL T sc (.cons a l) (e :: es) = true) :
    PE X (.BoolOp .Or (e :: es) pos) (tE T.W (evOr C (.cons a l))) ∧ PW X (.BoolOp .Or (e :: es) pos) (tT T.W fun σ => tst (evOr C (.cons a l) σ)) := by
  simp only [chkL, Bool.and_eq_true] at h
  cases es with
  | nil =>
    have e1 : l = .nil := by
      cases l <;> simp [chkL] at h ⊢
    subst e1
    exact ⟨pe_one (ha.e _ h.1), pw_or1 (ha.t _ h.1)⟩
  | cons e' es =>
    have hn := rest_ne h.2
    have ee : ∀ σ, evOr C (.cons a l) σ = (ev C a σ).bind fun x => (rd x.2.2 x.1).bind fun d => (truth d).bind fun b => if b then .ok (x.1, false, x.2.2) else evOr C l x.2.2 := fun σ => by
      cases l <;> first | exact absurd rfl hn | rfl
    constructor
    · refine PE.weak (pe_orT (ha.e _ h.1) (hl.or _ _ _ h.2).1) fun σV H Q q => ?_
      obtain ⟨Mo, σ, x, ow, σ', hr, hs, k⟩ := q
      rw [ee] at hs
      obtain ⟨⟨x1, o1, σ1⟩, g1, hs⟩ := bind_inv hs
      obtain ⟨d, g2, hs⟩ := bind_inv hs
      obtain ⟨b, g3, hs⟩ := bind_inv hs
      refine ⟨Mo, σ, x1, o1, σ1, hr, g1, fun v H1 p => ⟨b, truV_of o.K (p.val.rd p.rel g2) g3, ?_⟩⟩
      cases b with
      | false => exact ⟨Mo, σ1, x, ow, σ', p.rel, hs, fun v H' p2 => k v H' (p.trans p2)⟩
      | true =>
        cases hs
        exact k v H1 ⟨p.fr, p.dm, p.mm, p.wm, p.ios, p.rel, p.val.drop, fun z => nomatch z⟩
    · refine ⟨fun wh pins s σ H Q I q => (pw_or (ha.t _ h.1) (hl.or _ _ _ h.2).2).run wh pins s σ H Q I ?_⟩
      obtain ⟨Mo, σ, b, σ', hr, hs, k⟩ := q
      obtain ⟨x, ow, d, g1, g2, g3⟩ := tst_inv hs
      rw [ee] at g1
      obtain ⟨⟨x1, o1, σ1⟩, h1, g1⟩ := bind_inv g1
      obtain ⟨d1, h2, g1⟩ := bind_inv g1
      obtain ⟨b1, h3, g1⟩ := bind_inv g1
      have ht : tst (ev C a σ) = .ok (b1, σ1) := tst_of h1 h2 h3
      refine ⟨Mo, σ, b1, σ1, hr, ht, fun H1 p => ?_⟩
      cases b1 with
      | false =>
        have g1 : evOr C l σ1 = .ok (x, ow, σ') := g1
        exact ⟨Mo, σ1, b, σ', p.rel, tst_of g1 g2 g3, fun H' p2 => k H' (p.trans p2)⟩
      | true =>
        have g1 : R.ok (x1, false, σ1) = .ok (x, ow, σ') := g1
        cases g1
        rw [h2] at g2
        cases g2
        rw [h3] at g3
        cases g3
        exact k H1 p
/-! ### built-in functions -/
theorem tB_of {f : List D → R (D × Bool)} {l : E} {σV : L2.St} {H : Hp} {Q : VK} (q : tE T.W (fun σ => (evO C l σ).bind fun x => (rds x.2 x.1).bind fun ds => asD x.2 (f ds)) σV H Q) : tCB (rB T.W f) (tO T.W (evO C l)) σV H Q := by
  obtain ⟨Mo, σ, x, ow, σ', hr, hs, k⟩ := q
  obtain ⟨⟨xs, σ1⟩, g1, hs⟩ := bind_inv hs
  obtain ⟨ds, g2, hs⟩ := bind_inv hs
  obtain ⟨g, g3, rfl, rfl⟩ := asD_inv hs
  exact ⟨Mo, σ, xs, _, hr, g1, fun vs H' p => ⟨_, ds, g, ow, fun a z => p.rel.mu_tr z, rds_den p.rel p.val g2, g3, fun v H' nw => k v H' (p.new nw)⟩⟩
theorem snd_bi (o : Okay T C n X sc) {b : Bi} {l : E} (hl : Snd T C l n X sc) {e : Expr} (h : chk T sc (.bi b l) e = true) : PE X e (tE T.W (ev C (.bi b l))) := by
  cases e with
  | Call f es kws pos =>
    cases f with
    | Name x p =>
      cases kws with
      | cons _ _ => simp [chk] at h
      | nil =>
        simp only [chk, Bool.and_eq_true, decide_eq_true_eq] at h
        obtain ⟨⟨⟨⟨⟨h0, rfl⟩, h1⟩, h2⟩, h3⟩, h4⟩ := h
        cases es with
        | nil => simp at h2
        | cons e es =>
          have he : starEach (e :: es) X.env = (false, eval e X.env) :: starEach es X.env := by
            cases l <;> simp only [chkL, Bool.and_eq_true, Bool.false_eq_true] at h4
            exact star_plain (chk_plain h4.1)
          have hp : (backTo pos (starEach es X.env)).any (·.1) = false := by
            cases l <;> simp only [chkL, Bool.and_eq_true, Bool.false_eq_true] at h4
            exact stars_plain h4.2
          have hg := gl_of o h1
          cases b with
          | gcd => exact PE.weak (pe_callBfun cr_gcdW hg (o.gcd h3) (hl.o _ h4) (by decide) he hp) fun σV H Q q => tB_of q
          | len => exact PE.weak (pe_callB (cr_len o.K) hg (o.blt _ h3) PySem.boot_len (hl.o _ h4) (by decide) (by decide) he hp) fun σV H Q q => tB_of q
          | abs => exact PE.weak (pe_callB cr_abs hg (o.blt _ h3) (by decide +kernel) (hl.o _ h4) (by decide) (by decide) he hp) fun σV H Q q => tB_of q
          | max => exact PE.weak (pe_callB (cr_max o.calm) hg (o.blt _ h3) (by decide +kernel) (hl.o _ h4) (by decide) (by decide) he hp) fun σV H Q q => tB_of q
          | min => exact PE.weak (pe_callB (cr_min o.calm) hg (o.blt _ h3) (by decide +kernel) (hl.o _ h4) (by decide) (by decide) he hp) fun σV H Q q => tB_of q
          | sum => exact PE.weak (pe_callB (cr_sumW o.calm) hg (o.blt _ h3) (by decide +kernel) (hl.o _ h4) (by decide) (by decide) he hp) fun σV H Q q => tB_of q
          | all => exact PE.weak (pe_callB (cr_allW o.calm) hg (o.blt _ h3) (by decide +kernel) (hl.o _ h4) (by decide) (by decide) he hp) fun σV H Q q => tB_of q
          | any => exact PE.weak (pe_callB (cr_anyW o.calm) hg (o.blt _ h3) (by decide +kernel) (hl.o _ h4) (by decide) (by decide) he hp) fun σV H Q q => tB_of q
          | int => exact PE.weak (pe_callTy cr_int hg (o.blt _ h3) (by decide +kernel) (hl.o _ h4) (by decide) (by decide) he hp) fun σV H Q q => tB_of q
          | str => exact PE.weak (pe_callTy cr_str hg (o.blt _ h3) (by decide +kernel) (hl.o _ h4) (by decide) (by decide) he hp) fun σV H Q q => tB_of q
          | list => exact PE.weak (pe_callTy (cr_list o.K) hg (o.blt _ h3) (by decide +kernel) (hl.o _ h4) (by decide) (by decide) he hp) fun σV H Q q => tB_of q
          | tuple => exact PE.weak (pe_callTy cr_tuple hg (o.blt _ h3) (by decide +kernel) (hl.o _ h4) (by decide) (by decide) he hp) fun σV H Q q => tB_of q
          | sorted => exact PE.weak (pe_callB cr_sortedW hg (o.blt _ h3) (by decide +kernel) (hl.o _ h4) (by decide) (by decide) he hp) fun σV H Q q => tB_of q
          | repr => exact PE.weak (pe_callB (cr_repr o.K o.gd (by have := o.hu; omega)) hg (o.blt _ h3) (by decide +kernel) (hl.o _ h4) (by decide) (by decide) he hp) fun σV H Q q => tB_of q
          | bool => simp [biOk] at h0
          | dict => simp [biOk] at h0
    | _ => simp [chk] at h
  | _ => simp [chk] at h
end
end Mini

set_option Elab.async false
set_option linter.all false
set_option maxRecDepth 100000
set_option maxHeartbeats 4000000
namespace Mini
open PySem L2
section
variable {T : Tb} {C : Cb} {n : Nat} {X : Cx} {sc : Scope}
theorem boot_ty (k : Nat) (h : k < 6) : bootBuiltins (Str.ofString (kTy k)) = some (.type (kTy k)) := by
  have six : k = 0 ∨ k = 1 ∨ k = 2 ∨ k = 3 ∨ k = 4 ∨ k = 5 := by omega
  rcases six with rfl | rfl | rfl | rfl | rfl | rfl <;> decide +kernel
theorem ty_ne (k : Nat) (h : k < 6) : Str.ofString (kTy k) ≠ ("__name__" : Str) ∧ (Str.ofString (kTy k) == ("__debug__" : Str)) = false := by
  have six : k = 0 ∨ k = 1 ∨ k = 2 ∨ k = 3 ∨ k = 4 ∨ k = 5 := by omega
  rcases six with rfl | rfl | rfl | rfl | rfl | rfl <;> exact ⟨by decide +kernel, by decide +kernel⟩
theorem snd_isi (o : Okay T C n X sc) {k : Nat} {a : E} (ha : Snd T C a n X sc) {e : Expr} (h : chk T sc (.isi k a) e = true) : PE X e (tE T.W (ev C (.isi k a))) := by
  cases e with
  | Call f es kws pos =>
    cases f with
    | Name x p =>
      match es, kws, h with
      | [e, .Name t p2], [], h =>
        simp only [chk, Bool.and_eq_true, decide_eq_true_eq] at h
        obtain ⟨⟨⟨⟨⟨⟨⟨rfl, h1⟩, h2⟩, h3⟩, rfl⟩, h5⟩, h6⟩, h7⟩ := h
        have pl := chk_plain h7
        have ht : PE X (.Name (Str.ofString (kTy k)) p2) (tC (.ty (kTy k))) := pe_bltn (gl_of o h5) (o.blt _ h6) (boot_ty k h3) rfl (ty_ne k h3).1 (ty_ne k h3).2
        refine PE.weak (pe_callB (cr_is (W := T.W) k) (gl_of o h1) (o.blt _ h2) (by decide +kernel) (pa_cons (ha.e _ h7) (pa_cons ht pa_nil) (star_plain pl)) (by decide) (by decide) (star_plain pl) (by rfl)) fun σV H Q q => ?_
        obtain ⟨Mo, σ, x, ow, σ', hr, hs, kk⟩ := q
        have hs : ((ev C a σ).bind fun x => (rd x.2.2 x.1).bind fun d => asB x.2.2 (isInst k d)) = .ok (x, ow, σ') := hs
        obtain ⟨⟨x1, o1, σ1⟩, g1, hs⟩ := bind_inv hs
        obtain ⟨d, g2, hs⟩ := bind_inv hs
        obtain ⟨b, g3, rfl, rfl, rfl⟩ := asB_inv hs
        exact ⟨Mo, σ, x1, o1, _, hr, g1, fun v H' p => ⟨_, d, v, b, rfl, h3, p.val.rd p.rel g2, g3, kk _ _ (p.new (.same (.bl b)))⟩⟩
      | [], _, h => simp [chk] at h
      | [_], _, h => simp [chk] at h
      | _ :: _ :: _ :: _, _, h => simp [chk] at h
      | [_, _], _ :: _, h => simp [chk] at h
      | [_, .BoolOp _ _ _], [], h | [_, .NamedExpr _ _ _], [], h | [_, .BinOp _ _ _ _], [], h | [_, .UnaryOp _ _ _], [], h | [_, .Lambda _ _ _ _], [], h | [_, .IfExp _ _ _ _], [], h | [_, .Dict _ _ _], [], h | [_, .Set _ _ _], [], h
      | [_, .ListComp _ _ _ _], [], h | [_, .SetComp _ _ _ _], [], h | [_, .DictComp _ _ _ _ _], [], h | [_, .GeneratorExp _ _ _ _], [], h | [_, .Await _ _], [], h | [_, .Yield _ _], [], h | [_, .YieldFrom _ _], [], h | [_, .Compare _ _ _ _], [], h
      | [_, .Call _ _ _ _], [], h | [_, .FormattedValue _ _ _ _], [], h | [_, .JoinedStr _ _], [], h | [_, .Constant _ _ _], [], h | [_, .Attribute _ _ _], [], h | [_, .Subscript _ _ _], [], h | [_, .Starred _ _], [], h | [_, .List _ _], [], h
      | [_, .Tuple _ _ _], [], h | [_, .Slice _ _ _ _], [], h => simp [chk] at h
    | _ => simp [chk] at h
  | _ => simp [chk] at h
/-! ### calls of defs -/
theorem im_slots {ds : List D} {i : Nat} {s : Slot} (h : (ds.map Slot.im)[i]? = some s) : ∃ d, ds[i]? = some d ∧ s = .im d := by
  rw [List.getElem?_map, Option.map_eq_some_iff] at h
  obtain ⟨d, h1, h2⟩ := h
  exact ⟨d, h1, h2.symm⟩
theorem plain_im {ds : List D} : plainA (ds.map Slot.im) := fun i s h => let ⟨d, _, e⟩ := im_slots h; .inl ⟨d, e⟩
theorem plain_io {p : D} {ds : List D} : plainA (.io p :: ds.map Slot.im) := fun i s h => by
  cases i with
  | zero =>
    have e : s = .io p := by simpa using h.symm
    exact .inr ⟨p, e⟩
  | succ i => exact plain_im i s h
theorem muts_im {ds : List D} {σV : L2.St} {a : Addr} : ¬ muts (ds.map Slot.im) σV a := by
  rintro ⟨i, d, ⟨s, h, hd⟩, _⟩
  obtain ⟨e, _, rfl⟩ := im_slots h
  cases hd
/-- the callee's slots where nothing is lent -/
theorem rel_args {W : Wd} {M : Zone} {H : Hp} {ds : List D} {vs : List V} (tr : Trk M H) (l : DenL W H M ds vs) : Rel W M (ds.map .im) (vs.map some) H := by
  have hm : ∀ b, Mu M (ds.map .im) (vs.map some) b → M b ∨ H b = none := fun b z => z.elim .inl fun q => absurd q muts_im
  refine ⟨by rw [List.length_map, List.length_map]; exact l.length, fun i d e => ?_, fun i d e => ?_, fun i j d e a hi => ?_, tr⟩
  · obtain ⟨d', h1, h2⟩ := im_slots e
    cases h2
    obtain ⟨v, h3, h4⟩ := l.get h1
    exact ⟨v, by rw [List.getElem?_map, h3]; rfl, h4.step (Mw := Z0) .refl (fun _ z => z.elim) hm⟩
  · obtain ⟨s, h, hd⟩ := e
    obtain ⟨_, _, rfl⟩ := im_slots h
    cases hd
  · obtain ⟨s, h, hd⟩ := hi
    obtain ⟨_, _, rfl⟩ := im_slots h
    cases hd
theorem new_of {W : Wd} {M : Zone} {H H' : Hp} {ds : List D} {vs : List V} {d : D} {o : Bool} {as' : Fm} {v : V} (p : Post W M (ds.map .im) (vs.map some) H (.v d) o as' v H') : New W M H d o v H' := by
  have hm : ∀ b, ¬ muts as' (vs.map some) b := fun b z => muts_im (p.mm b z)
  refine ⟨fun a u e _ => p.fr.at' e fun z => muts_im (wrt_le z), ?_⟩
  cases o with
  | false => exact Den.step (Mw := Z0) (p.val : Den W H' _ d v) .refl (fun _ z => z.elim) fun b z => .inl (.inl z)
  | true =>
    obtain ⟨q, rfl, nq, ow, rl⟩ := p.val
    exact ⟨q, rfl, p.nw rfl q rfl, ow.step (Mw := Z0) .refl (fun z => z) (fun _ z => z.elim) fun b z => .inl (z.elim (fun z => .inl (.inl z)) .inr)⟩
theorem call_of (o : Okay T C n X sc) {f : Nat} {x : Str} (hf : T.fn x = some f) (hg : isGl sc x = true) (hd : (x == ("__debug__" : Str)) = false) {e : Expr} {es : List Expr} {p pos : Pos} {t : TA} (ha : PA X (e :: es) t)
    (he : starEach (e :: es) X.env = (false, eval e X.env) :: starEach es X.env) (hp : (backTo pos (starEach es X.env)).any (·.1) = false) :
    PE X (.Call (.Name x p) (e :: es) [] pos) (fun σ H Q => t σ H fun vs H1 => spF T.W (C.call f) vs H1 Q E0) := by
  obtain ⟨a, fd, ps, hm, hk, hb, F⟩ := o.call x f hf
  refine PE.weak (pe_callG F o.gd (o.room.mono (Nat.le_succ n)) (gl_of o hg) hm hk hb .nil pass0 ha hd he hp) fun σ H Q q => ?_
  have : (fun (vs : List V) (H1 : Hp) => spF T.W (C.call f) (vs ++ []) H1 Q E0) = fun vs H1 => spF T.W (C.call f) vs H1 Q E0 := by
    funext vs H1
    rw [List.append_nil]
  show t σ H fun vs H1 => spF T.W (C.call f) (vs ++ []) H1 Q E0
  rw [this]
  exact q
/-- what is lent: slot i of the caller, at a, is slot 0 of the callee -/
theorem rel_lent {W : Wd} {Mo : Zone} {σ : Fm} {σV : L2.St} {H : Hp} {i : Nat} {p : D} {a : Addr} {ds : List D} {vs : List V} (r : Rel W Mo σ σV H) (h : Held σ i p) (ha : σV[i]? = some (some (.ref a))) (l : DenL W H (Mu Mo σ σV) ds vs) :
    Rel W (fun b => Mu Mo σ σV b ∧ b ≠ a) (.io p :: ds.map .im) ((V.ref a :: vs).map some) H ∧ ∀ b, muts (.io p :: ds.map .im) ((V.ref a :: vs).map some) b ↔ b = a := by
  have hmu : ∀ b, muts (.io p :: ds.map .im) ((V.ref a :: vs).map some) b ↔ b = a := fun b => by
    constructor
    · rintro ⟨j, d, ⟨s, hj, hd⟩, hv⟩
      cases j with
      | zero =>
        simp at hv
        exact hv.symm
      | succ j =>
        obtain ⟨_, _, rfl⟩ := im_slots (show (ds.map Slot.im)[j]? = some s from hj)
        cases hd
    · rintro rfl
      exact ⟨0, p, ⟨.io p, rfl, rfl⟩, rfl⟩
  have ma : Mu Mo σ σV a := .inr ⟨i, p, h, ha⟩
  have hz : ∀ b, Mu (fun b => Mu Mo σ σV b ∧ b ≠ a) (.io p :: ds.map .im) ((V.ref a :: vs).map some) b → Mu Mo σ σV b ∨ H b = none := fun b z => by
    rcases z with z | z
    · exact .inl z.1
    · rw [(hmu b).mp z]; exact .inl ma
  obtain ⟨a', ea, na, ow⟩ := r.mu i p h
  rw [ha] at ea
  cases ea
  refine ⟨⟨by simp [l.length], fun j d e => ?_, fun j d e => ?_, fun j k d e b hj hk h1 h2 => ?_, fun b z => r.mu_tr z.1⟩, hmu⟩
  · cases j with
    | zero => simp at e
    | succ j =>
      obtain ⟨d', h1, h2⟩ := im_slots (show (ds.map Slot.im)[j]? = some _ from e)
      cases h2
      obtain ⟨v, h3, h4⟩ := l.get h1
      exact ⟨v, by simpa using h3, h4.step (Mw := Z0) .refl (fun _ z => z.elim) hz⟩
  · obtain ⟨s, hj, hd⟩ := e
    cases j with
    | zero =>
      have e1 : s = .io p := by simpa using hj.symm
      subst e1
      cases hd
      exact ⟨a, rfl, fun z => z.2 rfl, ow.step (Mw := Z0) .refl (fun z => z) (fun _ z => z.elim) hz⟩
    | succ j =>
      obtain ⟨_, _, rfl⟩ := im_slots (show (ds.map Slot.im)[j]? = some s from hj)
      cases hd
  · have zero : ∀ {j : Nat} {d : D}, Held (.io p :: ds.map .im) j d → j = 0 := fun {j d} hj => by
      obtain ⟨s, hj, hd⟩ := hj
      cases j with
      | zero => rfl
      | succ j =>
        obtain ⟨_, _, rfl⟩ := im_slots (show (ds.map Slot.im)[j]? = some s from hj)
        cases hd
    rw [zero hj, zero hk]
/-- behind the call -/
theorem post_lent {W : Wd} {Mo : Zone} {σ : Fm} {σV : L2.St} {H H' : Hp} {i : Nat} {p p' : D} {a : Addr} {ds : List D} {vs : List V} {d : D} {o : Bool} {v : V} {as' : Fm} {s s' : Slot} (r : Rel W Mo σ σV H) (hs : σ[i]? = some s) (hw : s.wr = some p) (hw' : s'.wr = some p')
    (hio : ∀ c, s.pin = some c → s'.pin = some c) (ha : σV[i]? = some (some (.ref a))) (l : DenL W H (Mu Mo σ σV) ds vs)
    (q : Post W (fun b => Mu Mo σ σV b ∧ b ≠ a) (.io p :: ds.map .im) ((V.ref a :: vs).map some) H (.v d) o (.io p' :: as') v H') : Post W Mo σ σV H (.v d) o (σ.set i s') v H' := by
  have h := wr_held hw
  have h' := wr_held hw'
  have hh : Held σ i p := ⟨s, hs, h⟩
  have hi := lt_of_some hs
  obtain ⟨r0, hmu⟩ := rel_lent r hh ha l
  have fa : Fr (fun b => b = a) H H' := q.fr.mono fun b z => (hmu b).mp (wrt_le z)
  have ma : Mu Mo σ σV a := .inr ⟨i, p, hh, ha⟩
  have hm' : ∀ b, muts (.io p' :: as') ((V.ref a :: vs).map some) b → b = a := fun b z => (hmu b).mp (q.mm b z)
  have hset : ∀ b, muts (σ.set i s') σV b ↔ muts σ σV b := fun b => muts_set hh h'
  have own' : ∀ {Mq : Zone}, Rel W Mq (.io p' :: as') ((V.ref a :: vs).map some) H' → Own W H' (Mu Mq (.io p' :: as') ((V.ref a :: vs).map some)) a p' := fun {Mq} rq => by
    obtain ⟨b, e, _, ow⟩ := rq.mu 0 p' ⟨_, rfl, rfl⟩
    have e' : b = a := by simpa using e.symm
    rw [e'] at ow
    exact ow
  have tr : ∀ b, Mo b → H' b ≠ none := fun b z => q.dm b (r.tr b z)
  have rel : Rel W Mo (σ.set i s') σV H' := r.upd hh h' ha fa q.dm (fun b z => z) (fun b z => .inl z) tr ((own' q.rel).step (Mw := Z0) .refl (fun z => z) (fun _ z => z.elim) fun b z => by
    by_cases e : b = a
    · rw [e]; exact .inl (.inr ⟨0, p', ⟨_, rfl, rfl⟩, rfl⟩)
    · exact .inl (.inl ⟨z, e⟩))
  refine ⟨fa.mono fun b e => by rw [show b = a from e]; exact ⟨i, s, p, hs, hw, ha⟩, q.dm, fun b z => (hset b).mp z, fun b z => (wrt_set hs hw hw').mp z, fun j b ej => ej.set hs hio, rel, ?_, q.nw⟩
  · have hz : ∀ b, Mu Mo (σ.set i s') σV b → Mu (fun b => Mu Mo σ σV b ∧ b ≠ a) (.io p' :: as') ((V.ref a :: vs).map some) b := fun b z => by
      have z : Mu Mo σ σV b := z.elim .inl fun z => .inr ((hset b).mp z)
      by_cases e : b = a
      · rw [e]; exact .inr ⟨0, p', ⟨_, rfl, rfl⟩, rfl⟩
      · exact .inl ⟨z, e⟩
    cases o with
    | false => exact Den.step (Mw := Z0) (q.val : Den W H' _ d v) .refl (fun _ z => z.elim) fun b z => .inl (hz b z)
    | true =>
      obtain ⟨t, rfl, nt, ow, rl⟩ := q.val
      have ht : H t = none := q.nw rfl t rfl
      have hta : t ≠ a := fun e => r.mu_tr ma (by rw [← e]; exact ht)
      refine ⟨t, rfl, fun z => nt (hz t z), ow.step (Mw := Z0) .refl (fun z => z) (fun _ z => z.elim) fun b z => .inl (z.elim (fun z => .inl (hz b z)) .inr), ?_⟩
      refine r.upd hh h' ha fa q.dm (fun b z => .inl z) (fun b z => z.elim .inl fun e => .inr (by rw [e]; exact ht)) (fun b z => z.elim (tr b) fun e => by rw [e]; exact ow.some) ((own' rl).step (Mw := Z0) .refl (fun z => z) (fun _ z => z.elim) fun b z => ?_)
      by_cases e : b = a
      · rw [e]; exact .inl (.inr ⟨0, p', ⟨_, rfl, rfl⟩, rfl⟩)
      · rcases z with (z | z) | z
        · exact .inl (.inl (.inl ⟨.inl z, e⟩))
        · rw [z]; exact .inl (.inl (.inr rfl))
        · exact .inl (.inl (.inl ⟨.inr z, e⟩))
end
end Mini

set_option Elab.async false
set_option linter.all false
set_option maxRecDepth 100000
set_option maxHeartbeats 4000000
namespace Mini
open PySem L2
section
variable {T : Tb} {C : Cb} {n : Nat} {X : Cx} {sc : Scope}
theorem asV_inv {σ' : Fm} {r : R (D × Bool × Fm)} {z : Opd} {o : Bool} (h : asV r = .ok (z, o, σ')) : ∃ g, r = .ok (g, o, σ') ∧ z = .v g := by
  unfold asV at h
  obtain ⟨⟨g, o1, σ1⟩, h1, h⟩ := bind_inv h
  cases h
  exact ⟨g, h1, rfl⟩
theorem es_head {T : Tb} {sc : Scope} {a m : E} {es : List Expr} (h : chkL T sc (.cons a m) es = true) : ∃ e es', es = e :: es' ∧ chk T sc a e = true ∧ chkL T sc m es' = true := by
  cases es with
  | nil => simp [chkL] at h
  | cons e es =>
    simp only [chkL, Bool.and_eq_true] at h
    exact ⟨e, es, rfl, h.1, h.2⟩
theorem PostW.post {W : Wd} {Mo : Zone} {σ : Fm} {σV : L2.St} {H : Hp} {xs : List (D × Bool)} {σ' : Fm} {vs : List V} {H' : Hp} (p : PostW W Mo σ σV H xs σ' vs H') : Post W Mo σ σV H (.v .non) false σ' .non H' :=
  ⟨p.fr, p.dm, p.mm, p.wm, p.ios, (Post.tup_ p).2, .non, fun z => nomatch z⟩
/-- a new list, lent at once -/
theorem rel_fresh {W : Wd} {M : Zone} {H : Hp} {p : D} {b : Addr} {ds : List D} {vs : List V} (tr : Trk M H) (nb : ¬ M b) (ow : Own W H (Zp M b) b p) (l : DenL W H (Zp M b) ds vs) :
    Rel W M (.io p :: ds.map .im) ((V.ref b :: vs).map some) H ∧ ∀ c, muts (.io p :: ds.map .im) ((V.ref b :: vs).map some) c ↔ c = b := by
  have hmu : ∀ c, muts (.io p :: ds.map .im) ((V.ref b :: vs).map some) c ↔ c = b := fun c => by
    constructor
    · rintro ⟨j, d, ⟨s, hj, hd⟩, hv⟩
      cases j with
      | zero =>
        simp at hv
        exact hv.symm
      | succ j =>
        obtain ⟨_, _, rfl⟩ := im_slots (show (ds.map Slot.im)[j]? = some s from hj)
        cases hd
    · rintro rfl
      exact ⟨0, p, ⟨.io p, rfl, rfl⟩, rfl⟩
  have hz : ∀ c, Mu M (.io p :: ds.map .im) ((V.ref b :: vs).map some) c → Zp M b c ∨ H c = none := fun c z => by
    rcases z with z | z
    · exact .inl (.inl z)
    · exact .inl (.inr ((hmu c).mp z))
  refine ⟨⟨by simp [l.length], fun j d e => ?_, fun j d e => ?_, fun j k d e c hj hk h1 h2 => ?_, tr⟩, hmu⟩
  · cases j with
    | zero => simp at e
    | succ j =>
      obtain ⟨d', h1, h2⟩ := im_slots (show (ds.map Slot.im)[j]? = some _ from e)
      cases h2
      obtain ⟨v, h3, h4⟩ := l.get h1
      exact ⟨v, by simpa using h3, h4.step (Mw := Z0) .refl (fun _ z => z.elim) hz⟩
  · obtain ⟨s, hj, hd⟩ := e
    cases j with
    | zero =>
      have e1 : s = .io p := by simpa using hj.symm
      subst e1
      cases hd
      exact ⟨b, rfl, nb, ow.step (Mw := Z0) .refl (fun z => z) (fun _ z => z.elim) hz⟩
    | succ j =>
      obtain ⟨_, _, rfl⟩ := im_slots (show (ds.map Slot.im)[j]? = some s from hj)
      cases hd
  · have zero : ∀ {j : Nat} {d : D}, Held (.io p :: ds.map .im) j d → j = 0 := fun {j d} hj => by
      obtain ⟨s, hj, hd⟩ := hj
      cases j with
      | zero => rfl
      | succ j =>
        obtain ⟨_, _, rfl⟩ := im_slots (show (ds.map Slot.im)[j]? = some s from hj)
        cases hd
    rw [zero hj, zero hk]
theorem post_fresh {W : Wd} {Mo : Zone} {σ : Fm} {σV : L2.St} {H H' : Hp} {p : D} {b : Addr} {ds : List D} {vs : List V} {d : D} {o : Bool} {v : V} {as' : Fm} (r : Rel W (Zp Mo b) σ σV H)
    (hmu : ∀ c, muts (.io p :: ds.map .im) ((V.ref b :: vs).map some) c ↔ c = b)
    (q : Post W (Mu Mo σ σV) (.io p :: ds.map .im) ((V.ref b :: vs).map some) H (.v d) o as' v H') (nb : ¬ Mu Mo σ σV b) : ∃ Hm, Fr (fun c => c = b) H Hm ∧ (∀ c, H c ≠ none → Hm c ≠ none) ∧ Rel W Mo σ σV Hm ∧ Hm = H' ∧ VR W Mo σ σV H' (.v d) o v := by
  have fb : Fr (fun c => c = b) H H' := q.fr.mono fun c z => (hmu c).mp (wrt_le z)
  have tr : ∀ c, Mo c → H' c ≠ none := fun c z => q.dm c (r.tr c (.inl z))
  -- the caller's slots avoid b
  have mk : ∀ (Mq : Zone), (∀ c, Mq c → Mo c ∨ H c = none) → (∀ c, Mq c → H' c ≠ none) → Rel W Mq σ σV H' := fun Mq h1 h2 => by
    have hm : ∀ c, Mu Mq σ σV c → Mu (Zp Mo b) σ σV c ∨ H c = none := fun c z => by
      rcases z with z | z
      · exact (h1 c z).elim (fun q => .inl (.inl (.inl q))) .inr
      · exact .inl (.inr z)
    have hw : ∀ c, (fun c => c = b) c → Mu (Zp Mo b) σ σV c := fun c e => .inl (.inr e)
    refine ⟨r.len, fun i e hi => ?_, fun i e hi => ?_, r.ne, h2⟩
    · obtain ⟨v, g1, g2⟩ := r.im i e hi
      exact ⟨v, g1, g2.step fb hw hm⟩
    · obtain ⟨a, g1, g2, g3⟩ := r.mu i e hi
      refine ⟨a, g1, fun z => ?_, g3.step fb (fun e => g2 (.inr e)) hw hm⟩
      rcases h1 a z with z | z
      · exact g2 (.inl z)
      · exact g3.some z
  refine ⟨H', fb, q.dm, mk Mo (fun c z => .inl z) tr, rfl, ?_⟩
  have hz : ∀ c, Mu Mo σ σV c → Mu (Mu Mo σ σV) as' ((V.ref b :: vs).map some) c := fun c z => .inl z
  cases o with
  | false => exact Den.step (Mw := Z0) (q.val : Den W H' _ d v) .refl (fun _ z => z.elim) fun c z => .inl (hz c z)
  | true =>
    obtain ⟨t, rfl, nt, ow, rl⟩ := q.val
    refine ⟨t, rfl, fun z => nt (hz t z), ow.step (Mw := Z0) .refl (fun z => z) (fun _ z => z.elim) fun c z => .inl (z.elim (fun z => .inl (hz c z)) .inr), ?_⟩
    exact mk (Zp Mo t) (fun c z => z.elim .inl fun e => .inr (by rw [e]; exact q.nw rfl t rfl)) (fun c z => z.elim (tr c) fun e => by rw [e]; exact ow.some)
theorem snd_call (o : Okay T C n X sc) {f : Nat} {l : E} (hl : Snd T C l n X sc) (hc : ∀ a m, l = .cons a m → Snd T C a n X sc ∧ Snd T C m n X sc) {e : Expr} (h : chk T sc (.call f l) e = true) : PE X e (tE T.W (ev C (.call f l))) := by
  cases e with
  | Call g es kws pos =>
    cases g with
    | Name x p =>
      cases kws with
      | cons _ _ => simp [chk] at h
      | nil =>
        simp only [chk, Bool.and_eq_true, decide_eq_true_eq, Bool.not_eq_true'] at h
        obtain ⟨⟨⟨h1, h2⟩, h3⟩, h5⟩ := h
        cases l with
        | nil =>
          cases es with
          | cons _ _ => simp [chkL] at h5
          | nil =>
            obtain ⟨ad, fd, ps, k1, k2, k3, F⟩ := o.call x f h1
            refine PE.weak (pe_call0G F o.gd (o.room.mono (Nat.le_succ n)) (gl_of o h2) k1 k2 k3 .nil pass0 h3) fun σV H Q q => ?_
            obtain ⟨Mo, σ, z, ow, σ', hr, hs, k⟩ := q
            have hs : (if C.io f then (match E.nil with | .cons a m => (ev C a σ).bind fun x => (evW C m x.2.2).bind fun y => asV (callX C f x.1 x.2.1 (y.1.map (·.1)) y.2) | _ => .bad) else asV ((evW C .nil σ).bind fun x => callD C f (x.1.map (·.1)) x.2)) = R.ok (z, ow, σ') := hs
            cases hio : C.io f with
            | true => rw [hio] at hs; cases hs
            | false =>
              rw [hio] at hs
              obtain ⟨g, hs2, rfl⟩ := asV_inv hs
              have hs2 : ((C.call f (([] : List D).map .im)).bind fun x => .ok (x.1, x.2.1, σ)) = R.ok (g, ow, σ') := hs2
              obtain ⟨⟨g', o', as'⟩, g2, hs3⟩ := bind_inv hs2
              cases hs3
              have p0 : Post T.W Mo σ σV H (.v .non) false σ .non H := .refl hr .non
              exact ⟨_, _, _, _, _, plain_im (ds := []), rel_args (fun b z => hr.mu_tr z) .nil, g2, fun v H2 pp => k v H2 (p0.new (new_of pp))⟩
        | cons a m =>
          obtain ⟨e, es, rfl, ha, hm⟩ := es_head h5
          have he : starEach (e :: es) X.env = (false, eval e X.env) :: starEach es X.env := star_plain (chk_plain ha)
          have hp : (backTo pos (starEach es X.env)).any (·.1) = false := stars_plain hm
          obtain ⟨sa, sm⟩ := hc a m rfl
          cases hio : C.io f with
          | false =>
            refine PE.weak (call_of o h1 h2 h3 (hl.w _ h5) he hp) fun σV H Q q => ?_
            obtain ⟨Mo, σ, z, ow, σ', hr, hs, k⟩ := q
            have hs : (if C.io f then (match E.cons a m with | .cons a m => (ev C a σ).bind fun x => (evW C m x.2.2).bind fun y => asV (callX C f x.1 x.2.1 (y.1.map (·.1)) y.2) | _ => .bad) else asV ((evW C (.cons a m) σ).bind fun x => callD C f (x.1.map (·.1)) x.2)) = R.ok (z, ow, σ') := hs
            rw [hio] at hs
            obtain ⟨g, hs2, rfl⟩ := asV_inv hs
            clear hs
            obtain ⟨⟨xs, σ1⟩, g1, hs⟩ := bind_inv hs2
            have hs : ((C.call f ((xs.map (·.1)).map .im)).bind fun x => .ok (x.1, x.2.1, σ1)) = R.ok (g, ow, σ') := hs
            obtain ⟨⟨g', o', as'⟩, g2, hs⟩ := bind_inv hs
            cases hs
            refine ⟨Mo, σ, xs, _, hr, g1, fun vs H' p => ?_⟩
            obtain ⟨hd, hrel⟩ := Post.tup_ p
            refine ⟨_, _, _, _, _, plain_im, rel_args (fun b z => hrel.mu_tr z) hd, g2, fun v H2 pp => k v H2 (p.new (new_of pp))⟩
          | true =>
            refine PE.weak (call_of o h1 h2 h3 (pa_cons (sa.e _ ha) (sm.w _ hm) he) he hp) fun σV H Q q => ?_
            obtain ⟨Mo, σ, z, ow, σ', hr, hs, k⟩ := q
            have hs : (if C.io f then (match E.cons a m with | .cons a m => (ev C a σ).bind fun x => (evW C m x.2.2).bind fun y => asV (callX C f x.1 x.2.1 (y.1.map (·.1)) y.2) | _ => .bad) else asV ((evW C (.cons a m) σ).bind fun x => callD C f (x.1.map (·.1)) x.2)) = R.ok (z, ow, σ') := hs
            rw [hio] at hs
            have hs : ((ev C a σ).bind fun x => (evW C m x.2.2).bind fun y => asV (callX C f x.1 x.2.1 (y.1.map (·.1)) y.2)) = R.ok (z, ow, σ') := hs
            obtain ⟨⟨x1, o1, σ1⟩, g1, hs⟩ := bind_inv hs
            obtain ⟨⟨xs, σ2⟩, g2, hs⟩ := bind_inv hs
            obtain ⟨g, hs2, rfl⟩ := asV_inv hs
            clear hs
            have hs := hs2
            refine ⟨Mo, σ, x1, o1, σ1, hr, g1, fun v1 H1 p1 => ?_⟩
            cases x1 with
            | r i =>
              refine ⟨Mo, σ1, xs, σ2, p1.rel, g2, fun vs H2 p2 => ?_⟩
              obtain ⟨hd, hrel⟩ := Post.tup_ p2
              have hv : σV[i]? = some (some v1) := p1.val
              have hs : callI C f i (xs.map (·.1)) σ2 = .ok (g, ow, σ') := hs
              unfold callI at hs
              have go : ∀ {s : Slot} {pd : D} {mk : D → Slot}, σ2[i]? = some s → s.wr = some pd → (∀ d, (mk d).wr = some d) → (∀ c, s.pin = some c → ∀ d, (mk d).pin = some c) → ((C.call f (.io pd :: (xs.map (·.1)).map .im)).bind fun x => match x.2.2 with | .io p' :: _ => .ok (x.1, x.2.1, σ2.set i (mk p')) | _ => .bad) = R.ok (g, ow, σ') → spF T.W (C.call f) (v1 :: vs) H2 Q E0 := by
                intro s pd mk hsl hheld hmk hio hs
                obtain ⟨⟨g', o', as'⟩, g3, hs⟩ := bind_inv hs
                obtain ⟨b, ea, nb, ob⟩ := hrel.mu i pd ⟨s, hsl, wr_held hheld⟩
                rw [hv] at ea
                cases ea
                obtain ⟨r0, hmu⟩ := rel_lent hrel ⟨s, hsl, wr_held hheld⟩ hv hd
                refine ⟨_, _, _, _, _, plain_io, r0, g3, fun v H3 pp => ?_⟩
                dsimp only at hs
                split at hs
                · rename_i p' as2
                  cases hs
                  have pq := post_lent (s' := mk p') hrel hsl hheld (hmk p') (fun c e => hio c e p') hv hd pp
                  exact k v H3 ((p1.trans p2.post).trans pq)
                · cases hs
              split at hs
              · rename_i pd e1
                exact go (mk := .mu) e1 rfl (fun _ => rfl) (fun c e => nomatch e) hs
              · rename_i pd e1
                exact go (mk := .io) e1 rfl (fun _ => rfl) (fun c e d => e) hs
              · cases hs
            | v pd =>
              cases o1 with
              | false => cases hs
              | true =>
                obtain ⟨b, rfl, nb, ob, rb⟩ := p1.val
                refine ⟨Zp Mo b, σ1, xs, σ2, rb, g2, fun vs H2 p2 => ?_⟩
                obtain ⟨hd, hrel⟩ := Post.tup_ p2
                have hs : ((C.call f (.io pd :: (xs.map (·.1)).map .im)).bind fun x => .ok (x.1, x.2.1, σ2)) = R.ok (g, ow, σ') := hs
                obtain ⟨⟨g', o', as'⟩, g3, hs⟩ := bind_inv hs
                cases hs
                have tr : Trk (Mu Mo σ' σV) H2 := fun c z => hrel.mu_tr (z.elim (fun z => .inl (.inl z)) .inr)
                have nb2 : ¬ Mu Mo σ' σV b := fun z => nb (z.elim .inl fun z => .inr (p2.mm b z))
                have hz : ∀ c, Zp (Mu Mo σ' σV) b c → Mu (Zp Mo b) σ' σV c := fun c z => by
                  rcases z with (z | z) | z
                  · exact .inl (.inl z)
                  · exact .inr z
                  · exact .inl (.inr z)
                have ob2 : Own T.W H2 (Zp (Mu Mo σ' σV) b) b pd := ob.step p2.fr (fun z => nb (.inr (wrt_le z))) (fun c z => .inl (.inr (wrt_le z))) fun c z => by
                  rcases z with (z | z) | z
                  · exact .inl (.inl (.inl z))
                  · exact .inl (.inl (.inr (p2.mm c z)))
                  · exact .inl (.inr z)
                have hd2 : DenL T.W H2 (Zp (Mu Mo σ' σV) b) (xs.map (·.1)) vs := hd.step (Mw := Z0) .refl (fun _ z => z.elim) fun c z => .inl (hz c z)
                obtain ⟨r0, hmu⟩ := rel_fresh tr nb2 ob2 hd2
                refine ⟨_, _, _, _, _, plain_io, r0, g3, fun v H3 pp => ?_⟩
                obtain ⟨_, fb, dm, rl, rfl, vr⟩ := post_fresh hrel hmu pp nb2
                have hb0 : H b = none := p1.nw rfl b rfl
                refine k v _ ⟨?_, fun a z => dm a (p2.dm a (p1.dm a z)), fun a z => p1.mm a (p2.mm a z), fun a z => p1.wm a (p2.wm a z), fun i b e => p2.ios i b (p1.ios i b e), rl, vr, fun z a ea => none_back (fun a z => p2.dm a (p1.dm a z)) (pp.nw z a ea)⟩
                exact (p1.fr.trans p2.fr fun a z => .inl (p1.wm a z)).trans fb fun a e => .inr (by rw [show a = b from e]; exact hb0)
        | _ => cases es <;> simp [chkL] at h5
    | _ => simp [chk] at h
  | _ => simp [chk] at h
theorem snd_dcall (o : Okay T C n X sc) {f : Nat} {l : E} (hl : Snd T C l n X sc) {e : Expr} (h : chk T sc (.dcall f l) e = true) : PE X e (tE T.W (ev C (.dcall f l))) := by
  unfold chk at h
  split at h
  · rename_i x p es pos
    simp only [Bool.and_eq_true, decide_eq_true_eq, Bool.not_eq_true'] at h
    obtain ⟨⟨⟨⟨h1, h2⟩, h3⟩, h4⟩, h5⟩ := h
    cases es with
    | nil => cases h4
    | cons e es =>
      obtain ⟨a, m, rfl, ha, hm⟩ : ∃ a m, l = .cons a m ∧ chk T sc a e = true ∧ chkL T sc m es = true := by
        cases l <;> simp only [chkL, Bool.and_eq_true, reduceCtorEq, Bool.false_eq_true] at h5
        exact ⟨_, _, rfl, h5.1, h5.2⟩
      have he : starEach (e :: es) X.env = (false, eval e X.env) :: starEach es X.env := star_plain (chk_plain ha)
      have hp : (backTo pos (starEach es X.env)).any (·.1) = false := stars_plain hm
      obtain ⟨ad, fd, ps, k1, k2, k3, F⟩ := o.dcal x f h1
      refine PE.weak (pe_callG F o.gd (o.room.mono (Nat.le_succ n)) (gl_of o h2) k1 k2 k3 (dvs := [.non]) (.cons rfl .nil) pass0 (hl.w _ h5) h3 he hp) fun σV H Q q => ?_
      obtain ⟨Mo, σ, z, ow, σ', hr, hs, k⟩ := q
      have hs : (if C.io f then R.bad else asV ((evW C (.cons a m) σ).bind fun x => callD C f (x.1.map (·.1) ++ [D.non]) x.2)) = R.ok (z, ow, σ') := hs
      split at hs
      · cases hs
      · obtain ⟨g, hs2, rfl⟩ := asV_inv hs
        clear hs
        obtain ⟨⟨xs, σ1⟩, g1, hs⟩ := bind_inv hs2
        have hs : ((C.call f ((xs.map (·.1) ++ [D.non]).map .im)).bind fun x => .ok (x.1, x.2.1, σ1)) = R.ok (g, ow, σ') := hs
        obtain ⟨⟨g', o', as'⟩, g2, hs⟩ := bind_inv hs
        cases hs
        refine ⟨Mo, σ, xs, _, hr, g1, fun vs H' p => ?_⟩
        obtain ⟨hd, hrel⟩ := Post.tup_ p
        have hd2 := hd.append (DenL.cons (.non) .nil)
        refine ⟨_, _, _, _, _, plain_im, rel_args (fun b z => hrel.mu_tr z) hd2, g2, fun v H2 pp => k v H2 (p.new (new_of pp))⟩
  · cases h
theorem pe_bad {e : Expr} {r : Fm → Res} (h : ∀ σ x, r σ ≠ .ok x) : PE X e (tE T.W r) := ⟨fun pins s σ H Q I q => by
  obtain ⟨Mo, σ, x, o, σ', _, hs, _⟩ := q
  exact absurd hs (h _ _)⟩
theorem Rel.stepZ {W : Wd} {Mo Z : Zone} {σ : Fm} {σV : L2.St} {H H' : Hp} (r : Rel W Mo σ σV H) (f : Fr Z H H') (hz : ∀ c, Z c → Mo c) (dm : ∀ c, H c ≠ none → H' c ≠ none) : Rel W Mo σ σV H' := by
  have hw : ∀ c, Z c → Mu Mo σ σV c := fun c z => .inl (hz c z)
  refine ⟨r.len, fun i e hi => ?_, fun i e hi => ?_, r.ne, fun c z => dm c (r.tr c z)⟩
  · obtain ⟨v, g1, g2⟩ := r.im i e hi
    exact ⟨v, g1, g2.step f hw fun b z => .inl z⟩
  · obtain ⟨a, g1, g2, g3⟩ := r.mu i e hi
    exact ⟨a, g1, g2, g3.step f (fun z => g2 (hz a z)) hw fun b z => .inl z⟩
theorem snd_make (o : Okay T C n X sc) {c : Nat} {l : E} (hl : Snd T C l n X sc) {e : Expr} (h : chk T sc (.make c l) e = true) : PE X e (tE T.W (ev C (.make c l))) := by
  cases e with
  | Call g es kws pos =>
    cases g with
    | Name x p =>
      cases kws with
      | cons _ _ => simp [chk] at h
      | nil =>
        simp only [chk, Bool.and_eq_true, decide_eq_true_eq, Bool.not_eq_true'] at h
        obtain ⟨⟨⟨⟨h1, h2⟩, h3⟩, h4⟩, h5⟩ := h
        cases es with
        | nil => simp at h4
        | cons e es =>
        obtain ⟨a, m, rfl⟩ : ∃ a m, l = .cons a m := by
          cases l <;> simp only [chkL, Bool.false_eq_true] at h5
          exact ⟨_, _, rfl⟩
        obtain ⟨e0, es0, ee, ha, hm⟩ := es_head h5
        cases ee
        have he : starEach (e :: es) X.env = (false, eval e X.env) :: starEach es X.env := star_plain (chk_plain ha)
        have hp : (backTo pos (starEach es X.env)).any (·.1) = false := stars_plain hm
        cases hi : C.init c with
        | none =>
            refine pe_bad fun σ x hs => ?_
            have hs : (match C.init c with
              | some f => (evW C (.cons a m) σ).bind fun x => makeN C f c (x.1.map (·.1)) x.2
              | none => .bad) = R.ok x := hs
            rw [hi] at hs
            cases hs
        | some f =>
          obtain ⟨A, ad, fd, ps, hc, M, hm, hb, F⟩ := o.make x c f h1 hi
          refine PE.weak (pe_makeG M F o.gd o.room (gl_of o h2) hm hb .nil pass0 (hl.w _ h5) h3 he hp) fun σV H Q q => ?_
          obtain ⟨Mo, σ, z, ow, σ', hr, hs, k⟩ := q
          have hs : (match C.init c with
              | some f => (evW C (.cons a m) σ).bind fun x => makeN C f c (x.1.map (·.1)) x.2
              | none => .bad) = R.ok (z, ow, σ') := hs
          rw [hi] at hs
          obtain ⟨⟨xs, σ1⟩, g1, hs⟩ := bind_inv hs
          have hs : ((C.call f (.io (.ins c [] []) :: (xs.map (·.1)).map .im)).bind fun x => match x.1, x.2.2 with
            | .non, .io d :: _ => .ok (.v d, true, σ1)
            | _, _ => .bad) = R.ok (z, ow, σ') := hs
          obtain ⟨⟨g, o', as'⟩, g2, hs⟩ := bind_inv hs
          dsimp only at hs
          split at hs
          · rename_i d as2
            cases hs
            refine ⟨Mo, σ, xs, _, hr, g1, fun vs H1 p => ?_⟩
            intro b dx hb0 hdx nbd
            rw [List.append_nil]
            obtain ⟨hd, hrel⟩ := Post.tup_ p
            have f1 : Fr Z0 H1 (upd H1 dx (.own b)) := .new hdx
            have hb1 : (upd H1 dx (.own b)) b = none := by rw [upd_ne (Ne.symm nbd)]; exact hb0
            have f2 : Fr Z0 (upd H1 dx (.own b)) (upd (upd H1 dx (.own b)) b (.ins A dx [])) := .new hb1
            have f3 : Fr Z0 H1 (upd (upd H1 dx (.own b)) b (.ins A dx [])) := f1.trans f2 fun _ z => z.elim
            have nb : ¬ Mu Mo σ' σV b := fun z => hrel.mu_tr z hb0
            have r2 := hrel.apart f3 hb0 (by rw [upd_same]; exact fun z => nomatch z)
            have tr : Trk (Mu Mo σ' σV) (upd (upd H1 dx (.own b)) b (.ins A dx [])) := fun c z => f3.dom c (hrel.mu_tr z)
            have ob : Own T.W (upd (upd H1 dx (.own b)) b (.ins A dx [])) (Zp (Mu Mo σ' σV) b) b (.ins c [] []) := .ins upd_same hc rfl .nil
            have hd2 : DenL T.W (upd (upd H1 dx (.own b)) b (.ins A dx [])) (Zp (Mu Mo σ' σV) b) (xs.map (·.1)) vs := hd.step f3 (fun _ z => z.elim) fun c z => z.elim .inl fun e => .inr (by rw [e]; exact hb0)
            obtain ⟨r0, hmu⟩ := rel_fresh tr nb ob hd2
            refine ⟨_, _, _, _, _, plain_io, r0, g2, fun v H3 pp => ?_⟩
            have hv : Den T.W H3 _ .non v := pp.val.drop
            cases hv
            refine ⟨rfl, k (.ref b) H3 ?_⟩
            have fb : Fr (fun c => c = b) (upd (upd H1 dx (.own b)) b (.ins A dx [])) H3 := pp.fr.mono fun c z => (hmu c).mp (wrt_le z)
            have rz : Rel T.W (Zp Mo b) σ' σV H3 := r2.stepZ fb (fun c e => .inr e) pp.dm
            obtain ⟨a1, e1, _, ow1⟩ := pp.rel.mu 0 d ⟨_, rfl, rfl⟩
            have e1' : a1 = b := by simpa using e1.symm
            subst e1'
            have own1 : Own T.W H3 (Zp (Mu Mo σ' σV) a1) a1 d := ow1.step (Mw := Z0) .refl (fun z => z) (fun _ z => z.elim) fun c z => .inl (z.elim .inl fun e => .inr ⟨0, d, ⟨_, rfl, rfl⟩, by rw [show c = a1 from e]; rfl⟩)
            refine ⟨(p.fr.trans f3 fun _ z => z.elim).trans fb fun c e => .inr (by rw [show c = a1 from e]; exact none_back p.dm hb0), fun c z => pp.dm c (f3.dom c (p.dm c z)), p.mm, p.wm, p.ios, rz.drop, ⟨a1, rfl, nb, own1, rz⟩, fun _ q e => ?_⟩
            cases e
            exact none_back p.dm hb0
          · cases hs
    | _ => simp [chk] at h
  | _ => simp [chk] at h
theorem stars_all {T : Tb} {sc : Scope} {env : PySem.Env} {pos : Pos} : ∀ {c : E} {es : List Expr}, chkL T sc c es = true → (backTo pos (starEach es env)).all (fun x => !x.1) = true
  | c, [], _ => rfl
  | c, e :: es, h => by
    cases c <;> simp only [chkL, Bool.and_eq_true, reduceCtorEq, Bool.false_eq_true] at h
    rw [star_plain (chk_plain h.1)]
    show ((false, _) :: backTo pos (starEach es env)).all (fun x => !x.1) = true
    rw [List.all_cons, stars_all h.2]
    rfl
theorem meth_eval {o : Expr} {m : Str} {apos pos : Pos} {args : List Expr} {env : PySem.Env} (hn : noCall o = true) (hl : (apos.endLine == pos.line) = true) (ha : (backTo pos (starEach args env)).all (fun x => !x.1) = true) (h29 : args.length < 29) :
    eval (.Call (.Attribute o m apos) args [] pos) env = (do
      let ov ← eval o env
      standAt apos.atName
      let (f, first) ← holding [ov] (getMethod ov m (do return (← importBound o env).getD true))
      callWith pos f first (backTo pos (starEach args env)) (backToKw pos (keywordEach [] env))) := by
  have e1 : methodCallForm (args.length + 0) (backTo pos (starEach args env)) (backToKw pos (keywordEach [] env)) = true := by
    show ((backTo pos (starEach args env)).all (fun x => !x.1) && true && decide (args.length + 0 + 0 < 30)) = true
    rw [ha, decide_eq_true (by omega)]
    rfl
  have e2 : methodCallPos true o env apos pos = pure pos := by
    unfold methodCallPos
    rw [hl]
    rfl
  have e3 : ∀ ov, methodCall o m apos pos env ov (args.length + 0) (backTo pos (starEach args env)) (backToKw pos (keywordEach [] env)) = (do
      let (f, first) ← holding [ov] (getMethod ov m (do return (← importBound o env).getD true))
      callWith pos f first (backTo pos (starEach args env)) (backToKw pos (keywordEach [] env))) := fun ov => by
    unfold methodCall
    rw [e1, e2]
    rfl
  show (do
    let ov ← attributeBase o m env (eval o env)
    standAt apos.atName
    methodCall o m apos pos env ov (args.length + 0) (backTo pos (starEach args env)) (backToKw pos (keywordEach [] env))) = _
  rw [base_of hn]
  simp only [e3]
theorem lookup_none {W : Wd} {m : Nat} : ∀ {ns : List Nat} {fs : List (Str × V)}, fs.map (·.1) = ns.map W.att → (∀ b ∈ ns, W.att b ≠ W.att m) → fs.lookup (W.att m) = none
  | [], [], _, _ => rfl
  | [], _ :: _, h, _ => by simp at h
  | _ :: _, [], h, _ => by simp at h
  | b :: ns, (x, v) :: fs, h, k => by
    simp only [List.map_cons, List.cons.injEq] at h
    have hx : (W.att m == x) = false := by
      rw [h.1]
      exact beq_false_of_ne fun e => k b List.mem_cons_self e.symm
    rw [List.lookup_cons, hx]
    exact lookup_none h.2 fun b hb => k b (List.mem_cons_of_mem _ hb)
theorem snd_meth (o : Okay T C n X sc) {a l : E} {m : Nat} (hva : Snd T C a n X sc) (hl : Snd T C l n X sc) {e : Expr} (h : chk T sc (.meth a m l) e = true) : PE X e (tE T.W (ev C (.meth a m l))) := by
  cases e with
  | Call g es kws pos =>
    cases g with
    | Attribute x nm ap =>
      cases kws with
      | cons _ _ => simp [chk] at h
      | nil =>
        simp only [chk, Bool.and_eq_true, decide_eq_true_eq] at h
        obtain ⟨⟨⟨⟨⟨⟨rfl, h1⟩, h2⟩, h3⟩, h4⟩, h5⟩, h6⟩ := h
        have opn : ∀ {σ : Fm} {r}, ev C (.meth a m l) σ = r → ((ev C a σ).bind fun x => (fz x).bind fun x => match x.1 with
            | .ins c ns vs => match C.meth m with
              | some (c', f) => if c' = c ∧ C.io f = false ∧ 500 ≤ m ∧ ns.all (· < 500) = true then (evW C l x.2.2).bind fun y => asV (callD C f (.ins c ns vs :: y.1.map (·.1)) y.2) else .bad
              | none => .bad
            | _ => .bad) = r := fun h => h
        cases hc : C.meth m with
        | none =>
            refine pe_bad fun σ x hs => ?_
            have hs := opn hs
            obtain ⟨_, _, hs⟩ := bind_inv hs
            obtain ⟨⟨d, o1, σ1⟩, _, hs⟩ := bind_inv hs
            dsimp only at hs
            rw [hc] at hs
            split at hs <;> cases hs
        | some cf =>
          obtain ⟨c, f⟩ := cf
          obtain ⟨hne, A, ad, fd, ps, hcA, hcl, hme, hb, F⟩ := o.meth m c f h1 hc
          -- the reading
          have read : ∀ σV H Q, tE T.W (ev C (.meth a m l)) σV H Q → tMeth A (T.W.att m) (spF T.W (C.call f)) [] E0 (tE T.W (ev C a)) (tW T.W (evW C l)) σV H Q := fun σV H Q q => by
            obtain ⟨Mo, σ, z, ow, σ', hr, hs, k⟩ := q
            have hs := opn hs
            obtain ⟨⟨x1, o1, σ1⟩, g1, hs⟩ := bind_inv hs
            obtain ⟨⟨d, o2, σ2⟩, g2, hs⟩ := bind_inv hs
            refine ⟨Mo, σ, x1, o1, σ1, hr, g1, fun v H1 p1 => ?_⟩
            have p2 := p1.freeze g2
            have dv : Den T.W H1 (Mu Mo σ2 σV) d v := p2.val.drop
            dsimp only at hs
            split at hs
            · rename_i c1 ns ds
              rw [hc] at hs
              dsimp only at hs
              split at hs
              · rename_i hh
                obtain ⟨rfl, hio, h500, hall⟩ := hh
                obtain ⟨⟨xs, σ3⟩, g3, hs⟩ := bind_inv hs
                obtain ⟨g, hs2, rfl⟩ := asV_inv hs
                have hs2 : ((C.call f ((D.ins c ns ds :: xs.map (·.1)).map .im)).bind fun x => .ok (x.1, x.2.1, σ3)) = R.ok (g, ow, σ') := hs2
                obtain ⟨⟨g', o', as'⟩, g4, hs3⟩ := bind_inv hs2
                cases hs3
                have dv0 := dv
                cases dv0 with
                | ins ha nm hcc hn ll =>
                  rw [hcA] at hcc
                  cases hcc
                  refine ⟨_, _, _, rfl, ha, lookup_none hn fun b hb => hne b (by
                    have := List.all_eq_true.mp hall b hb
                    simpa using this) h500, Mo, σ2, xs, _, p2.rel, g3, fun vs H2 p3 => ?_⟩
                  obtain ⟨hd, hrel⟩ := Post.tup_ p3
                  have dv2 : Den T.W H2 (Mu Mo σ' σV) (.ins c ns ds) _ := VR.step (x := .v (.ins c ns ds)) (o := false) dv p3.post
                  rw [List.append_nil]
                  refine ⟨_, _, _, _, _, plain_im (ds := .ins c ns ds :: xs.map (·.1)), rel_args (fun b z => hrel.mu_tr z) (.cons dv2 hd), g4, fun v H3 pp => k v H3 ((p2.trans p3.post).new (new_of pp))⟩
              · cases hs
            · cases hs
          cases es with
          | nil =>
            refine PE.weak (pe_meth0G (hva.e _ h5) hcl hme F o.gd (o.room.mono (Nat.le_succ n)) hb .nil pass0 (meth_eval h2 h3 rfl (by simp))) fun σV H Q q => ?_
            cases l <;> simp only [chkL, Bool.false_eq_true] at h6
            obtain ⟨Mo, σ, x1, o1, σ1, hr, g1, kk⟩ := read σV H Q q
            refine ⟨Mo, σ, x1, o1, σ1, hr, g1, fun v H1 p1 => ?_⟩
            obtain ⟨b, dx, fs, e1, e2, e3, Mo2, σ2, xs, σ3, r2, g2, k2⟩ := kk v H1 p1
            refine ⟨b, dx, fs, e1, e2, e3, ?_⟩
            cases g2
            exact k2 [] H1 ⟨.refl, fun _ z => z, fun _ z => z, fun _ z => z, fun _ _ e => e, by
              have ez : Zl Mo2 (ownsOf [] []) = Mo2 := funext fun b => propext ⟨fun z => z.elim (fun z => z) (fun z => by simp [ownsOf] at z), .inl⟩
              rw [ez]
              exact r2, List.nodup_nil, fun p hp => absurd hp (by simp [ownsOf]), trivial⟩
          | cons e es =>
            obtain ⟨a', m', rfl⟩ : ∃ a m, l = .cons a m := by
              cases l <;> simp only [chkL, Bool.false_eq_true] at h6
              exact ⟨_, _, rfl⟩
            obtain ⟨e0, es0, ee, hae, hm⟩ := es_head h6
            cases ee
            exact PE.weak (pe_methG (hva.e _ h5) hcl hme F o.gd (o.room.mono (Nat.le_succ n)) hb .nil pass0 (hl.w _ h6) (star_plain (chk_plain hae)) (stars_plain hm) (meth_eval h2 h3 (stars_all h6) h4)) read
    | _ => simp [chk] at h
  | _ => simp [chk] at h
end
end Mini

set_option Elab.async false
set_option linter.all false
set_option maxRecDepth 100000
set_option maxHeartbeats 4000000
/-! ## targets -/
namespace Mini
open PySem L2
/-- slots have been stored -/
structure PostT (W : Wd) (Mo : Zone) (ts : List Nat) (σ : Fm) (σV : L2.St) (H : Hp) (σ' : Fm) (σV' : L2.St) : Prop where
  mm : ∀ a, muts σ' σV' a → muts σ σV a
  wm : ∀ a, wrt σ' σV' a → wrt σ σV a
  ios : ∀ (i : Nat) (b : Bool), Pin σ i b → Pin σ' i b ∧ σV'[i]? = σV[i]?
  off : ∀ j, j ∉ ts → σV'[j]? = σV[j]?
  len : σV'.length = σV.length
  rel : Rel W Mo σ' σV' H
noncomputable def tG (W : Wd) (c : E) : TG := fun v σV H Q => ∃ Mo σ d σ', Rel W Mo σ σV H ∧ Den W H (Mu Mo σ σV) d v ∧ putT c d σ = .ok σ' ∧ ∀ σV', PostT W Mo (tgs c) σ σV H σ' σV' → Q σV' H
noncomputable def tGs (W : Wd) (c : E) : TGs := fun vs σV H Q => ∃ Mo σ ds σ', Rel W Mo σ σV H ∧ DenL W H (Mu Mo σ σV) ds vs ∧ putTs c ds σ = .ok σ' ∧ ∀ σV', PostT W Mo (tgs c) σ σV H σ' σV' → Q σV' H
theorem PG.weak {X : Cx} {e : Expr} {t t' : TG} (h : PG X e t) (k : ∀ v σ H Q, t' v σ H Q → t v σ H Q) : PG X e t' := ⟨fun pins s σ H v u Q I r q => h.run pins s σ H v u Q I r (k v σ H Q q)⟩
theorem PGs.weak {X : Cx} {e : List Expr} {t t' : TGs} (h : PGs X e t) (k : ∀ v σ H Q, t' v σ H Q → t v σ H Q) : PGs X e t' := ⟨fun pins s σ H v u Q I r q => h.run pins s σ H v u Q I r (k v σ H Q q)⟩
section
variable {W : Wd} {H H' : Hp} {Mo : Zone} {σ σ' : Fm} {σV : L2.St} {d : D} {v : V} {i : Nat} {s s' : Slot}
/-- slot i takes a value that stays -/
theorem put_im (r : Rel W Mo σ σV H) (hs : σ[i]? = some s) (hio : s.pin = none) (hd : Den W H (Mu Mo σ σV) d v) : PostT W Mo [i] σ σV H (σ.set i (.im d)) (σV.set i (some v)) := by
  have hi := lt_of_some hs
  have hiV : i < σV.length := by rw [← r.len]; exact hi
  have hm : ∀ a, muts (σ.set i (.im d)) (σV.set i (some v)) a → muts σ σV a := fun a => by
    rintro ⟨j, e, hj, hv⟩
    obtain ⟨n, hj'⟩ := (held_off rfl hi).mp hj
    rw [List.getElem?_set_ne (Ne.symm n)] at hv
    exact ⟨j, e, hj', hv⟩
  have hz : ∀ b, Mu Mo (σ.set i (.im d)) (σV.set i (some v)) b → Mu Mo σ σV b ∨ H b = none := fun b z => .inl (z.elim .inl fun q => .inr (hm b q))
  refine ⟨hm, fun a => ?_, fun j e hj => ?_, fun j hj => ?_, by rw [List.length_set], ?_⟩
  · rintro ⟨j, t, e, hj, hw, hv⟩
    by_cases q : j = i
    · subst q
      rw [List.getElem?_set_self hi] at hj
      cases hj
      cases hw
    · rw [List.getElem?_set_ne (Ne.symm q)] at hj hv
      exact ⟨j, t, e, hj, hw, hv⟩
  · have q : j ≠ i := by
      rintro rfl
      obtain ⟨t, h1, h2⟩ := hj
      rw [hs] at h1
      cases h1
      rw [hio] at h2
      cases h2
    refine ⟨hj.set hs fun c z => ?_, by rw [List.getElem?_set_ne (Ne.symm q)]⟩
    rw [hio] at z
    cases z
  · rw [List.getElem?_set_ne]
    rintro rfl
    exact hj (by simp)
  · refine ⟨by rw [List.length_set, List.length_set]; exact r.len, fun j e hj => ?_, fun j e hj => ?_, fun j k e e2 a hj hk h1 h2 => ?_, r.tr⟩
    · by_cases q : j = i
      · subst q
        rw [List.getElem?_set_self hi] at hj
        cases hj
        exact ⟨v, List.getElem?_set_self hiV, hd.step (Mw := Z0) .refl (fun _ z => z.elim) hz⟩
      · rw [List.getElem?_set_ne (Ne.symm q)] at hj
        obtain ⟨u, h1, h2⟩ := r.im j e hj
        exact ⟨u, by rw [List.getElem?_set_ne (Ne.symm q)]; exact h1, h2.step (Mw := Z0) .refl (fun _ z => z.elim) hz⟩
    · obtain ⟨q, hj'⟩ := (held_off rfl hi).mp hj
      obtain ⟨a, h1, h2, h3⟩ := r.mu j e hj'
      exact ⟨a, by rw [List.getElem?_set_ne (Ne.symm q)]; exact h1, h2, h3.step (Mw := Z0) .refl (fun z => z) (fun _ z => z.elim) hz⟩
    · obtain ⟨q, hj'⟩ := (held_off rfl hi).mp hj
      obtain ⟨q2, hk'⟩ := (held_off rfl hi).mp hk
      rw [List.getElem?_set_ne (Ne.symm q)] at h1
      rw [List.getElem?_set_ne (Ne.symm q2)] at h2
      exact r.ne j k e e2 a hj' hk' h1 h2
theorem PostT.trans {ts us : List Nat} {σ1 σ2 : Fm} {σV1 σV2 : L2.St} (p : PostT W Mo ts σ σV H σ1 σV1) (q : PostT W Mo us σ1 σV1 H σ2 σV2) : PostT W Mo (ts ++ us) σ σV H σ2 σV2 :=
  ⟨fun a z => p.mm a (q.mm a z), fun a z => p.wm a (q.wm a z), fun i b e => let ⟨e1, e2⟩ := p.ios i b e; let ⟨e3, e4⟩ := q.ios i b e1; ⟨e3, e4.trans e2⟩,
    fun j hj => (q.off j fun z => hj (List.mem_append_right _ z)).trans (p.off j fun z => hj (List.mem_append_left _ z)), q.len.trans p.len, q.rel⟩
end
section
variable {T : Tb} {C : Cb} {n : Nat} {X : Cx} {sc : Scope}
theorem plainT {e : Expr} {a : E} {T : Tb} {dl : Bool} {sc : Scope} (h : chkT T dl sc a e = true) (env : PySem.Env) (es : List Expr) : assignEach (e :: es) env = (false, assign e env) :: assignEach es env := by
  cases e <;> first | rfl | (cases a <;> simp [chkT] at h)
theorem each_len {T : Tb} {dl : Bool} {sc : Scope} {env : PySem.Env} : ∀ {l : E} {es : List Expr}, chkTs T dl sc l es = true → (assignEach es env).length = es.length ∧ (assignEach es env).findIdx? (·.1) = none
  | l, [], _ => ⟨rfl, rfl⟩
  | l, e :: es, h => by
    cases l <;> simp only [chkTs, Bool.and_eq_true, Bool.false_eq_true] at h
    obtain ⟨h1, h2⟩ := each_len (env := env) h.2
    rw [plainT h.1]
    refine ⟨by simp [h1], ?_⟩
    rw [List.findIdx?_cons]
    simp [h2]
theorem sound_tgt (o : Okay T C n X sc) {dl : Bool} (hfn : dl = true → ∀ x, X.fn x = true) : ∀ c : E, (∀ e, chkT T dl sc c e = true → PG X e (tG T.W c)) ∧ (∀ es, chkTs T dl sc c es = true → PGs X es (tGs T.W c) ∧ ∀ ds σ σ', putTs c ds σ = .ok σ' → ds.length = es.length) := by
  intro c
  induction c with
  | var i =>
    refine ⟨fun e h => ?_, fun es h => by cases es <;> simp [chkTs] at h⟩
    cases e <;> simp only [chkT, Bool.false_eq_true, Bool.and_eq_true, decide_eq_true_eq] at h
    rename_i x pos
    obtain ⟨h1, h2⟩ := h
    have hl : L2.Loc X.env.scope x := by
      rw [o.sc]
      unfold L2.Loc
      split at h2 <;> first | (rename_i e; simp [e]; done) | (cases h2; done) | (rename_i e; simp [e])
    have hf : X.fn x = true ∨ X.env.scope.names.lookup x = some .local := by
      rw [o.sc]
      split at h2
      · exact .inr (by assumption)
      · exact .inl (hfn h2 x)
      · cases h2
    refine PG.weak (pg_name (i := i) o.nd (by rw [o.N]; exact h1) hl hf) fun v σV H Q q => ?_
    obtain ⟨Mo, σ, d, σ', r, hd, hp, k⟩ := q
    unfold putT at hp
    split at hp
    · cases hp; exact k _ (put_im r (by assumption) rfl hd)
    · cases hp; exact k _ (put_im r (by assumption) rfl hd)
    · cases hp; exact k _ (put_im r (by assumption) rfl hd)
    · cases hp
  | tup l ih =>
    refine ⟨fun e h => ?_, fun es h => by cases es <;> simp [chkTs] at h⟩
    cases e <;> simp only [chkT, Bool.false_eq_true] at h
    rename_i es k pos
    obtain ⟨hg, hlen⟩ := ih.2 es h
    obtain ⟨h1, h2⟩ := each_len (env := X.env) h
    refine PG.weak (pg_tup (n := es.length) o.calm hg h1 h2) fun v σV H Q q => ?_
    obtain ⟨Mo, σ, d, σ', r, hd, hp, k⟩ := q
    cases d <;> unfold putT at hp <;> try (cases hp; done)
    rename_i ds
    cases hd with
    | tup ha m l =>
      refine ⟨_, _, rfl, .of ha, by rw [← l.length]; exact hlen _ _ _ hp, Mo, σ, ds, σ', r, l, hp, k⟩
  | nil =>
    refine ⟨fun e h => by cases e <;> simp [chkT] at h, fun es h => ?_⟩
    cases es with
    | cons _ _ => simp [chkTs] at h
    | nil =>
      refine ⟨PGs.weak pgs_nil fun vs σV H Q q => ?_, fun ds σ σ' h => ?_⟩
      · obtain ⟨Mo, σ, ds, σ', r, hd, hp, k⟩ := q
        cases ds <;> unfold putTs at hp <;> cases hp
        cases hd
        exact ⟨rfl, k _ ⟨fun _ z => z, fun _ z => z, fun i d e => ⟨e, rfl⟩, fun _ _ => rfl, rfl, r⟩⟩
      · cases ds <;> unfold putTs at h <;> cases h
        rfl
  | cons a l iha ihl =>
    refine ⟨fun e h => by cases e <;> simp [chkT] at h, fun es h => ?_⟩
    cases es with
    | nil => simp [chkTs] at h
    | cons e es =>
      simp only [chkTs, Bool.and_eq_true] at h
      obtain ⟨hg, hlen⟩ := ihl.2 es h.2
      have he : (assignEach (e :: es) X.env).map (·.2) = assign e X.env :: (assignEach es X.env).map (·.2) := by rw [plainT h.1]; rfl
      refine ⟨PGs.weak (pgs_cons (iha.1 e h.1) hg he) fun vs σV H Q q => ?_, fun ds σ σ' h => ?_⟩
      · obtain ⟨Mo, σ, ds, σ', r, hd, hp, k⟩ := q
        cases ds with
        | nil => cases hp
        | cons d ds =>
          cases hd with
          | cons h1 h2 =>
            obtain ⟨σ1, hp1, hp2⟩ := bind_inv hp
            refine ⟨_, _, rfl, Mo, σ, d, σ1, r, h1, hp1, fun σV1 p1 => ⟨Mo, σ1, ds, σ', p1.rel, h2.step (Mw := Z0) .refl (fun _ z => z.elim) (fun b z => .inl (z.elim .inl fun q => .inr (p1.mm b q))), hp2, fun σV2 p2 => k σV2 (p1.trans p2)⟩⟩
      · cases ds with
        | nil => cases h
        | cons d ds =>
          obtain ⟨σ1, hp1, hp2⟩ := bind_inv h
          simp [hlen ds σ1 σ' hp2]
  | _ => exact ⟨fun e h => by cases e <;> simp [chkT] at h, fun es h => by cases es <;> simp [chkTs] at h⟩
end
end Mini

set_option Elab.async false
set_option linter.all false
set_option maxRecDepth 100000
set_option maxHeartbeats 4000000
/-! ## what a loop walks -/
namespace Mini
open PySem L2 PySem.Spec PyProof.Rows
structure PostI (W : Wd) (Mo : Zone) (σ : Fm) (σV : L2.St) (H : Hp) (ds : List D) (lk : Opd) (σ' : Fm) (H' : Hp) (J : It) : Prop where
  fr : Fr (wrt σ σV) H H'
  dm : ∀ a, H a ≠ none → H' a ≠ none
  mm : ∀ a, muts σ' σV a → muts σ σV a
  wm : ∀ a, wrt σ' σV a → wrt σ σV a
  ios : ∀ (i : Nat) (b : Bool), Pin σ i b → Pin σ' i b
  rel : Rel W Mo σ' σV H'
  un : ∀ i, lk = .r i → ∃ d a, σ'[i]? = some (Slot.lk d) ∧ σV[i]? = some (some (V.ref a)) ∧ wrt σ σV a ∧ ∀ b, ¬ Pin σ i b
  it : ∀ H1, Fr (fun b => wrt σ' σV b ∨ H' b = none) H' H1 → (∀ i, i < ds.length → J.go i H1) ∧ (∀ i, ds.length ≤ i → J.stop i H1) ∧
    (∀ i x H2 (M : Zone), i < ds.length → J.yld i H1 x H2 → (∀ b, M b → Mu Mo σ' σV b ∨ H' b = none) → Trk M H1 → Fr Z0 H1 H2 ∧ ∃ d, ds[i]? = some d ∧ Den W H2 M d x)
noncomputable def iW (W : Wd) (r : Fm → R (List D × Opd × Fm)) : TI := fun σV H R => ∃ Mo σ ds lk σ', Rel W Mo σ σV H ∧ r σ = .ok (ds, lk, σ') ∧ ∀ J H', PostI W Mo σ σV H ds lk σ' H' J → R J H'
theorem PI.weak {X : Cx} {tg e : Expr} {t t' : TI} (h : PI X tg e t) (k : ∀ σ H R, t' σ H R → t σ H R) : PI X tg e t' := ⟨fun pins s σ H R I q => h.run pins s σ H R I (k σ H R q)⟩
/-- a list or a tuple -/
noncomputable def iSeq (K : PySem.W.Frag) (tl : TE) : TI := fun σ H R => tl σ H fun x H1 => ∃ a, x = .ref a ∧ (((∃ xs, SqL K H1 a xs) ∧ R (Itl K a) H1) ∨ ((∃ xs, SqT K H1 a xs) ∧ R (Itt K a) H1))
theorem pi_sq {X : Cx} {tg l : Expr} {tl : TE} (hl : PE X l tl) : PI X tg l (iSeq X.K tl) := by
  refine ⟨fun pins s σ H R I h => ?_⟩
  refine thn (hl.run pins s σ H _ I h) fun v s1 ⟨x, H1, I1, r1, q1⟩ => ?_
  obtain ⟨a, e, q⟩ := q1
  subst e
  cases r1
  rcases q with ⟨⟨xs, hq⟩, q⟩ | ⟨⟨xs, hq⟩, q⟩
  · obtain ⟨its, rv, p, hz⟩ := I1.list hq
    refine wpAny_pyIter_list p.isList ?_
    refine ⟨s1.heap.objs.size, [s1.heap.objs.size], _, _, H1, rfl, I1.kept (t' := s1.toks) fun b o e => Heap.get?_push_of_some _ e, turn_list a _, ⟨_, Heap.get?_push_size _ rfl, rfl, rfl⟩, fun b hb => ?_, q⟩
    have e : b = s1.heap.objs.size := by simpa using hb
    subst e
    exact I1.fpOk (Nat.le_refl _) (I1.hok.fresh (Nat.le_refl _))
  · obtain ⟨its, rv, p, hz⟩ := I1.tuple hq
    refine wpAny_pyIter_tuple (show s1.heap.IsTuple a its.toArray from p) ?_
    refine ⟨s1.heap.objs.size, [s1.heap.objs.size], _, _, H1, rfl, I1.kept (t' := s1.toks) fun b o e => Heap.get?_push_of_some _ e, turn_tuple a _, ⟨_, Heap.get?_push_size _ rfl, rfl, rfl⟩, fun b hb => ?_, q⟩
    have e : b = s1.heap.objs.size := by simpa using hb
    subst e
    exact I1.fpOk (Nat.le_refl _) (I1.hok.fresh (Nat.le_refl _))
theorem folded_plain {e : Expr} {env : PySem.Env} (h : plainE e = true) (x : Value) : foldedSetIterable e env x = pure x := by
  cases e <;> first | rfl | (simp [plainE] at h)
theorem chkI_plain {T : Tb} {sc : Scope} {c : E} {tg e : Expr} (h : chkI T sc c tg e = true) : plainE e = true := by
  cases c with
  | itm a => exact chk_plain (c := a) h
  | _ => cases e <;> first | rfl | (simp [chkI] at h)
section
variable {T : Tb} {C : Cb} {n : Nat} {X : Cx} {sc : Scope}
/-- a list that stays, walked -/
theorem it_list {W : Wd} {Mo : Zone} {σ : Fm} {σV : L2.St} {H : Hp} {a : Addr} {ds : List D} {vs : List V} (h : H a = some (.lst vs)) (n : ¬ wrt σ σV a) (l : DenL W H (Mu Mo σ σV) ds vs) (hw : ∀ b, wrt σ σV b → Mu Mo σ σV b) (K : PySem.W.Frag) :
    ∀ H1, Fr (fun b => wrt σ σV b ∨ H b = none) H H1 → (∀ i, i < ds.length → (Itl K a).go i H1) ∧ (∀ i, ds.length ≤ i → (Itl K a).stop i H1) ∧
      (∀ i x H2 (M : Zone), i < ds.length → (Itl K a).yld i H1 x H2 → (∀ b, M b → Mu Mo σ σV b ∨ H b = none) → Trk M H1 → Fr Z0 H1 H2 ∧ ∃ d, ds[i]? = some d ∧ Den W H2 M d x) := fun H1 f => by
  have h1 : H1 a = some (.lst vs) := f.at' h fun z => z.elim n fun e => by rw [h] at e; cases e
  have fr' : Fr (wrt σ σV) H H1 := fun b o e nn => f b o e (nn.imp (fun nn z => z.elim nn fun e' => by rw [e] at e'; cases e') id)
  have lenE := l.length
  refine ⟨fun i hi => ⟨vs, vs[i]'(by omega), .of h1, by simp⟩, fun i hi => ⟨vs, .of h1, by omega⟩, fun i x H2 M _ hy hm tr => ?_⟩
  obtain ⟨e, hx⟩ := hy
  subst e
  have hx := hx vs (.of h1)
  have hi := lt_of_some hx
  obtain ⟨d, hd⟩ : ∃ d, ds[i]? = some d := ⟨ds[i]'(by omega), by simp⟩
  obtain ⟨v, hv, dv⟩ := l.get hd
  rw [hx] at hv
  cases hv
  exact ⟨.refl, d, hd, dv.step fr' hw hm⟩
theorem it_tup {W : Wd} {Mo : Zone} {σ : Fm} {σV : L2.St} {H : Hp} {a : Addr} {ds : List D} {vs : List V} (h : H a = some (.tup vs)) (n : ¬ wrt σ σV a) (l : DenL W H (Mu Mo σ σV) ds vs) (hw : ∀ b, wrt σ σV b → Mu Mo σ σV b) (K : PySem.W.Frag) :
    ∀ H1, Fr (fun b => wrt σ σV b ∨ H b = none) H H1 → (∀ i, i < ds.length → (Itt K a).go i H1) ∧ (∀ i, ds.length ≤ i → (Itt K a).stop i H1) ∧
      (∀ i x H2 (M : Zone), i < ds.length → (Itt K a).yld i H1 x H2 → (∀ b, M b → Mu Mo σ σV b ∨ H b = none) → Trk M H1 → Fr Z0 H1 H2 ∧ ∃ d, ds[i]? = some d ∧ Den W H2 M d x) := fun H1 f => by
  have h1 : H1 a = some (.tup vs) := f.at' h fun z => z.elim n fun e => by rw [h] at e; cases e
  have fr' : Fr (wrt σ σV) H H1 := fun b o e nn => f b o e (nn.imp (fun nn z => z.elim nn fun e' => by rw [e] at e'; cases e') id)
  have lenE := l.length
  refine ⟨fun i hi => ⟨vs, vs[i]'(by omega), .of h1, by simp⟩, fun i hi => ⟨vs, .of h1, by omega⟩, fun i x H2 M _ hy hm tr => ?_⟩
  obtain ⟨e, hx⟩ := hy
  subst e
  have hx := hx vs (.of h1)
  have hi := lt_of_some hx
  obtain ⟨d, hd⟩ : ∃ d, ds[i]? = some d := ⟨ds[i]'(by omega), by simp⟩
  obtain ⟨v, hv, dv⟩ := l.get hd
  rw [hx] at hv
  cases hv
  exact ⟨.refl, d, hd, dv.step fr' hw hm⟩
theorem it_rng {W : Wd} {Mo : Zone} {σ : Fm} {σV : L2.St} {H : Hp} {lo : Int} {k : Nat} :
    ∀ H1, Fr (fun b => wrt σ σV b ∨ H b = none) H H1 → (∀ i, i < (rangeD lo k).length → (Itr lo k).go i H1) ∧ (∀ i, (rangeD lo k).length ≤ i → (Itr lo k).stop i H1) ∧
      (∀ i x H2 (M : Zone), i < (rangeD lo k).length → (Itr lo k).yld i H1 x H2 → (∀ b, M b → Mu Mo σ σV b ∨ H b = none) → Trk M H1 → Fr Z0 H1 H2 ∧ ∃ d, (rangeD lo k)[i]? = some d ∧ Den W H2 M d x) := fun H1 f => by
  have hl : (rangeD lo k).length = k := by simp [rangeD]
  rw [hl]
  refine ⟨fun i hi => hi, fun i hi => hi, fun i x H2 M hi hy hm tr => ?_⟩
  obtain ⟨e, e2⟩ := hy
  subst e e2
  exact ⟨.refl, .int (lo + i), by simp [rangeD, List.getElem?_range hi], .int _⟩
theorem ranged_inv {ds is : List D} (h : ranged ds = .ok is) : (∃ j : Int, ds = [.int j] ∧ -(2 ^ 62) ≤ j ∧ j < 2 ^ 62 ∧ is = rangeD 0 j.toNat) ∨
    ∃ i j : Int, ds = [.int i, .int j] ∧ (-(2 ^ 62) ≤ i ∧ i < 2 ^ 62 ∧ -(2 ^ 62) ≤ j ∧ j < 2 ^ 62) ∧ is = rangeD i (j - i).toNat := by
  unfold ranged at h
  split at h
  · obtain ⟨h1, h⟩ := guard_inv h
    cases h
    have := of_decide_eq_true h1
    exact .inl ⟨_, rfl, this.1, this.2, rfl⟩
  · obtain ⟨h1, h⟩ := guard_inv h
    cases h
    exact .inr ⟨_, _, rfl, of_decide_eq_true h1, rfl⟩
  · cases h
theorem evO_len : ∀ {l : E} {es : List Expr} {σ : Fm} {xs : List Opd} {σ' : Fm}, chkL T sc l es = true → evO C l σ = .ok (xs, σ') → xs.length = es.length
  | l, [], σ, xs, σ', h, e => by
    cases l <;> simp only [chkL, Bool.false_eq_true] at h
    cases e
    rfl
  | l, e :: es, σ, xs, σ', h, hv => by
    cases l <;> simp only [chkL, Bool.false_eq_true, Bool.and_eq_true] at h
    rename_i a l
    have hv : ((ev C a σ).bind fun x => (evO C l x.2.2).bind fun y => .ok (x.1 :: y.1, y.2)) = R.ok (xs, σ') := hv
    obtain ⟨x, _, hv⟩ := bind_inv hv
    obtain ⟨⟨ys, σ2⟩, h2, hv⟩ := bind_inv hv
    cases hv
    simp [evO_len h.2 h2]
theorem star_two {T : Tb} {sc : Scope} {l : E} {e1 e2 : Expr} {env : PySem.Env} (h : chkL T sc l [e1, e2] = true) : starEach [e1, e2] env = [(false, eval e1 env), (false, eval e2 env)] ∧ starEach [e2] env = [(false, eval e2 env)] := by
  obtain ⟨a, m, rfl, h1, h2⟩ : ∃ a m, l = .cons a m ∧ chk T sc a e1 = true ∧ chkL T sc m [e2] = true := by
    cases l <;> simp only [chkL, Bool.and_eq_true, Bool.false_eq_true] at h
    exact ⟨_, _, rfl, h.1, h.2⟩
  obtain ⟨b, m', rfl, h3, _⟩ : ∃ a m', m = .cons a m' ∧ chk T sc a e2 = true ∧ chkL T sc m' [] = true := by
    cases m <;> simp only [chkL, Bool.and_eq_true, Bool.false_eq_true] at h2
    exact ⟨_, _, rfl, h2.1, h2.2⟩
  have q := star_plain (es := []) (env := env) (chk_plain h3)
  exact ⟨by rw [star_plain (chk_plain h1), q]; rfl, q⟩
theorem walked_inv {x : Opd} {σ σ' : Fm} {ds : List D} (h : walked x σ = .ok (ds, σ')) : (rd σ x = .ok (.tup ds) ∧ σ' = σ) ∨ (x = .v (.lst ds) ∧ σ' = σ) ∨ ∃ i, x = .r i ∧ σ[i]? = some (.mu (.lst ds)) ∧ σ' = σ.set i (.lk (.lst ds)) := by
  unfold walked at h
  obtain ⟨d, h3, h2⟩ := bind_inv h
  cases d with
  | tup l =>
    have h2 : R.ok (l, σ) = .ok (ds, σ') := h2
    simp only [R.ok.injEq, Prod.mk.injEq] at h2
    obtain ⟨e1, e2⟩ := h2
    rw [e1] at h3
    exact .inl ⟨h3, e2.symm⟩
  | lst l =>
    cases x with
    | v d =>
      have h2 : R.ok (l, σ) = .ok (ds, σ') := h2
      simp only [R.ok.injEq, Prod.mk.injEq] at h2
      obtain ⟨e1, e2⟩ := h2
      have h3 : d = .lst l := by cases h3; rfl
      exact .inr (.inl ⟨by rw [h3, e1], e2.symm⟩)
    | r i =>
      cases e1 : σ[i]? with
      | none =>
        simp only [e1] at h2
        cases h2
      | some s =>
        cases s with
        | mu d' =>
          simp only [e1, R.ok.injEq, Prod.mk.injEq] at h2
          unfold rd at h3
          simp only [e1, R.ok.injEq] at h3
          obtain ⟨e2, e3⟩ := h2
          subst e2
          subst h3
          exact .inr (.inr ⟨i, rfl, e1, e3.symm⟩)
        | _ =>
          simp only [e1] at h2
          cases h2
  | _ => cases h2
/-- what a walked thing yields: the reading, for any iterators over lists and tuples -/
theorem walk_gen {JL JT : Addr → It} {g : List D → List D} {K : PySem.W.Frag}
    (hL : ∀ {Mo : Zone} {σ : Fm} {σV : L2.St} {H : Hp} {a : Addr} {ds : List D} {vs : List V}, H a = some (.lst vs) → ¬ wrt σ σV a → DenL T.W H (Mu Mo σ σV) ds vs → (∀ b, wrt σ σV b → Mu Mo σ σV b) →
      ∀ H1, Fr (fun b => wrt σ σV b ∨ H b = none) H H1 → (∀ i, i < (g ds).length → (JL a).go i H1) ∧ (∀ i, (g ds).length ≤ i → (JL a).stop i H1) ∧
      (∀ i x H2 (M : Zone), i < (g ds).length → (JL a).yld i H1 x H2 → (∀ b, M b → Mu Mo σ σV b ∨ H b = none) → Trk M H1 → Fr Z0 H1 H2 ∧ ∃ d, (g ds)[i]? = some d ∧ Den T.W H2 M d x))
    (hT : ∀ {Mo : Zone} {σ : Fm} {σV : L2.St} {H : Hp} {a : Addr} {ds : List D} {vs : List V}, H a = some (.tup vs) → ¬ wrt σ σV a → DenL T.W H (Mu Mo σ σV) ds vs → (∀ b, wrt σ σV b → Mu Mo σ σV b) →
      ∀ H1, Fr (fun b => wrt σ σV b ∨ H b = none) H H1 → (∀ i, i < (g ds).length → (JT a).go i H1) ∧ (∀ i, (g ds).length ≤ i → (JT a).stop i H1) ∧
      (∀ i x H2 (M : Zone), i < (g ds).length → (JT a).yld i H1 x H2 → (∀ b, M b → Mu Mo σ σV b ∨ H b = none) → Trk M H1 → Fr Z0 H1 H2 ∧ ∃ d, (g ds)[i]? = some d ∧ Den T.W H2 M d x))
    {a : E} {σV : L2.St} {H : Hp} {Rr : It → Hp → Prop} (q : iW T.W (fun σ => (ev C a σ).bind fun x => (walked x.1 x.2.2).bind fun y => .ok (g y.1, x.1, y.2)) σV H Rr) :
    tE T.W (ev C a) σV H fun x H1 => ∃ b, x = .ref b ∧ ((∃ xs, SqL K H1 b xs ∧ Rr (JL b) H1) ∨ (∃ xs, SqT K H1 b xs ∧ Rr (JT b) H1)) := by
  obtain ⟨Mo, σ, ds, lk, σ', r, hv, k⟩ := q
  obtain ⟨⟨x, o1, σ1⟩, h1, hv⟩ := bind_inv hv
  obtain ⟨⟨ds', σ2⟩, h2, hv⟩ := bind_inv hv
  have hv : R.ok (g ds', x, σ2) = .ok (ds, lk, σ') := hv
  simp only [R.ok.injEq, Prod.mk.injEq] at hv
  obtain ⟨e1, e2, e3⟩ := hv
  subst e1 e2 e3
  refine ⟨Mo, σ, x, o1, σ1, r, h1, fun v H1 p => ?_⟩
  rcases walked_inv h2 with ⟨h3, e⟩ | ⟨e0, e⟩ | ⟨i, e0, e1, e⟩
  · have hd := p.val.rd p.rel h3
    subst e
    obtain ⟨a, vs, rfl, ha, m, la⟩ := hd.tup
    have nw : ¬ wrt σ2 σV a := p.rel.nt ha
    refine ⟨a, rfl, .inr ⟨vs, .of ha, k _ _ ⟨p.fr, p.dm, p.mm, p.wm, p.ios, p.rel, fun i e => ?_, hT ha nw la (fun b z => .inr (wrt_le z))⟩⟩⟩
    subst e
    obtain ⟨b, e, ow⟩ := p.rel.mu_own (rd_held h3) (show σV[i]? = some (some (.ref a)) from p.val)
    cases ow.2
  · subst e0 e
    have hd : Den T.W H1 (Mu Mo σ2 σV) (.lst ds') v := p.val.drop
    cases hd with
    | lst ha m la =>
      have nw : ¬ wrt σ2 σV _ := fun z => m (.inr (wrt_le z))
      exact ⟨_, rfl, .inl ⟨_, .of ha, k _ _ ⟨p.fr, p.dm, p.mm, p.wm, p.ios, p.rel, fun i e => (by cases e), hL ha nw la (fun b z => .inr (wrt_le z))⟩⟩⟩
  · subst e0 e
    have hh : Held σ1 i (.lst ds') := ⟨_, e1, rfl⟩
    have hi := lt_of_some e1
    obtain ⟨a, ea, na, ow⟩ := p.rel.mu i _ hh
    have ev : v = .ref a := by
      have z : σV[i]? = some (some v) := p.val
      rw [ea] at z
      exact (Option.some.inj (Option.some.inj z)).symm
    subst ev
    have hmu : ∀ b, muts (σ1.set i (.lk (.lst ds'))) σV b ↔ muts σ1 σV b := fun b => muts_set hh rfl
    have hwo : ∀ b, wrt (σ1.set i (.lk (.lst ds'))) σV b → wrt σ1 σV b := fun b z => wrt_off rfl hi z
    cases ow with
    | lst ha la =>
      have rel2 : Rel T.W Mo (σ1.set i (.lk (.lst ds'))) σV H1 := p.rel.upd hh rfl ea .refl (fun b z => z) (fun b z => z) (fun b z => .inl z) p.rel.tr (.lst ha la)
      have nw : ¬ wrt (σ1.set i (.lk (.lst ds'))) σV a := by
        rintro ⟨j, s, d, hj, hw, hv⟩
        by_cases q : j = i
        · subst q
          rw [List.getElem?_set_self hi] at hj
          cases hj
          cases hw
        · rw [List.getElem?_set_ne (Ne.symm q)] at hj
          exact q (p.rel.ne j i d _ a ⟨s, hj, wr_held hw⟩ hh hv ea)
      have la2 : DenL T.W H1 (Mu Mo (σ1.set i (.lk (.lst ds'))) σV) ds' _ := la.step (Mw := Z0) .refl (fun _ z => z.elim) fun b z => .inl (z.elim .inl fun z => .inr ((hmu b).mp z))
      refine ⟨a, rfl, .inl ⟨_, .of ha, k _ _ ⟨p.fr, p.dm, fun b z => p.mm b ((hmu b).mp z), fun b z => p.wm b (hwo b z), fun j b ej => (p.ios j b ej).set e1 (fun c z => nomatch z), rel2, fun j ej => ?_, hL ha nw la2 (fun b z => .inr (wrt_le z))⟩⟩⟩
      · cases ej
        refine ⟨.lst ds', a, List.getElem?_set_self hi, ea, p.wm a ⟨i, .mu (.lst ds'), .lst ds', e1, rfl, ea⟩, fun b z => ?_⟩
        obtain ⟨s, h1, h2⟩ := p.ios i b z
        rw [e1] at h1
        cases h1
        cases h2
theorem enumF_len : ∀ {l : List D} {n : Nat}, (enumF n l).length = l.length
  | [], _ => rfl
  | d :: l, n => by simp only [enumF, List.length_cons, enumF_len]
theorem enumF_get : ∀ {l : List D} {n i : Nat}, (enumF n l)[i]? = (l[i]?).map fun d => D.tup [.int ((n + i : Nat) : Int), d]
  | [], _, _ => by simp [enumF]
  | d :: l, n, 0 => by simp [enumF]
  | d :: l, n, i + 1 => by
    simp only [enumF, List.getElem?_cons_succ]
    rw [enumF_get]
    congr 1
    funext d
    rw [show n + 1 + i = n + (i + 1) by omega]
theorem pair_den {W : Wd} {M : Zone} {H1 : Hp} {P : Addr} {d e : D} {x y : V} (hP : H1 P = none) (tr : Trk M H1) (dx : Den W H1 M d x) (dy : Den W H1 M e y) : Fr Z0 H1 (upd H1 P (.tup [x, y])) ∧ Den W (upd H1 P (.tup [x, y])) M (.tup [d, e]) (.ref P) := by
  have f : Fr Z0 H1 (upd H1 P (.tup [x, y])) := .new hP
  exact ⟨f, .tup upd_same trivial (.cons (dx.step f (fun _ z => z.elim) fun _ z => .inl z) (.cons (dy.step f (fun _ z => z.elim) fun _ z => .inl z) .nil))⟩
/-! enumerate -/
/-- the tuple at a, each item in a new pair -/
noncomputable def IteT (K : PySem.W.Frag) (a : Addr) : It :=
  ⟨fun i H => ∃ (xs : List V) (x : V), SqT K H a xs ∧ xs[i]? = some x,
    fun i H v H' => ∃ P x, v = .ref P ∧ H P = none ∧ H' = upd H P (.tup [.int (i : Nat), x]) ∧ ∀ xs, SqT K H a xs → xs[i]? = some x,
    fun i H => ∃ xs : List V, SqT K H a xs ∧ xs.length ≤ i⟩
theorem turn_enumT {P : Program} {w : World} {K : PySem.W.Frag} {es : List Expr} {m : Nat} {tp : Pos} (a e it : Addr) : Turn P w K (.Tuple es m tp) (IteT K a) [e, it] e (fun i h => (∃ old, IsEnum h e it ((i : Nat) : Int) old) ∧ h.IsTupleIter it a i ∧ e ≠ it) where
  mem := List.mem_cons_self
  obj := fun i h ⟨⟨old, he⟩, ⟨u, hu, _, hd⟩, _⟩ b hb => by
    rcases List.mem_cons.mp hb with z | z
    · subst z
      exact ⟨_, he, fun v q => nomatch q⟩
    · rw [List.mem_singleton.mp z]
      exact ⟨u, hu, fun v q => by rw [hd] at q; cases q⟩
  keep := fun i h h' ⟨⟨old, he⟩, hi, ne⟩ k => ⟨⟨old, k e List.mem_cons_self _ he⟩, hi.at fun u q => k it (List.mem_cons_of_mem _ List.mem_cons_self) u q, ne⟩
  item := fun {X} hP hw hK hc i pins s σ H E I hf ⟨⟨old, he⟩, hit, ne⟩ ⟨xs, x, hq, hx⟩ => by
    subst hP hw hK
    obtain ⟨its, rv, p, _⟩ := I.tuple hq
    obtain ⟨u, hu, ru⟩ := rv.get hx
    have le : e < s.heap.objs.size := Heap.lt_size he
    have li : it < s.heap.objs.size := let ⟨_, q, _⟩ := hit; Heap.lt_size q
    have ht : s.heap.IsTuple a its.toArray := p
    have na : a ≠ e := by
      rintro rfl
      obtain ⟨w1, q1, q2, q3⟩ := ht
      rw [he] at q1
      cases q1
      simp at q2
    have nt : a ≠ it := by
      rintro rfl
      obtain ⟨w1, q1, q2, q3⟩ := ht
      obtain ⟨w2, r1, r2, r3⟩ := hit
      rw [r1] at q1
      cases q1
      rw [r2] at q2
      simp at q2
    have hlt : i < its.toArray.size := by
      have := lt_of_some hu
      simpa using this
    have D := Draws.tuple (prog := X.prog) (w := X.w) (A := X.A.in1) (I.ok.hd hc) it a nt its.toArray
    refine wpAny_pyNext_enum_itemD D he ⟨hit, ht⟩ hlt ne (by simp [Ne.symm na, ne]) fun y h' tk hy ho st' hT hz hk => ?_
    have hu' : its.toArray[i]? = some u := by simpa using hu
    rw [hu'] at hy
    cases hy
    refine ⟨_, rfl, wpAny_letOwnedTupleGo_enum (s := { s with heap := h', toks := tk + 1 }) ho fun h2 he' sb => ?_⟩
    have hT2 : h2.get? s.heap.objs.size = some { cls := .type "tuple", data := .seq #[.int i tk, u] } := (sb.2 _ (Nat.ne_of_gt le)).trans hT
    have nw : ObjOk X.prog X.w (upd H s.heap.objs.size (.tup [.int (i : Nat), x])) h2 s.heap.objs.size (.tup [.int (i : Nat), x]) :=
      ⟨by show 2 ≤ sizeLine; decide, [.int i tk, u], .cons ⟨_, rfl⟩ (.cons ru .nil), ⟨_, hT2, rfl, _, rfl⟩⟩
    have J : Inv X pins σ (upd H s.heap.objs.size (.tup [.int (i : Nat), x])) { s with heap := h2, toks := tk + 1 } :=
      I.turnedNew (ch := [e, it]) (fun b u hb q => (sb.2 b (fun z => hb (by simp [z]))).trans (hk b u (fun z => hb (by simp [z])) (fun z => hb (by simp [z])) q)) hf (Nat.le_refl _) nw
    refine ⟨.ref s.heap.objs.size, _, J, rfl, ⟨_, x, rfl, I.hok.fresh (Nat.le_refl _), rfl, fun ys hy => by rw [I.tuple_inj hy hq]; exact hx⟩, ⟨⟨u, ?_⟩, st'.1.at fun v q => (sb.2 it (Ne.symm ne)).trans q, ne⟩, fun b hb => ?_⟩
    · rw [show ((i + 1 : Nat) : Int) = (i : Int) + 1 by omega]
      exact he'
    · have lb : b < s.heap.objs.size := by
        rcases List.mem_cons.mp hb with z | z
        · rw [z]; exact le
        · rw [List.mem_singleton.mp z]; exact li
      rw [upd_ne (Nat.ne_of_lt lb)]
      exact (hf b hb).1
  done := fun {X} hP hw hK hc i pins s σ H E I hf ⟨⟨old, he⟩, hit, ne⟩ ⟨xs, hq, hx⟩ => by
    subst hP hw hK
    obtain ⟨its, rv, p, _⟩ := I.tuple hq
    obtain ⟨f0, f1, f2, f3, f4, f5⟩ := hf it (List.mem_cons_of_mem _ List.mem_cons_self)
    have hl := rv.length
    have ht : s.heap.IsTuple a its.toArray := p
    have nt : a ≠ it := by
      rintro rfl
      obtain ⟨w1, q1, q2, q3⟩ := ht
      obtain ⟨w2, r1, r2, r3⟩ := hit
      rw [r1] at q1
      cases q1
      rw [r2] at q2
      simp at q2
    have hT : s.TypeIs (.ref e) "enumerate" := ⟨_, he, rfl⟩
    have no : its.toArray[i]? = none := by simp; omega
    unfold pyNext
    refine wpAny_bind (wpAny_attempt (wpAny_callSpecial?_slot (name := Str.ofString "__next__") hT F.slot_enumerate_next (wpAny_call_entry F.slot_enumerate_next hT F.entry_enumerate_next ?_ (F.args_enumerate_next_1 _))))
    show wpAny _ _ (field (.ref e) 2 >>= _) _ _ _
    refine wpAny_bind (wpAny_field he rfl (x := .ref it) rfl (wpAny_bind (wpAny_nextOf_tuple_end (A := X.A.in1) (I.ok.hd hc) hit ht no fun h' z hz ⟨u, hu, hcl⟩ => ?_)))
    refine wpAny_bind (wpAny_isInstance (T := "StopIteration") (b := true) ⟨u, hu, hcl⟩ isSubtype_stop (wpAny_pure ⟨rfl, ?_⟩))
    exact I.turned (t' := s.toks) (fun b u hb q => hz b u hb q) f0 f1 f3 f4 f5
  self := fun A i s Q E ⟨⟨_, he⟩, _⟩ h => wpAny_pyIter_enum he h
section
variable {prog : Program} {w : World} {A : Around} {E : Value → Shared → Prop} {s : Shared}
open AutoSeq1 (wpAny_loadPart') in
theorem meets_enum_tup (l : Addr) (items : Array Value) :
    Meets (Builtin.«enumerate.__new__» ⟨[.type "enumerate", .ref l], []⟩) (fun _ R s => s.heap.IsTuple l items ∧ R (.ok (.ret (.ref (s.heap.push { cls := .type "tuple_iterator", data := .fields #[.ref l, .int 0 0] }).objs.size)))
      { s with heap := (s.heap.push { cls := .type "tuple_iterator", data := .fields #[.ref l, .int 0 0] }).push { cls := .type "enumerate", data := .fields #[.none, .bool false, .ref s.heap.objs.size, rawInt 0, .none, .none] } }) := .of_wp fun prog w A R s h => by
  obtain ⟨hp, g, d, tk, os⟩ := s
  obtain ⟨ht, h⟩ := h
  have sub := sub_enumerate
  obtain ⟨ob, hl, hcl, n, hdt⟩ := id ht
  have q1 : ∀ {A' : Around} {E : Value → Shared → Prop} {Q : Value → Shared → Prop}, Q (.ref hp.objs.size) ⟨hp.push { cls := .type "tuple_iterator", data := .fields #[.ref l, .int 0 0] }, g, d, tk, os⟩ → wpAny (model prog w) A' (pyIter (.ref l)) Q E ⟨hp, g, d, tk, os⟩ := fun q => wpAny_pyIter_tuple ht q
  wp_walk
  refine wpAny_stack_any fun st => wpAny_pure ?_
  split
  · rename_i c _ _ _ _ _
    cases (c == Value.type "enumerate")
    · wp_walk using q1
      exact ⟨_, rfl, h⟩
    · wp_walk using q1
      exact ⟨_, rfl, h⟩
  · wp_walk using q1
    exact ⟨_, rfl, h⟩
theorem call_enum_tup {l : Addr} {items : Array Value} {Q : Value → Shared → Prop} (ht : s.heap.IsTuple l items)
    (h : ∀ h', IsEnum h' (s.heap.objs.size + 1) s.heap.objs.size 0 .none → h'.IsTupleIter s.heap.objs.size l 0 → (∀ b u, s.heap.get? b = some u → h'.get? b = some u) → Q (.ref (s.heap.objs.size + 1)) { s with heap := h' }) : wpAny (model prog w) A (call (.type "enumerate") [.ref l]) Q E s := by
  refine callType_new F.called_enumerate (by decide) (F.typeCall_enumerate_1 _) (F.newCall_enumerate_1 _) (fun u => F.args_object_init_2 u _) F.entry_enumerate_new (meets_enum_tup l items) ⟨ht, ?_⟩
  have hz : (s.heap.push { cls := .type "tuple_iterator", data := .fields #[.ref l, .int 0 0] }).objs.size = s.heap.objs.size + 1 := Heap.size_push ..
  show _ ∧ _
  rw [hz]
  have he : IsEnum ((s.heap.push { cls := .type "tuple_iterator", data := .fields #[.ref l, .int 0 0] }).push { cls := .type "enumerate", data := .fields #[.none, .bool false, .ref s.heap.objs.size, rawInt 0, .none, .none] }) (s.heap.objs.size + 1) s.heap.objs.size 0 .none := by
    have q := Heap.get?_push_size (s.heap.push { cls := .type "tuple_iterator", data := .fields #[.ref l, .int 0 0] }) (o := { cls := .type "enumerate", data := .fields #[.none, .bool false, .ref s.heap.objs.size, rawInt 0, .none, .none] }) rfl
    rw [hz] at q
    exact q
  exact ⟨⟨_, he, rfl⟩, h _ he ⟨_, Heap.get?_push_of_some _ (Heap.get?_push_size _ rfl), rfl, rfl⟩ fun b u q => Heap.get?_push_of_some _ (Heap.get?_push_of_some _ q)⟩
end
/-- enumerate of a list or a tuple -/
noncomputable def iEnumA (K : PySem.W.Frag) (te : TE) : TI := fun σ H R => te σ H fun x H1 => ∃ b, [x] = [V.ref b] ∧ ((∃ xs, SqL K H1 b xs ∧ R (Ite K b) H1) ∨ (∃ xs, SqT K H1 b xs ∧ R (IteT K b) H1))
theorem pi_enumA {X : Cx} {e : Expr} {te : TE} {p pos tp : Pos} {es : List Expr} {m : Nat} (hg : Gl X "enumerate") (hm : X.mg "enumerate" = none) (he : PE X e te) (hs : starEach [e] X.env = [(false, eval e X.env)]) : PI X (.Tuple es m tp) (.Call (.Name "enumerate" p) [e] [] pos) (iEnumA X.K te) := by
  refine ⟨fun pins s σ H R I h => ?_⟩
  have pa := pa_cons he (pa_nil (X := X)) hs
  refine Call_ (ld_blt I hg hm boot_enumerate (PyProof.Rows.callWith_type1 (thn (pa.run pos pins s σ H (fun vs H1 => ∃ b, vs = [V.ref b] ∧ ((∃ xs, SqL X.K H1 b xs ∧ R (Ite X.K b) H1) ∨ (∃ xs, SqT X.K H1 b xs ∧ R (IteT X.K b) H1))) I h) fun us s1 ⟨vs, H1, I1, r1, q1⟩ => ?_) hs rfl))
  obtain ⟨b, rfl, q⟩ := q1
  cases r1 with
  | cons r rr =>
    cases rr
    cases r
    have fr2 : ∀ c, c ∈ [s1.heap.objs.size + 1, s1.heap.objs.size] → FpOk X pins H1 c := fun c hc => by
      have hle : s1.heap.objs.size ≤ c := by
        rcases List.mem_cons.mp hc with z | z
        · rw [z]; exact Nat.le_add_right _ _
        · rw [List.mem_singleton.mp z]; exact Nat.le_refl _
      exact I1.fpOk hle (I1.hok.fresh hle)
    rcases q with ⟨xs, hq, q⟩ | ⟨xs, hq, q⟩
    · obtain ⟨its, rv, p', _⟩ := I1.list hq
      refine call_enumerate_list p'.isList fun h' he hit hsz hk => wpAny_pyIter_enum he ?_
      exact ⟨s1.heap.objs.size + 1, [s1.heap.objs.size + 1, s1.heap.objs.size], _, _, H1, rfl, I1.kept (t' := s1.toks) hk, turn_enum b (s1.heap.objs.size + 1) s1.heap.objs.size, ⟨⟨.none, he⟩, hit, Nat.succ_ne_self _⟩, fr2, q⟩
    · obtain ⟨its, rv, p', _⟩ := I1.tuple hq
      refine call_enum_tup (items := its.toArray) p' fun h' he hit hk => wpAny_pyIter_enum he ?_
      exact ⟨s1.heap.objs.size + 1, [s1.heap.objs.size + 1, s1.heap.objs.size], _, _, H1, rfl, I1.kept (t' := s1.toks) hk, turn_enumT b (s1.heap.objs.size + 1) s1.heap.objs.size, ⟨⟨.none, he⟩, hit, Nat.succ_ne_self _⟩, fr2, q⟩
/-! what they yield -/
section
variable {W : Wd} {Mo : Zone} {σ : Fm} {σV : L2.St} {H : Hp} {a b : Addr} {ds es : List D} {vs us : List V}
theorem it_listE (h : H a = some (.lst vs)) (n : ¬ wrt σ σV a) (l : DenL W H (Mu Mo σ σV) ds vs) (hw : ∀ b, wrt σ σV b → Mu Mo σ σV b) (K : PySem.W.Frag) :
    ∀ H1, Fr (fun b => wrt σ σV b ∨ H b = none) H H1 → (∀ i, i < (enumF 0 ds).length → (Ite K a).go i H1) ∧ (∀ i, (enumF 0 ds).length ≤ i → (Ite K a).stop i H1) ∧
      (∀ i x H2 (M : Zone), i < (enumF 0 ds).length → (Ite K a).yld i H1 x H2 → (∀ b, M b → Mu Mo σ σV b ∨ H b = none) → Trk M H1 → Fr Z0 H1 H2 ∧ ∃ d, (enumF 0 ds)[i]? = some d ∧ Den W H2 M d x) := fun H1 f => by
  obtain ⟨q1, q2, q3⟩ := it_list h n l hw K H1 f
  rw [enumF_len]
  refine ⟨q1, q2, fun i x H2 M hi ⟨P, y, e1, e2, e3, e4⟩ hm tr => ?_⟩
  obtain ⟨_, d, hd, dn⟩ := q3 i y H1 M hi ⟨rfl, e4⟩ hm tr
  subst e1 e3
  obtain ⟨f2, dp⟩ := pair_den e2 tr (.int (i : Int)) dn
  exact ⟨f2, _, by rw [enumF_get, hd, Nat.zero_add]; rfl, dp⟩
theorem it_tupE (h : H a = some (.tup vs)) (n : ¬ wrt σ σV a) (l : DenL W H (Mu Mo σ σV) ds vs) (hw : ∀ b, wrt σ σV b → Mu Mo σ σV b) (K : PySem.W.Frag) :
    ∀ H1, Fr (fun b => wrt σ σV b ∨ H b = none) H H1 → (∀ i, i < (enumF 0 ds).length → (IteT K a).go i H1) ∧ (∀ i, (enumF 0 ds).length ≤ i → (IteT K a).stop i H1) ∧
      (∀ i x H2 (M : Zone), i < (enumF 0 ds).length → (IteT K a).yld i H1 x H2 → (∀ b, M b → Mu Mo σ σV b ∨ H b = none) → Trk M H1 → Fr Z0 H1 H2 ∧ ∃ d, (enumF 0 ds)[i]? = some d ∧ Den W H2 M d x) := fun H1 f => by
  obtain ⟨q1, q2, q3⟩ := it_tup h n l hw K H1 f
  rw [enumF_len]
  refine ⟨q1, q2, fun i x H2 M hi ⟨P, y, e1, e2, e3, e4⟩ hm tr => ?_⟩
  obtain ⟨_, d, hd, dn⟩ := q3 i y H1 M hi ⟨rfl, e4⟩ hm tr
  subst e1 e3
  obtain ⟨f2, dp⟩ := pair_den e2 tr (.int (i : Int)) dn
  exact ⟨f2, _, by rw [enumF_get, hd, Nat.zero_add]; rfl, dp⟩
theorem zip_get {i : Nat} : ∀ {x y : List D} {d e : D}, x[i]? = some d → y[i]? = some e → ((x.zip y).map fun p => D.tup [p.1, p.2])[i]? = some (.tup [d, e]) := fun {x y d e} h1 h2 => by
  rw [List.getElem?_map, show (x.zip y)[i]? = some (d, e) from List.getElem?_zip_eq_some.mpr ⟨h1, h2⟩]
  rfl
theorem it_zipL (h : H a = some (.lst vs)) (n : ¬ wrt σ σV a) (l : DenL W H (Mu Mo σ σV) ds vs) (h2 : H b = some (.lst us)) (n2 : ¬ wrt σ σV b) (l2 : DenL W H (Mu Mo σ σV) es us) (hw : ∀ b, wrt σ σV b → Mu Mo σ σV b) (K : PySem.W.Frag) :
    ∀ H1, Fr (fun b => wrt σ σV b ∨ H b = none) H H1 → (∀ i, i < ((ds.zip es).map fun p => D.tup [p.1, p.2]).length → (Itz K a b).go i H1) ∧ (∀ i, ((ds.zip es).map fun p => D.tup [p.1, p.2]).length ≤ i → (Itz K a b).stop i H1) ∧
      (∀ i x H2 (M : Zone), i < ((ds.zip es).map fun p => D.tup [p.1, p.2]).length → (Itz K a b).yld i H1 x H2 → (∀ b, M b → Mu Mo σ σV b ∨ H b = none) → Trk M H1 → Fr Z0 H1 H2 ∧ ∃ d, ((ds.zip es).map fun p => D.tup [p.1, p.2])[i]? = some d ∧ Den W H2 M d x) := fun H1 f => by
  obtain ⟨q1, q2, q3⟩ := it_list h n l hw K H1 f
  obtain ⟨r1, r2, r3⟩ := it_list h2 n2 l2 hw K H1 f
  rw [List.length_map, List.length_zip]
  refine ⟨fun i hi => ?_, fun i hi => ?_, fun i x H2 M hi ⟨P, y, z, e1, e2, e3, e4, e5⟩ hm tr => ?_⟩
  · obtain ⟨xs, x, g1, g2⟩ := q1 i (by omega)
    obtain ⟨ys, y, g3, g4⟩ := r1 i (by omega)
    exact ⟨xs, ys, x, y, g1, g3, g2, g4⟩
  · obtain ⟨xs, g1, g2⟩ := q2 ds.length (Nat.le_refl _)
    obtain ⟨ys, g3, g4⟩ := r2 es.length (Nat.le_refl _)
    refine ⟨xs, ys, g1, g3, ?_⟩
    by_cases hc : ds.length ≤ es.length
    · exact .inl (by omega)
    · exact .inr (by omega)
  · obtain ⟨_, d, hd, dn⟩ := q3 i y H1 M (by omega) ⟨rfl, e4⟩ hm tr
    obtain ⟨_, d2, hd2, dn2⟩ := r3 i z H1 M (by omega) ⟨rfl, e5⟩ hm tr
    subst e1 e3
    obtain ⟨f2, dp⟩ := pair_den e2 tr dn dn2
    exact ⟨f2, _, zip_get hd hd2, dp⟩
theorem it_zipT (h : H a = some (.tup vs)) (n : ¬ wrt σ σV a) (l : DenL W H (Mu Mo σ σV) ds vs) (h2 : H b = some (.tup us)) (n2 : ¬ wrt σ σV b) (l2 : DenL W H (Mu Mo σ σV) es us) (hw : ∀ b, wrt σ σV b → Mu Mo σ σV b) (K : PySem.W.Frag) :
    ∀ H1, Fr (fun b => wrt σ σV b ∨ H b = none) H H1 → (∀ i, i < ((ds.zip es).map fun p => D.tup [p.1, p.2]).length → (RZ.ItzT K a b).go i H1) ∧ (∀ i, ((ds.zip es).map fun p => D.tup [p.1, p.2]).length ≤ i → (RZ.ItzT K a b).stop i H1) ∧
      (∀ i x H2 (M : Zone), i < ((ds.zip es).map fun p => D.tup [p.1, p.2]).length → (RZ.ItzT K a b).yld i H1 x H2 → (∀ b, M b → Mu Mo σ σV b ∨ H b = none) → Trk M H1 → Fr Z0 H1 H2 ∧ ∃ d, ((ds.zip es).map fun p => D.tup [p.1, p.2])[i]? = some d ∧ Den W H2 M d x) := fun H1 f => by
  obtain ⟨q1, q2, q3⟩ := it_tup h n l hw K H1 f
  obtain ⟨r1, r2, r3⟩ := it_tup h2 n2 l2 hw K H1 f
  rw [List.length_map, List.length_zip]
  refine ⟨fun i hi => ?_, fun i hi => ?_, fun i x H2 M hi ⟨P, y, z, e1, e2, e3, e4, e5⟩ hm tr => ?_⟩
  · obtain ⟨xs, x, g1, g2⟩ := q1 i (by omega)
    obtain ⟨ys, y, g3, g4⟩ := r1 i (by omega)
    exact ⟨xs, ys, x, y, g1, g3, g2, g4⟩
  · obtain ⟨xs, g1, g2⟩ := q2 ds.length (Nat.le_refl _)
    obtain ⟨ys, g3, g4⟩ := r2 es.length (Nat.le_refl _)
    refine ⟨xs, ys, g1, g3, ?_⟩
    by_cases hc : ds.length ≤ es.length
    · exact .inl (by omega)
    · exact .inr (by omega)
  · obtain ⟨_, d, hd, dn⟩ := q3 i y H1 M (by omega) ⟨rfl, e4⟩ hm tr
    obtain ⟨_, d2, hd2, dn2⟩ := r3 i z H1 M (by omega) ⟨rfl, e5⟩ hm tr
    subst e1 e3
    obtain ⟨f2, dp⟩ := pair_den e2 tr dn dn2
    exact ⟨f2, _, zip_get hd hd2, dp⟩
end
theorem zipD_inv {d e : D} {l : List D} (h : zipD d e = .ok l) : (∃ x y, d = .lst x ∧ e = .lst y ∧ l = (x.zip y).map fun p => D.tup [p.1, p.2]) ∨ ∃ x y, d = .tup x ∧ e = .tup y ∧ l = (x.zip y).map fun p => D.tup [p.1, p.2] := by
  unfold zipD at h
  split at h
  · cases h; exact .inl ⟨_, _, rfl, rfl, rfl⟩
  · cases h; exact .inr ⟨_, _, rfl, rfl, rfl⟩
  · cases h
theorem sound_it (o : Okay T C n X sc) {tg : Expr} {c : E} {e : Expr} (hs : ∀ a, a ∈ subI c → Snd T C a n X sc) (h : chkI T sc c tg e = true) : PI X tg e (iW T.W (evI C c)) := by
  cases c with
  | itm a =>
    have h : chk T sc a e = true := h
    refine PI.weak (pi_sq ((hs a (by simp [subI])).e _ h)) fun σV H Rr q => ?_
    have q := walk_gen (g := fun l => l) (JL := Itl X.K) (JT := Itt X.K) (K := X.K) (fun a1 a2 a3 a4 => it_list a1 a2 a3 a4 X.K) (fun a1 a2 a3 a4 => it_tup a1 a2 a3 a4 X.K) q
    obtain ⟨Mo, σ, x, o1, σ1, r, h1, k⟩ := q
    refine ⟨Mo, σ, x, o1, σ1, r, h1, fun v H1 p => ?_⟩
    obtain ⟨b, e, q⟩ := k v H1 p
    exact ⟨b, e, q.elim (fun ⟨xs, q1, q2⟩ => .inl ⟨⟨xs, q1⟩, q2⟩) fun ⟨xs, q1, q2⟩ => .inr ⟨⟨xs, q1⟩, q2⟩⟩
  | enum a =>
    unfold chkI at h
    split at h <;> first | (rename_i h0; cases h0; done) | skip
    all_goals first | (cases h; done) | skip
    all_goals first | (rename_i heq; cases heq; done) | skip
    rename_i _ a' _ x p y pos heq
    cases heq
    simp only [Bool.and_eq_true, decide_eq_true_eq] at h
    obtain ⟨⟨⟨⟨rfl, h1⟩, h2⟩, h3⟩, h4⟩ := h
    obtain ⟨es, m, tp, rfl⟩ := isTupE_inv h3
    refine PI.weak (pi_enumA (gl_of o h1) (o.blt _ h2) ((hs a (by simp [subI])).e _ h4) (star_plain (chk_plain h4))) fun σV H Rr q => ?_
    have q := walk_gen (g := enumF 0) (JL := Ite X.K) (JT := IteT X.K) (K := X.K) (fun a1 a2 a3 a4 => it_listE a1 a2 a3 a4 X.K) (fun a1 a2 a3 a4 => it_tupE a1 a2 a3 a4 X.K) q
    obtain ⟨Mo, σ, x, o1, σ1, r, h1, k⟩ := q
    refine ⟨Mo, σ, x, o1, σ1, r, h1, fun v H1 p => ?_⟩
    obtain ⟨b, e, q⟩ := k v H1 p
    exact ⟨b, by rw [e], q⟩
  | zip a b =>
    unfold chkI at h
    split at h <;> first | (rename_i h0; cases h0; done) | skip
    all_goals first | (cases h; done) | skip
    all_goals first | (rename_i heq; cases heq; done) | skip
    rename_i _ a' b' _ x p y z pos heq
    cases heq
    simp only [Bool.and_eq_true, decide_eq_true_eq] at h
    obtain ⟨⟨⟨⟨⟨rfl, h1⟩, h2⟩, h3⟩, h4⟩, h5⟩ := h
    obtain ⟨es, m, tp, rfl⟩ := isTupE_inv h3
    have s2 : starEach [z] X.env = [(false, eval z X.env)] := star_plain (chk_plain h5)
    have s1 : starEach [y, z] X.env = (false, eval y X.env) :: starEach [z] X.env := star_plain (chk_plain h4)
    refine PI.weak (RZ.pi_zipA (gl_of o h1) (o.blt _ h2) (pa_cons ((hs a (by simp [subI])).e _ h4) (pa_cons ((hs b (by simp [subI])).e _ h5) pa_nil s2) s1) s1 (by rw [s2]; rfl)) fun σV H Rr q => ?_
    obtain ⟨Mo, σ, ds, lk, σ', r, hv, k⟩ := q
    have hv : ((ev C a σ).bind fun x => (fz x).bind fun x => (ev C b x.2.2).bind fun y => (fz y).bind fun y => (zipD x.1 y.1).bind fun l => .ok (l, Opd.v .non, y.2.2)) = R.ok (ds, lk, σ') := hv
    obtain ⟨⟨x1, o1, σ1⟩, g1, hv⟩ := bind_inv hv
    obtain ⟨⟨d1, w1, σ2⟩, g2, hv⟩ := bind_inv hv
    obtain ⟨⟨x2, o2, σ3⟩, g3, hv⟩ := bind_inv hv
    obtain ⟨⟨d2, w2, σ4⟩, g4, hv⟩ := bind_inv hv
    obtain ⟨l, g5, hv⟩ := bind_inv hv
    cases hv
    refine ⟨Mo, σ, x1, o1, σ1, r, g1, fun v1 H1 p1 => ?_⟩
    have p1 := p1.freeze g2
    refine ⟨Mo, σ2, x2, o2, σ3, p1.rel, g3, fun v2 H2 p2 => ?_⟩
    have p2 := p2.freeze g4
    have P := p1.trans p2
    have dA : Den T.W H2 (Mu Mo _ σV) d1 v1 := VR.step p1.val p2
    have dB : Den T.W H2 (Mu Mo _ σV) d2 v2 := p2.val.drop
    show ∃ a b xs ys, [v1, v2] = [V.ref a, V.ref b] ∧ _
    rcases zipD_inv (show zipD d1 d2 = .ok _ from g5) with ⟨x, y, rfl, rfl, rfl⟩ | ⟨x, y, rfl, rfl, rfl⟩
    · cases dA with
      | lst ha ma la =>
        cases dB with
        | lst hb mb lb =>
          exact ⟨_, _, _, _, rfl, .inl ⟨.of ha, .of hb, k _ _ ⟨P.fr, P.dm, P.mm, P.wm, P.ios, P.rel, fun i e => (by cases e), it_zipL ha (fun z => ma (.inr (wrt_le z))) la hb (fun z => mb (.inr (wrt_le z))) lb (fun b z => .inr (wrt_le z)) X.K⟩⟩⟩
    · cases dA with
      | tup ha ma la =>
        cases dB with
        | tup hb mb lb =>
          exact ⟨_, _, _, _, rfl, .inr ⟨.of ha, .of hb, k _ _ ⟨P.fr, P.dm, P.mm, P.wm, P.ios, P.rel, fun i e => (by cases e), it_zipT ha (P.rel.nt ha) la hb (P.rel.nt hb) lb (fun b z => .inr (wrt_le z)) X.K⟩⟩⟩
  | range l =>
    cases e with
    | Call g es kws pos =>
      cases g with
      | Name x p =>
        cases kws with
        | cons _ _ => simp [chkI] at h
        | nil =>
          simp only [chkI, Bool.and_eq_true, decide_eq_true_eq] at h
          obtain ⟨⟨⟨⟨rfl, h1⟩, h2⟩, h3⟩, h4⟩ := h
          have hg := gl_of o h1
          have hm := o.blt _ h2
          have go : ∀ (σV : L2.St) (H : Hp) (Rr : It → Hp → Prop), iW T.W (evI C (.range l)) σV H Rr → tO T.W (evO C l) σV H fun vs H1 => vs.length = es.length ∧ ((∃ j : Int, vs = [.int j] ∧ -(2 ^ 62) ≤ j ∧ j < 2 ^ 62 ∧ Rr (Itr 0 j.toNat) H1) ∨
              ∃ i j : Int, vs = [.int i, .int j] ∧ (-(2 ^ 62) ≤ i ∧ i < 2 ^ 62 ∧ -(2 ^ 62) ≤ j ∧ j < 2 ^ 62) ∧ Rr (Itr i (j - i).toNat) H1) := fun σV H Rr q => by
            obtain ⟨Mo, σ, ds, lk, σ', r, hv, k⟩ := q
            have hv : ((evO C l σ).bind fun x => (rds x.2 x.1).bind fun ds => (ranged ds).bind fun is => .ok (is, Opd.v .non, x.2)) = R.ok (ds, lk, σ') := hv
            obtain ⟨⟨xs, σ1⟩, g1, hv⟩ := bind_inv hv
            obtain ⟨as, g2, hv⟩ := bind_inv hv
            obtain ⟨is, g3, hv⟩ := bind_inv hv
            cases hv
            refine ⟨Mo, σ, xs, _, r, g1, fun vs H' p => ⟨by rw [← p.val.length]; exact evO_len h3 g1, ?_⟩⟩
            have hd := rds_den p.rel p.val g2
            rcases ranged_inv g3 with ⟨j, rfl, a1, a2, rfl⟩ | ⟨i, j, rfl, a1, rfl⟩
            · obtain ⟨v, rfl, hv⟩ := all2_1 hd
              cases hv.int
              exact .inl ⟨j, rfl, a1, a2, k _ _ ⟨p.fr, p.dm, p.mm, p.wm, p.ios, p.rel, fun i e => (by cases e), it_rng⟩⟩
            · obtain ⟨v, v', rfl, hv, hv'⟩ := all2_2 hd
              cases hv.int
              cases hv'.int
              exact .inr ⟨i, j, rfl, a1, k _ _ ⟨p.fr, p.dm, p.mm, p.wm, p.ios, p.rel, fun i e => (by cases e), it_rng⟩⟩
          match es, h3, h4, go with
          | [e1], h3, h4, go =>
            have pl : starEach [e1] X.env = [(false, eval e1 X.env)] := by
              cases l <;> simp only [chkL, Bool.and_eq_true, Bool.false_eq_true] at h3
              exact star_plain (chk_plain h3.1)
            refine PI.weak (pi_range1 hg hm ((hs l (by simp [subI])).o _ h3) pl) fun σV H Rr q => ?_
            obtain ⟨Mo, σ, xs, σ', r, hv, k⟩ := go σV H Rr q
            refine ⟨Mo, σ, xs, σ', r, hv, fun vs H' p => ?_⟩
            obtain ⟨hlen, q | ⟨i, j, rfl, _⟩⟩ := k vs H' p
            · exact q
            · simp at hlen
          | [e1, e2], h3, h4, go =>
            obtain ⟨pl1, pl2⟩ : starEach [e1, e2] X.env = [(false, eval e1 X.env), (false, eval e2 X.env)] ∧ starEach [e2] X.env = [(false, eval e2 X.env)] := by
              exact star_two h3
            refine PI.weak (pi_range2 hg hm ((hs l (by simp [subI])).o _ h3) pl1 pl2) fun σV H Rr q => ?_
            obtain ⟨Mo, σ, xs, σ', r, hv, k⟩ := go σV H Rr q
            refine ⟨Mo, σ, xs, σ', r, hv, fun vs H' p => ?_⟩
            obtain ⟨hlen, ⟨j, rfl, _⟩ | q⟩ := k vs H' p
            · simp at hlen
            · exact q
          | [], _, h4, _ => simp at h4
          | _ :: _ :: _ :: _, _, h4, _ => simp at h4
      | _ => simp [chkI] at h
    | _ => simp [chkI] at h
  | _ => simp [chkI] at h
/-! ### list(range(..)); methods of texts -/
theorem rgV_den {W : Wd} {H : Hp} {M : Zone} (a b : Int) : DenL W H M (rangeD a (b - a).toNat) (rgV a b) := by
  unfold rangeD rgV
  generalize List.range (b - a).toNat = l
  induction l with
  | nil => exact .nil
  | cons i l ih => exact .cons (.int _) ih
theorem snd_lrg (o : Okay T C n X sc) {l : E} (hc : ∀ a m, l = .cons a m → Snd T C a n X sc ∧ ∀ b m', m = .cons b m' → Snd T C b n X sc) {e : Expr} (h : chk T sc (.lrg l) e = true) : PE X e (tE T.W (ev C (.lrg l))) := by
  unfold chk at h
  split at h <;> first | (rename_i h0; cases h0; done) | skip
  all_goals first | (cases h; done) | skip
  rename_i x p y p2 es p3 p4
  simp only [Bool.and_eq_true, decide_eq_true_eq] at h
  obtain ⟨⟨⟨⟨⟨⟨⟨rfl, h1⟩, h2⟩, rfl⟩, h3⟩, h4⟩, h5⟩, h6⟩ := h
  have gL := gl_of o h1
  have mL := o.blt _ h2
  have gR := gl_of o h3
  have mR := o.blt _ h4
  have go : ∀ (σV : L2.St) (H : Hp) (Q : VK), tE T.W (ev C (.lrg l)) σV H Q → tO T.W (evO C l) σV H fun vs H1 => vs.length = es.length ∧ ((∃ j : Int, vs = [.int j] ∧ RgOk 0 j ∧ ∀ q, H1 q = none → Q (.ref q) (upd H1 q (.lst (rgV 0 j)))) ∨
      ∃ i j : Int, vs = [.int i, .int j] ∧ RgOk i j ∧ ∀ q, H1 q = none → Q (.ref q) (upd H1 q (.lst (rgV i j)))) := fun σV H Q q => by
    obtain ⟨Mo, σ, z, ow, σ', r, hv, k⟩ := q
    have hv : ((evO C l σ).bind fun x => (rds x.2 x.1).bind fun ds => (ranged ds).bind fun is => (R.guard (sizeOk is.length)).bind fun _ => .ok (Opd.v (.lst is), true, x.2)) = R.ok (z, ow, σ') := hv
    obtain ⟨⟨xs, σ1⟩, g1, hv⟩ := bind_inv hv
    obtain ⟨as, g2, hv⟩ := bind_inv hv
    obtain ⟨is, g3, hv⟩ := bind_inv hv
    obtain ⟨g4, hv⟩ := guard_inv hv
    cases hv
    have g4 : is.length ≤ 16777216 := of_decide_eq_true g4
    refine ⟨Mo, σ, xs, _, r, g1, fun vs H' p => ⟨by rw [← p.val.length]; exact evO_len h6 g1, ?_⟩⟩
    have hd := rds_den p.rel p.val g2
    have ll : ∀ a b : Int, (rangeD a (b - a).toNat).length = (b - a).toNat := fun a b => by simp [rangeD]
    rcases ranged_inv g3 with ⟨j, rfl, a1, a2, rfl⟩ | ⟨i, j, rfl, ⟨a1, a2, a3, a4⟩, rfl⟩
    · obtain ⟨v, rfl, hv⟩ := all2_1 hd
      cases hv.int
      have e0 : j.toNat = (j - 0).toNat := by rw [Int.sub_zero]
      rw [e0, ll] at g4
      refine .inl ⟨j, rfl, ⟨by decide, by decide, a1, a2, g4⟩, fun q hq => k _ _ (p.new ?_)⟩
      rw [e0]
      exact .lst hq (rgV_den 0 j)
    · obtain ⟨v, v', rfl, hv, hv'⟩ := all2_2 hd
      cases hv.int
      cases hv'.int
      rw [ll] at g4
      exact .inr ⟨i, j, rfl, ⟨a1, a2, a3, a4, g4⟩, fun q hq => k _ _ (p.new (.lst hq (rgV_den i j)))⟩
  have nilL : ∀ m : E, chkL T sc m [] = true → m = .nil := fun m h => by
    cases m <;> simp only [chkL, Bool.false_eq_true] at h
    rfl
  match es, h5, h6, go with
  | [e1], h5, h6, go =>
    obtain ⟨a, m, rfl, ha, hm⟩ : ∃ a m, l = .cons a m ∧ chk T sc a e1 = true ∧ chkL T sc m [] = true := by
      cases l <;> simp only [chkL, Bool.and_eq_true, Bool.false_eq_true] at h6
      exact ⟨_, _, rfl, h6.1, h6.2⟩
    obtain rfl := nilL m hm
    have na : starEach [e1] X.env = (false, eval e1 X.env) :: starEach [] X.env := star_plain (chk_plain ha)
    refine PE.weak (pe_listRg o.calm gL mL (prg_1 gR mR ((hc a .nil rfl).1.e e1 ha) na) rfl) fun σV H Q q => ?_
    obtain ⟨Mo, σ, xs, σ1, r, g1, k⟩ := go σV H Q q
    have g1 : ((ev C a σ).bind fun x => R.ok ([x.1], x.2.2)) = R.ok (xs, σ1) := g1
    obtain ⟨⟨x1, o1, σ2⟩, h1, g1⟩ := bind_inv g1
    cases g1
    refine ⟨Mo, σ, x1, o1, _, r, h1, fun v H1 p1 => ?_⟩
    obtain ⟨_, ⟨j, e, q1, q2⟩ | ⟨i, j, e, _⟩⟩ := k [v] H1 (PostO.cons p1 (PostO.nil p1.rel))
    · cases e
      exact ⟨j, rfl, q1, q2⟩
    · cases e
  | [e1, e2], h5, h6, go =>
    obtain ⟨a, m, rfl, ha, hm⟩ : ∃ a m, l = .cons a m ∧ chk T sc a e1 = true ∧ chkL T sc m [e2] = true := by
      cases l <;> simp only [chkL, Bool.and_eq_true, Bool.false_eq_true] at h6
      exact ⟨_, _, rfl, h6.1, h6.2⟩
    obtain ⟨b, m', rfl, hb, hm'⟩ : ∃ b m', m = .cons b m' ∧ chk T sc b e2 = true ∧ chkL T sc m' [] = true := by
      cases m <;> simp only [chkL, Bool.and_eq_true, Bool.false_eq_true] at hm
      exact ⟨_, _, rfl, hm.1, hm.2⟩
    obtain rfl := nilL m' hm'
    have nb : starEach [e2] X.env = (false, eval e2 X.env) :: starEach [] X.env := star_plain (chk_plain hb)
    have na : starEach [e1, e2] X.env = (false, eval e1 X.env) :: starEach [e2] X.env := star_plain (chk_plain ha)
    refine PE.weak (pe_listRg o.calm gL mL (prg_2 gR mR ((hc a _ rfl).1.e e1 ha) ((hc a _ rfl).2 b .nil rfl |>.e e2 hb) na nb (by rw [nb]; rfl)) rfl) fun σV H Q q => ?_
    obtain ⟨Mo, σ, xs, σ1, r, g1, k⟩ := go σV H Q q
    have g1 : ((ev C a σ).bind fun x => ((ev C b x.2.2).bind fun y => R.ok ([y.1], y.2.2)).bind fun y => .ok (x.1 :: y.1, y.2)) = R.ok (xs, σ1) := g1
    obtain ⟨⟨x1, o1, σ2⟩, h1, g1⟩ := bind_inv g1
    obtain ⟨⟨ys, σ3⟩, g2, g1⟩ := bind_inv g1
    obtain ⟨⟨x2, o2, σ4⟩, h2, g2⟩ := bind_inv g2
    cases g2
    cases g1
    refine ⟨Mo, σ, x1, o1, σ2, r, h1, fun v H1 p1 => ⟨Mo, σ2, x2, o2, _, p1.rel, h2, fun v2 H2 p2 => ?_⟩⟩
    obtain ⟨_, ⟨j, e, _⟩ | ⟨i, j, e, q1, q2⟩⟩ := k [v, v2] H2 (PostO.cons p1 (PostO.cons p2 (PostO.nil p2.rel)))
    · cases e
    · cases e
      exact ⟨i, j, rfl, rfl, q1, q2⟩
  | [], h5, _, _ => simp at h5
  | _ :: _ :: _ :: _, h5, _, _ => simp at h5
noncomputable def bmId : Bm → String
  | .split => "str.split" | .join => "str.join" | .items => "dict.items" | .isascii => "str.isascii" | .isdigit => "str.isdigit" | .upper => "str.upper" | .get => "dict.get"
noncomputable def rBm (W : Wd) (b : Bm) : V → List V → Hp → VK → Prop := fun x xs H Q => ∃ M z ds g o, x = .str z ∧ Trk M H ∧ All2 (DenW W H M) ds xs ∧ bmth b z ds = .ok (g, o) ∧ ∀ v H', New W M H g o v H' → Q v H'
theorem strs_den {W : Wd} {H : Hp} {M : Zone} : ∀ {ds : List D} {vs : List V} {ns : List Str}, DenL W H M ds vs → strsD ds = some ns → vs = ns.map V.str
  | [], _, _, h, e => by cases h; cases e; rfl
  | d :: ds, _, _, h, e => by
    cases h with
    | cons h l =>
      cases h <;> simp only [strsD] at e <;> try cases e
      rw [Option.map_eq_some_iff] at e
      obtain ⟨ns, e1, rfl⟩ := e
      rw [strs_den l e1]
      rfl
theorem den_strs {W : Wd} {H : Hp} {M : Zone} : ∀ ys : List Str, DenL W H M (ys.map D.str) (ys.map V.str)
  | [] => .nil
  | y :: ys => .cons (.str y) (den_strs ys)
theorem all2_0 {α β : Type} {P : α → β → Prop} {bs : List β} (h : All2 P [] bs) : bs = [] := by
  cases bs with
  | nil => rfl
  | cons _ _ => exact h.elim
theorem mt_bm (b : Bm) : MtR X (bmId b) (rBm T.W b) := by
  intro pins s σ H x xs v us Q I rx rxs h
  obtain ⟨M, z, ds, g, ow, rfl, tr, hd, hb, k⟩ := h
  cases b with
  | split =>
    have hb : bmSplit z ds = .ok (g, ow) := hb
    unfold bmSplit at hb
    split at hb
    · obtain ⟨h1, hb⟩ := guard_inv hb
      cases hb
      simp only [Bool.and_eq_true, Bool.not_eq_true'] at h1
      obtain ⟨y, rfl, hy⟩ := all2_1 hd
      cases hy.str
      exact mt_split pins s σ H _ _ v us Q I rx rxs ⟨z, _, rfl, rfl, h1.1, size_ok h1.2, fun p hp => k _ _ (.lst hp (den_strs _))⟩
    · cases hb
  | join =>
    have hb : bmJoin z ds = .ok (g, ow) := hb
    unfold bmJoin at hb
    split at hb
    · obtain ⟨ys, h1, hb⟩ := of_inv hb
      obtain ⟨h2, hb⟩ := guard_inv hb
      cases hb
      obtain ⟨y, rfl, hy⟩ := all2_1 hd
      obtain ⟨a, vs, rfl, ha, la⟩ := hy.lst
      have e := strs_den la h1
      subst e
      exact mt_join pins s σ H _ _ v us Q I rx rxs ⟨z, a, ys, rfl, rfl, .inl (.of ha), of_decide_eq_true h2, k _ _ (.same (.str _))⟩
    · cases hb
  | isdigit =>
    have hb : bmIsdigit z ds = .ok (g, ow) := hb
    unfold bmIsdigit at hb
    split at hb
    · cases hb
      cases all2_0 hd
      exact mt_isdigit pins s σ H _ _ v us Q I rx rxs ⟨z, rfl, rfl, trivial, k _ _ (.same (.bl _))⟩
    · cases hb
  | isascii =>
    have hb : bmIsascii z ds = .ok (g, ow) := hb
    unfold bmIsascii at hb
    split at hb
    · cases hb
      cases all2_0 hd
      exact mt_isascii pins s σ H _ _ v us Q I rx rxs ⟨z, rfl, rfl, trivial, k _ _ (.same (.bl _))⟩
    · cases hb
  | upper =>
    have hb : bmUpper z ds = .ok (g, ow) := hb
    unfold bmUpper at hb
    split at hb
    · obtain ⟨h1, hb⟩ := guard_inv hb
      cases hb
      cases all2_0 hd
      exact mt_upper pins s σ H _ _ v us Q I rx rxs ⟨z, rfl, rfl, of_decide_eq_true h1, k _ _ (.same (.str _))⟩
    · cases hb
  | items => cases hb
  | get => cases hb
theorem bm_facts (b : Bm) (h : bmOk b = true) : PySem.Slot "str" (bmName b) (bmId b) ∧ typeOf (.builtin (bmId b)) = pure (.type "method_descriptor") := by
  cases b with
  | split => exact ⟨PySem.F.slot_str_split, PySem.F.type_str_split⟩
  | join => exact ⟨PySem.F.slot_str_join, PySem.F.type_str_join⟩
  | isdigit => exact ⟨PySem.F.slot_str_isdigit, PySem.F.type_str_isdigit⟩
  | isascii => exact ⟨PySem.F.slot_str_isascii, PySem.F.type_str_isascii⟩
  | upper => exact ⟨PySem.F.slot_str_upper, PySem.F.type_str_upper⟩
  | items => cases h
  | get => cases h
theorem snd_bm (o : Okay T C n X sc) {b : Bm} {a l : E} (hva : Snd T C a n X sc) (hl : Snd T C l n X sc) {e : Expr} (h : chk T sc (.bm b a l) e = true) : PE X e (tE T.W (ev C (.bm b a l))) := by
  unfold chk at h
  split at h <;> first | (rename_i h0; cases h0; done) | skip
  all_goals first | (cases h; done) | skip
  rename_i x nm ap es cp
  simp only [Bool.and_eq_true, decide_eq_true_eq] at h
  obtain ⟨⟨⟨⟨⟨⟨h1, rfl⟩, h2⟩, h3⟩, h4⟩, h5⟩, h6⟩ := h
  obtain ⟨f1, f2⟩ := bm_facts b h1
  have read : ∀ σV H Q, tE T.W (ev C (.bm b a l)) σV H Q → tBM X.K "str" (rBm T.W b) (tE T.W (ev C a)) (tO T.W (evO C l)) σV H Q := fun σV H Q q => by
    obtain ⟨Mo, σ, z, ow, σ', r, hv, k⟩ := q
    have hv : ((val (ev C a σ)).bind fun x => match x.1 with
      | .str z => (evO C l x.2).bind fun y => (rds y.2 y.1).bind fun ds => asD y.2 (bmth b z ds)
      | _ => .bad) = R.ok (z, ow, σ') := hv
    obtain ⟨⟨d, σ1⟩, gv, hv⟩ := bind_inv hv
    obtain ⟨x1, o1, g1, g2⟩ := val_inv gv
    clear gv
    dsimp only at hv
    split at hv
    · rename_i y
      obtain ⟨⟨xs, σ2⟩, g3, hv⟩ := bind_inv hv
      obtain ⟨ds, g4, hv⟩ := bind_inv hv
      obtain ⟨g, g5, rfl, rfl⟩ := asD_inv hv
      refine ⟨Mo, σ, x1, o1, σ1, r, g1, fun v H1 p1 => ?_⟩
      cases (p1.val.rd p1.rel g2).str
      refine ⟨rfl, Mo, σ1, xs, _, p1.rel, g3, fun vs H2 p2 => ?_⟩
      exact ⟨_, y, ds, g, ow, rfl, fun c z => p2.rel.mu_tr z, rds_den p2.rel p2.val g4, g5, fun v H' nw => k v H' (p1.trans (p2.new nw))⟩
    · cases hv
  cases es with
  | nil =>
    refine PE.weak (pe_bm0 PySem.F.plainAttrs_str f1 f2 (mt_bm (T := T) b) (hva.e _ h5) (base_of h2) h3) fun σV H Q q => ?_
    obtain ⟨Mo, σ, x1, o1, σ1, r, g1, k⟩ := read σV H Q q
    refine ⟨Mo, σ, x1, o1, σ1, r, g1, fun v H1 p1 => ?_⟩
    obtain ⟨ty, Mo2, σ2, xs, σ3, r2, g2, k2⟩ := k v H1 p1
    refine ⟨ty, ?_⟩
    cases l <;> simp only [chkL, Bool.false_eq_true] at h6
    cases g2
    exact k2 [] H1 (PostO.nil r2)
  | cons e es =>
    obtain ⟨a', m', rfl⟩ : ∃ a m, l = .cons a m := by
      cases l <;> simp only [chkL, Bool.false_eq_true] at h6
      exact ⟨_, _, rfl⟩
    obtain ⟨e0, es0, ee, hae, hm⟩ := es_head h6
    cases ee
    refine PE.weak (pe_bm PySem.F.plainAttrs_str f1 f2 (mt_bm (T := T) b) (hva.e _ h5) (hl.o _ h6) (base_of h2) ?_ h3 (star_plain (chk_plain hae)) (stars_plain hm)) read
    rw [stars_all h6]
    have e29 : (e :: es).length + 0 + 0 < 30 := by omega
    show (true && true && decide ((e :: es).length + 0 + 0 < 30)) = true
    rw [decide_eq_true e29]
    rfl
end
/-! ### xs.pop() -/
section
variable {W : Wd} {H H' H1 : Hp} {M Mo : Zone} {σ σ1 σ' : Fm} {σV : L2.St} {d d' : D} {i : Nat} {a : Addr} {s s' : Slot}
theorem isL_inv {u : Unit} (h : isL i σ = .ok u) : ∃ s ds, σ[i]? = some s ∧ s.wr = some (.lst ds) := by
  unfold isL at h
  split at h
  · exact ⟨_, _, by assumption, rfl⟩
  · exact ⟨_, _, by assumption, rfl⟩
  · cases h
theorem ev_own (C : Cb) (hs : σ[i]? = some s) (hw : s.wr = some d) : ev C (.var i) σ = .ok (.r i, false, σ) ∧ rd σ (.r i) = .ok d := by
  cases s <;> simp [Slot.wr] at hw <;> (subst hw; unfold ev rd; simp only [hs]; exact ⟨trivial, trivial⟩)
theorem fr_upd {o : HO} (nt : ∀ xs, H a ≠ some (.tup xs)) : Fr (fun b => b = a) H (upd H a o) := fun b q e n => by
  have ne : b ≠ a := fun z => by
    rcases n with n | ⟨xs, rfl⟩
    · exact n z
    · exact nt xs (by rw [← z]; exact e)
  rw [upd_ne ne]; exact e
theorem dm_upd {o : HO} (b : Addr) (h : H b ≠ none) : upd H a o b ≠ none := by
  by_cases e : b = a
  · rw [e, upd_same]; exact fun z => nomatch z
  · rw [upd_ne e]; exact h
theorem Rel.own_lst {ds : List D} (r : Rel W Mo σ σV H) (hs : σ[i]? = some s) (hw : s.wr = some (.lst ds)) {v : V} (e : σV[i]? = some (some v)) : ∃ a vs, v = .ref a ∧ σV[i]? = some (some (.ref a)) ∧ H a = some (.lst vs) ∧ DenL W H (Mu Mo σ σV) ds vs := by
  obtain ⟨a, rfl, _, ow⟩ := r.mu_own ⟨s, hs, wr_held hw⟩ e
  cases ow with
  | lst h l => exact ⟨a, _, rfl, e, h, l⟩
theorem post_list0 {ds' : List D} {vs' : List V} (r : Rel W Mo σ σV H) (hs : σ[i]? = some s) (hw : s.wr = some d) (hw' : s'.wr = some (.lst ds')) (hp : ∀ c, s.pin = some c → s'.pin = some c) (ha : σV[i]? = some (some (.ref a)))
    (l : DenL W H (Mu Mo σ σV) ds' vs') {g : D} {v : V} (dv : Den W H (Mu Mo σ σV) g v) : Post W Mo σ σV H (.v g) false (σ.set i s') v (upd H a (.lst vs')) := by
  have hh : Held σ i d := ⟨s, hs, wr_held hw⟩
  have fu : Fr (fun b => b = a) H (upd H a (.lst vs')) := fr_upd fun xs z => r.nt z ⟨i, s, d, hs, hw, ha⟩
  have h' := wr_held hw'
  have ma : ∀ b, (fun b => b = a) b → Mu Mo σ σV b := fun b e => by rw [show b = a from e]; exact .inr ⟨i, d, hh, ha⟩
  refine ⟨fu.mono fun b e => by rw [show b = a from e]; exact ⟨i, s, d, hs, hw, ha⟩, fun b z => dm_upd b z, fun b z => (muts_set hh h').mp z, fun b z => (wrt_set hs hw hw').mp z, fun j b ej => ej.set hs hp, ?_, ?_, fun z => nomatch z⟩
  · exact r.upd hh h' ha fu (fun b z => dm_upd b z) (fun b z => z) (fun b z => .inl z) (fun b z => dm_upd b (r.tr b z)) (.lst upd_same (l.step fu ma fun b z => .inl z))
  · exact Den.step dv fu ma fun b z => .inl (z.elim .inl fun z => .inr ((muts_set hh h').mp z))
theorem popD_inv {ds : List D} {g : D} (h : popD i ds σ = .ok (g, σ')) : ∃ s d d' s', σ[i]? = some s ∧ s.wr = some d ∧ popL ds d = .ok (g, d') ∧ σ' = σ.set i s' ∧ s'.wr = some d' ∧ ∀ c, s.pin = some c → s'.pin = some c := by
  unfold popD at h
  split at h
  · rename_i d e
    obtain ⟨⟨g', d'⟩, h1, h2⟩ := bind_inv h
    cases h2
    exact ⟨_, d, d', .mu d', e, rfl, h1, rfl, rfl, fun c z => z⟩
  · rename_i d e
    obtain ⟨⟨g', d'⟩, h1, h2⟩ := bind_inv h
    cases h2
    exact ⟨_, d, d', .io d', e, rfl, h1, rfl, rfl, fun c z => z⟩
  · cases h
theorem DenL.eraseIdx {ds : List D} {vs : List V} (h : DenL W H M ds vs) (n : Nat) : DenL W H M (ds.eraseIdx n) (vs.eraseIdx n) := by
  induction ds generalizing vs n with
  | nil => cases h; simp; exact .nil
  | cons d ds ih =>
    cases h with
    | cons h l => cases n with
      | zero => exact l
      | succ n => exact .cons h (ih l n)
theorem DenL.dropLast {ds : List D} {vs : List V} (h : DenL W H M ds vs) : DenL W H M ds.dropLast vs.dropLast := by
  rw [List.dropLast_eq_take, List.dropLast_eq_take, h.length]
  exact h.take _
end
section
variable {T : Tb} {C : Cb} {n : Nat} {X : Cx} {sc : Scope}
theorem snd_pop (o : Okay T C n X sc) {i : Nat} {l : E} (hl : Snd T C l n X sc) {e : Expr} (h : chk T sc (.pop i l) e = true) : PE X e (tE T.W (ev C (.pop i l))) := by
  unfold chk at h
  split at h <;> first | (rename_i h0; cases h0; done) | skip
  all_goals first | (cases h; done) | skip
  rename_i x p nm ap es cp
  simp only [Bool.and_eq_true, decide_eq_true_eq, Bool.not_eq_true'] at h
  obtain ⟨⟨⟨⟨⟨⟨⟨rfl, h1⟩, h2⟩, h3⟩, h4⟩, h5⟩, h6⟩, h7⟩ := h
  have hv : PE X (.Name x p) (tE T.W (ev C (.var i))) := snd_var o (by
    show (decide (T.N[i]? = some x) && isVis sc x && !(x == ("__debug__" : Str)) && !(x == ("__classdict__" : Str))) = true
    rw [decide_eq_true h1, h2, h3, h4]
    rfl)
  have opn : ∀ {σV H Q}, tE T.W (ev C (.pop i l)) σV H Q → ∃ Mo σ xs σ1 ds g σ2 s0 ds0, Rel T.W Mo σ σV H ∧ σ[i]? = some s0 ∧ s0.wr = some (.lst ds0) ∧ evO C l σ = .ok (xs, σ1) ∧ rds σ1 xs = .ok ds ∧ popD i ds σ1 = .ok (g, σ2) ∧ ∀ v H', Post T.W Mo σ σV H (.v g) false σ2 v H' → Q v H' := fun {σV H Q} q => by
    obtain ⟨Mo, σ, z, ow, σ', r, hv, k⟩ := q
    have hv : ((isL i σ).bind fun _ => (evO C l σ).bind fun x => (rds x.2 x.1).bind fun ds => (popD i ds x.2).bind fun y => .ok (Opd.v y.1, false, y.2)) = R.ok (z, ow, σ') := hv
    obtain ⟨_, g0, hv⟩ := bind_inv hv
    obtain ⟨⟨xs, σ1⟩, g1, hv⟩ := bind_inv hv
    obtain ⟨ds, g2, hv⟩ := bind_inv hv
    obtain ⟨⟨g, σ2⟩, g3, hv⟩ := bind_inv hv
    cases hv
    obtain ⟨s0, ds0, e0, w0⟩ := isL_inv g0
    exact ⟨Mo, σ, xs, σ1, ds, g, _, s0, ds0, r, e0, w0, g1, g2, g3, k⟩
  match es, h6, h7 with
  | [], h6, h7 =>
    obtain rfl : l = .nil := by
      cases l <;> simp only [chkL, Bool.false_eq_true] at h7
      rfl
    refine PE.weak (pe_bm0 PySem.F.plainAttrs_list PySem.F.slot_list_pop PySem.F.type_list_pop mt_pop hv rfl h5) fun σV H Q q => ?_
    obtain ⟨Mo, σ, xs, σ1, ds, g, σ2, s0, ds0, r, e0, w0, g1, g2, g3, k⟩ := opn q
    cases g1
    cases g2
    refine ⟨Mo, σ, .r i, false, σ, r, (ev_own C e0 w0).1, fun v0 H0 p0 => ?_⟩
    obtain ⟨a, vs0, rfl, ea, ha0, la0⟩ := p0.rel.own_lst e0 w0 (show σV[i]? = some (some v0) from p0.val)
    obtain ⟨s, dd, d', s', f1, f2, f3, f4, f5, f6⟩ := popD_inv g3
    rw [e0] at f1
    cases f1
    rw [w0] at f2
    cases f2
    have f3 : ((R.of ds0[ds0.length - 1]?).bind fun d => R.ok (d, D.lst ds0.dropLast)) = .ok (g, d') := f3
    obtain ⟨d, f7, f3⟩ := of_inv f3
    cases f3
    obtain ⟨v, hv1, dv⟩ := la0.get f7
    refine ⟨.inl ⟨rfl, vs0, .of ha0⟩, a, vs0, v, rfl, rfl, ha0, by rw [← la0.length]; exact hv1, ?_⟩
    rw [f4] at k
    exact k _ _ (p0.trans (post_list0 p0.rel e0 w0 f5 f6 ea la0.dropLast dv))
  | [y], h6, h7 =>
    obtain ⟨b, m, rfl, hb, hm⟩ : ∃ b m, l = .cons b m ∧ chk T sc b y = true ∧ chkL T sc m [] = true := by
      cases l <;> simp only [chkL, Bool.and_eq_true, Bool.false_eq_true] at h7
      exact ⟨_, _, rfl, h7.1, h7.2⟩
    have pl : starEach [y] X.env = [(false, eval y X.env)] := star_plain (chk_plain hb)
    refine PE.weak (pe_bm PySem.F.plainAttrs_list PySem.F.slot_list_pop PySem.F.type_list_pop mt_popAt hv (hl.o _ h7) rfl (by rw [pl]; rfl) h5 (by rw [pl]; rfl) rfl) fun σV H Q q => ?_
    obtain ⟨Mo, σ, xs, σ1, ds, g, σ2, s0, ds0, r, e0, w0, g1, g2, g3, k⟩ := opn q
    refine ⟨Mo, σ, .r i, false, σ, r, (ev_own C e0 w0).1, fun v0 H0 p0 => ?_⟩
    obtain ⟨a, vs0, rfl, ea, ha0, la0⟩ := p0.rel.own_lst e0 w0 (show σV[i]? = some (some v0) from p0.val)
    refine ⟨.inl ⟨rfl, vs0, .of ha0⟩, Mo, σ, xs, σ1, p0.rel, g1, fun vs H1 p1 => ?_⟩
    have hd := rds_den p1.rel p1.val g2
    obtain ⟨s, dd, d', s', f1, f2, f3, f4, f5, f6⟩ := popD_inv g3
    unfold popL at f3
    split at f3
    · have hl2 := evO_len h7 g1
      have : xs = [] := by
        cases xs with
        | nil => rfl
        | cons x xs =>
          obtain ⟨_, _, g2⟩ := bind_inv g2
          obtain ⟨_, _, g2⟩ := bind_inv g2
          cases g2
      rw [this] at hl2
      simp at hl2
    · rename_i kk dl
      split at f3
      · rename_i hk
        obtain ⟨d, f7, f3⟩ := of_inv f3
        cases f3
        obtain ⟨w, rfl, hw⟩ := all2_1 hd
        cases hw.int
        obtain ⟨a', vs2, e1, _, ha, la⟩ := p1.rel.own_lst f1 f2 ea
        cases e1
        obtain ⟨v, hv1, dv⟩ := la.get f7
        obtain ⟨k1, k2, k3⟩ := hk
        refine ⟨a, vs2, kk, kk.toNat, v, rfl, rfl, ha, by omega, by omega, ?_, hv1, ?_⟩
        · rw [seqIndex_of k1 (by have := la.length; omega)]
        · rw [f4] at k
          have P := post_list0 p1.rel f1 f2 f5 f6 ea (la.eraseIdx kk.toNat) dv
          exact k _ _ (p0.trans (p1.new (.same .non) |>.trans P))
      · cases f3
    · cases f3
  | _ :: _ :: _, h6, _ =>
    simp only [List.length_cons] at h6
    omega
end
end Mini

set_option Elab.async false
set_option linter.all false
set_option maxRecDepth 100000
set_option maxHeartbeats 4000000
/-! ## comprehensions -/
namespace Mini
open PySem L2
theorem wipe_get {σ : L2.St} {j : Nat} : ∀ {vs : List Nat}, (L2.wipe σ vs)[j]? = if j ∈ vs ∧ j < σ.length then some none else σ[j]?
  | [] => by simp [L2.wipe]
  | v :: vs => by
    unfold L2.wipe
    by_cases e : j = v
    · subst e
      by_cases hl : j < σ.length
      · rw [List.getElem?_set_self (by rw [wipe_length]; exact hl), if_pos ⟨List.mem_cons_self, hl⟩]
      · rw [if_neg (fun z => hl z.2), List.getElem?_eq_none (by rw [List.length_set, wipe_length]; omega), List.getElem?_eq_none (by omega)]
    · rw [List.getElem?_set_ne (Ne.symm e), wipe_get]
      have : j ∈ v :: vs ↔ j ∈ vs := by simp [e]
      simp only [this]
theorem wipeS_get {σ : Fm} {j : Nat} : ∀ {vs : List Nat}, (wipeS σ vs)[j]? = if j ∈ vs ∧ j < σ.length then some .no else σ[j]? := by
  intro vs
  induction vs generalizing σ with
  | nil => simp [wipeS]
  | cons v vs ih =>
    unfold wipeS
    rw [ih, List.length_set]
    by_cases e : j = v
    · subst e
      by_cases hl : j < σ.length
      · rw [List.getElem?_set_self hl]
        by_cases q : j ∈ vs
        · rw [if_pos ⟨q, hl⟩, if_pos ⟨List.mem_cons_self, hl⟩]
        · rw [if_neg (fun z => q z.1), if_pos ⟨List.mem_cons_self, hl⟩]
      · rw [if_neg (fun z => hl z.2), if_neg (fun z => hl z.2), List.getElem?_eq_none (by rw [List.length_set]; omega), List.getElem?_eq_none (by omega)]
    · rw [List.getElem?_set_ne (Ne.symm e)]
      have : j ∈ v :: vs ↔ j ∈ vs := by simp [e]
      simp only [this]
theorem wipeS_len {σ : Fm} : ∀ {vs : List Nat}, (wipeS σ vs).length = σ.length := by
  intro vs
  induction vs generalizing σ with
  | nil => rfl
  | cons v vs ih => unfold wipeS; rw [ih, List.length_set]
theorem backS_len {σ₀ σ : Fm} : ∀ {vs : List Nat}, (backS σ₀ σ vs).length = σ.length := by
  intro vs
  induction vs generalizing σ with
  | nil => rfl
  | cons v vs ih => unfold backS; rw [ih, List.length_set]
theorem backS_get {σ₀ σ : Fm} {j : Nat} : ∀ {vs : List Nat}, (backS σ₀ σ vs)[j]? = if j ∈ vs ∧ j < σ.length then some (σ₀[j]?.getD .no) else σ[j]? := by
  intro vs
  induction vs generalizing σ with
  | nil => simp [backS]
  | cons v vs ih =>
    unfold backS
    rw [ih, List.length_set]
    by_cases e : j = v
    · subst e
      by_cases hl : j < σ.length
      · rw [List.getElem?_set_self hl]
        by_cases q : j ∈ vs
        · rw [if_pos ⟨q, hl⟩, if_pos ⟨List.mem_cons_self, hl⟩]
        · rw [if_neg (fun z => q z.1), if_pos ⟨List.mem_cons_self, hl⟩]
      · rw [if_neg (fun z => hl z.2), if_neg (fun z => hl z.2), List.getElem?_eq_none (by rw [List.length_set]; omega), List.getElem?_eq_none (by omega)]
    · rw [List.getElem?_set_ne (Ne.symm e)]
      have : j ∈ v :: vs ↔ j ∈ vs := by simp [e]
      simp only [this]
theorem free_held {σ : Fm} {vs : List Nat} (h : freeS σ vs = true) {i : Nat} (hi : i ∈ vs) {s : Slot} (e : σ[i]? = some s) : s.held = none := by
  unfold freeS at h
  rw [List.all_eq_true] at h
  have q := h i hi
  rw [e] at q
  cases s <;> first | rfl | cases q
section
variable {W : Wd} {H H' H1 : Hp} {Mo Mo2 : Zone} {σ σ1 σc : Fm} {σV : L2.St} {vs : List Nat}
theorem held_wipe (h : freeS σ vs = true) {i : Nat} {d : D} : Held (wipeS σ vs) i d ↔ Held σ i d ∧ i ∉ vs := by
  unfold Held
  rw [wipeS_get]
  constructor
  · rintro ⟨s, e, hd⟩
    by_cases q : i ∈ vs ∧ i < σ.length
    · rw [if_pos q] at e
      cases e
      cases hd
    · rw [if_neg q] at e
      refine ⟨⟨s, e, hd⟩, fun z => q ⟨z, lt_of_some e⟩⟩
  · rintro ⟨⟨s, e, hd⟩, n⟩
    rw [if_neg (fun z => n z.1)]
    exact ⟨s, e, hd⟩
theorem muts_wipe (h : freeS σ vs = true) {a : Addr} : muts (wipeS σ vs) (L2.wipe σV vs) a ↔ muts σ σV a := by
  constructor
  · rintro ⟨i, d, hh, hv⟩
    obtain ⟨h1, n⟩ := (held_wipe h).mp hh
    rw [wipe_get, if_neg (fun z => n z.1)] at hv
    exact ⟨i, d, h1, hv⟩
  · rintro ⟨i, d, hh, hv⟩
    have n : i ∉ vs := fun z => by
      obtain ⟨s, e, hd⟩ := hh
      rw [free_held h z e] at hd
      cases hd
    exact ⟨i, d, (held_wipe h).mpr ⟨hh, n⟩, by rw [wipe_get, if_neg (fun z => n z.1)]; exact hv⟩
theorem wrt_wipe {a : Addr} (hz : wrt (wipeS σ vs) (L2.wipe σV vs) a) : wrt σ σV a := by
  obtain ⟨i, s, d, e, hd, hv⟩ := hz
  rw [wipeS_get] at e
  by_cases q : i ∈ vs ∧ i < σ.length
  · rw [if_pos q] at e
    cases e
    cases hd
  · rw [if_neg q] at e
    have q2 : ¬ (i ∈ vs ∧ i < σV.length) := fun z => q ⟨z.1, lt_of_some e⟩
    rw [wipe_get, if_neg q2] at hv
    exact ⟨i, s, d, e, hd, hv⟩
theorem Rel.wipe (r : Rel W Mo σ σV H) (h : freeS σ vs = true) : Rel W Mo (wipeS σ vs) (L2.wipe σV vs) H := by
  have hz : ∀ b, Mu Mo (wipeS σ vs) (L2.wipe σV vs) b → Mu Mo σ σV b ∨ H b = none := fun b z => .inl (z.elim .inl fun z => .inr ((muts_wipe h).mp z))
  refine ⟨by rw [wipeS_len, wipe_length]; exact r.len, fun i d e => ?_, fun i d e => ?_, fun i j d e a hi hj h1 h2 => ?_, r.tr⟩
  · rw [wipeS_get] at e
    by_cases q : i ∈ vs ∧ i < σ.length
    · rw [if_pos q] at e
      cases e
    · rw [if_neg q] at e
      obtain ⟨v, h1, h2⟩ := r.im i d e
      refine ⟨v, ?_, h2.step (Mw := Z0) .refl (fun _ z => z.elim) hz⟩
      rw [wipe_get, if_neg (fun z => q ⟨z.1, lt_of_some e⟩)]
      exact h1
  · obtain ⟨hh, n⟩ := (held_wipe h).mp e
    obtain ⟨a, h1, h2, h3⟩ := r.mu i d hh
    exact ⟨a, by rw [wipe_get, if_neg (fun z => n z.1)]; exact h1, h2, h3.step (Mw := Z0) .refl (fun z => z) (fun _ z => z.elim) hz⟩
  · obtain ⟨hi', n1⟩ := (held_wipe h).mp hi
    obtain ⟨hj', n2⟩ := (held_wipe h).mp hj
    rw [wipe_get, if_neg (fun z => n1 z.1)] at h1
    rw [wipe_get, if_neg (fun z => n2 z.1)] at h2
    exact r.ne i j d e a hi' hj' h1 h2
/-- the comprehension's own slots as they were -/
theorem held_back (h : freeS σ1 vs = true) (hl : σc.length = σ1.length) (hw : ∀ j ∈ vs, j < σc.length → σc[j]? = some .no) {i : Nat} {d : D} : Held (backS σ1 σc vs) i d ↔ Held σc i d ∧ i ∉ vs := by
  unfold Held
  rw [backS_get]
  constructor
  · rintro ⟨s, e, hd⟩
    by_cases q : i ∈ vs ∧ i < σc.length
    · rw [if_pos q] at e
      have hi : i < σ1.length := by rw [← hl]; exact q.2
      obtain ⟨t, ht⟩ : ∃ t, σ1[i]? = some t := ⟨σ1[i], by simp⟩
      rw [ht] at e
      have e : t = s := by simpa using e
      subst e
      rw [free_held h q.1 ht] at hd
      cases hd
    · rw [if_neg q] at e
      exact ⟨⟨s, e, hd⟩, fun z => q ⟨z, lt_of_some e⟩⟩
  · rintro ⟨⟨s, e, hd⟩, n⟩
    rw [if_neg (fun z => n z.1)]
    exact ⟨s, e, hd⟩
theorem muts_back (h : freeS σ1 vs = true) (hl : σc.length = σ1.length) (hw : ∀ j ∈ vs, j < σc.length → σc[j]? = some .no) {a : Addr} : muts (backS σ1 σc vs) σV a ↔ muts σc (L2.wipe σV vs) a := by
  constructor
  · rintro ⟨i, d, hh, hv⟩
    obtain ⟨h1, n⟩ := (held_back h hl hw).mp hh
    exact ⟨i, d, h1, by rw [wipe_get, if_neg (fun z => n z.1)]; exact hv⟩
  · rintro ⟨i, d, hh, hv⟩
    have n : i ∉ vs := fun z => by
      obtain ⟨s, e, hd⟩ := hh
      rw [hw i z (lt_of_some e)] at e
      cases e
      cases hd
    rw [wipe_get, if_neg (fun z => n z.1)] at hv
    exact ⟨i, d, (held_back h hl hw).mpr ⟨hh, n⟩, hv⟩
theorem wrt_back (h : freeS σ1 vs = true) (hl : σc.length = σ1.length) {a : Addr} (z : wrt (backS σ1 σc vs) σV a) : wrt σc (L2.wipe σV vs) a := by
  obtain ⟨i, s, d, e, hd, hv⟩ := z
  rw [backS_get] at e
  by_cases q : i ∈ vs ∧ i < σc.length
  · rw [if_pos q] at e
    have hi : i < σ1.length := by rw [← hl]; exact q.2
    obtain ⟨t, ht⟩ : ∃ t, σ1[i]? = some t := ⟨σ1[i], by simp⟩
    rw [ht] at e
    have e : t = s := by simpa using e
    subst e
    have := free_held h q.1 ht
    rw [wr_held hd] at this
    cases this
  · rw [if_neg q] at e
    have n : i ∉ vs := fun z => q ⟨z, lt_of_some e⟩
    exact ⟨i, s, d, e, hd, by rw [wipe_get, if_neg (fun z => n z.1)]; exact hv⟩
theorem Rel.back (r : Rel W Mo2 σc (L2.wipe σV vs) H') (r1 : Rel W Mo σ1 σV H1) (h : freeS σ1 vs = true) (hw : ∀ j ∈ vs, j < σc.length → σc[j]? = some .no) {Z : Zone} (f : Fr Z H1 H') (hZ : ∀ b, Z b → Mu Mo σ1 σV b)
    (hm : ∀ b, Mu Mo2 σc (L2.wipe σV vs) b → Mu Mo σ1 σV b ∨ H1 b = none) : Rel W Mo2 (backS σ1 σc vs) σV H' := by
  have hl : σc.length = σ1.length := by rw [r.len, wipe_length, r1.len]
  have hz : ∀ b, Mu Mo2 (backS σ1 σc vs) σV b ↔ Mu Mo2 σc (L2.wipe σV vs) b := fun b => ⟨fun z => z.elim .inl fun z => .inr ((muts_back h hl hw).mp z), fun z => z.elim .inl fun z => .inr ((muts_back h hl hw).mpr z)⟩
  refine ⟨by rw [backS_len, r.len, wipe_length], fun i d e => ?_, fun i d e => ?_, fun i j d e a hi hj h1 h2 => ?_, r.tr⟩
  · rw [backS_get] at e
    by_cases q : i ∈ vs ∧ i < σc.length
    · rw [if_pos q] at e
      have hi : i < σ1.length := by rw [← hl]; exact q.2
      obtain ⟨t, ht⟩ : ∃ t, σ1[i]? = some t := ⟨σ1[i], by simp⟩
      rw [ht] at e
      have e : t = .im d := by simpa using e
      subst e
      obtain ⟨v, g1, g2⟩ := r1.im i d ht
      exact ⟨v, g1, g2.step f hZ fun b z => hm b ((hz b).mp z)⟩
    · rw [if_neg q] at e
      obtain ⟨v, g1, g2⟩ := r.im i d e
      rw [wipe_get, if_neg (fun z => q ⟨z.1, lt_of_some e⟩)] at g1
      exact ⟨v, g1, g2.step (Mw := Z0) .refl (fun _ z => z.elim) fun b z => .inl ((hz b).mp z)⟩
  · obtain ⟨hh, n⟩ := (held_back h hl hw).mp e
    obtain ⟨a, g1, g2, g3⟩ := r.mu i d hh
    rw [wipe_get, if_neg (fun z => n z.1)] at g1
    exact ⟨a, g1, g2, g3.step (Mw := Z0) .refl (fun z => z) (fun _ z => z.elim) fun b z => .inl ((hz b).mp z)⟩
  · obtain ⟨hi', n1⟩ := (held_back h hl hw).mp hi
    obtain ⟨hj', n2⟩ := (held_back h hl hw).mp hj
    exact r.ne i j d e a hi' hj' (by rw [wipe_get, if_neg (fun z => n1 z.1)]; exact h1) (by rw [wipe_get, if_neg (fun z => n2 z.1)]; exact h2)
theorem wipe_eq {σV' : L2.St} {ts : List Nat} (hl : σV'.length = σV.length) (off : ∀ j, j ∉ ts → σV'[j]? = (L2.wipe σV vs)[j]?) (sub : ∀ j ∈ ts, j ∈ vs) : L2.wipe σV' vs = L2.wipe σV vs := by
  apply List.ext_getElem?
  intro j
  rw [wipe_get]
  by_cases q : j ∈ vs ∧ j < σV'.length
  · rw [if_pos q, wipe_get, if_pos ⟨q.1, by rw [← hl]; exact q.2⟩]
  · rw [if_neg q]
    by_cases q2 : j ∈ vs
    · have : ¬ j < σV'.length := fun z => q ⟨q2, z⟩
      rw [List.getElem?_eq_none (by omega), wipe_get, if_neg (fun z => this (by rw [hl]; exact z.2)), List.getElem?_eq_none (by omega)]
    · exact off j fun z => q2 (sub j z)
end
end Mini

set_option Elab.async false
set_option linter.all false
set_option maxRecDepth 100000
set_option maxHeartbeats 8000000
/-! ## comprehensions -/
namespace Mini
open PySem L2
theorem PTs.weak {X : Cx} {es : List Expr} {t t' : TT} (h : PTs X es t) (k : ∀ σ H Q, t' σ H Q → t σ H Q) : PTs X es t' := ⟨fun pins s σ H Q I q => h.run pins s σ H Q I (k σ H Q q)⟩
section
variable {T : Tb} {C : Cb} {n : Nat} {X : Cx} {sc : Scope}
theorem Okay.blk (o : Okay T C n X sc) {s : Shared} {H : Hp} {scope : Scope} {cl : List (Str × Addr)} {A : Addr} {fp : List Addr} : Okay T C n (X.blk s H scope (compEnvC scope cl A X.env) fp) (L2.relS scope sc) := by
  obtain ⟨h1, h2, h3, h4, h5, h6, hg, h7, h8, h9, h10, h11, h12, h13, h14, h15, h16⟩ := o
  refine ⟨h1, h2, ?_, h4, h5, h6, hg, h7, h8, h9, h10, h11, h12, h13, h14, h15, h16⟩
  subst h3
  rfl
theorem sound_c {a : E} (hs : ∀ b, a = .cons b .nil → Snd T C b n X sc) {es : List Expr} (h : chkC T sc a es = true) : PTs X es (tT T.W (evC C a)) := by
  cases a with
  | nil =>
    cases es with
    | cons _ _ => simp [chkC] at h
    | nil =>
      refine PTs.weak pts_nil fun σV H Q q => ?_
      obtain ⟨Mo, σ, b, σ', r, e, k⟩ := q
      cases e
      exact k H (.refl r .non)
  | cons b m =>
    cases m with
    | nil =>
      match es, h with
      | [x], h =>
        have h : chk T sc b x = true := h
        refine PTs.weak (pts_one ((hs b rfl).t _ h)) fun σV H Q q => ?_
        obtain ⟨Mo, σ, b', σ', r, e, k⟩ := q
        have e : ((tst (ev C b σ)).bind fun x => if x.1 then evC C .nil x.2 else .ok (false, x.2)) = R.ok (b', σ') := e
        obtain ⟨⟨c, σ1⟩, h1, e⟩ := bind_inv e
        cases c <;> cases e <;> exact ⟨Mo, σ, _, _, r, h1, k⟩
      | [], h => simp [chkC] at h
      | _ :: _ :: _, h => simp [chkC] at h
    | _ => cases es <;> simp [chkC] at h
  | _ => cases es <;> simp [chkC] at h
/-- one turn -/
noncomputable def compF (C : Cb) (e t c : E) (vs : List Nat) : D → Fm → R (Option D × Fm) := fun d σ' => (putT t d σ').bind fun σ1 => (evC C c σ1).bind fun y =>
  if y.1 then (ev C e y.2).bind fun z => (fz z).bind fun w => (R.guard (freeS w.2.2 vs)).bind fun _ => .ok (some w.1, wipeS w.2.2 vs) else (R.guard (freeS y.2 vs)).bind fun _ => .ok (none, wipeS y.2 vs)
/-- between two turns: σ1, H1 where the loop began, D the new list -/
structure CInv (W : Wd) (C : Cb) (e t c : E) (vs : List Nat) (Mo : Zone) (σ1 : Fm) (σV : L2.St) (H1 : Hp) (Dl : Addr) (ds rs : List D) (σ2 : Fm) (i : Nat) (Hc : Hp) : Prop where
  ex : ∃ (σc : Fm) (acc : List D) (accV : List V), Rel W (Zp Mo Dl) σc (L2.wipe σV vs) Hc ∧ Fr (fun b => wrt σ1 σV b ∨ H1 b = none) H1 Hc ∧ (∀ a, H1 a ≠ none → Hc a ≠ none) ∧ Hc Dl = some (.lst accV) ∧
    DenL W Hc (Mu (Zp Mo Dl) σc (L2.wipe σV vs)) acc accV ∧ compLoop (compF C e t c vs) (ds.drop i) σc acc = .ok (rs, σ2) ∧ (∀ a, muts σc (L2.wipe σV vs) a → muts σ1 σV a) ∧ (∀ a, wrt σc (L2.wipe σV vs) a → wrt σ1 σV a) ∧
    (∀ (j : Nat) (b : Bool), Pin σ1 j b → Pin σc j b) ∧ (∀ j ∈ vs, j < σc.length → σc[j]? = some .no)
theorem wiped_no {σ : Fm} {vs : List Nat} : ∀ j ∈ vs, j < (wipeS σ vs).length → (wipeS σ vs)[j]? = some .no := fun j hj hl => by
  rw [wipeS_get, if_pos ⟨hj, by rw [wipeS_len] at hl; exact hl⟩]
theorem pin_free {σ : Fm} {vs : List Nat} (h : freeS σ vs = true) {j : Nat} {b : Bool} (e : Pin σ j b) : j ∉ vs := fun z => by
  obtain ⟨s, d, h1, h2⟩ := e.held
  rw [free_held h z h1] at h2
  cases h2
theorem io_wipe {σ : Fm} {vs : List Nat} (h : freeS σ vs = true) {j : Nat} {b : Bool} (e : Pin σ j b) : Pin (wipeS σ vs) j b := by
  have n := pin_free h e
  obtain ⟨s, h1, h2⟩ := e
  exact ⟨s, by rw [wipeS_get, if_neg (fun z => n z.1)]; exact h1, h2⟩
theorem comp_read {e t it c : E} {vs : List Nat} (sub : ∀ j ∈ tgs t, j ∈ vs) {σV : L2.St} {H : Hp} {Q : VK} (q : tE T.W (ev C (.comp e t it c vs)) σV H Q) : tLc (iW T.W (evI C it)) (tG T.W t) (tT T.W (evC C c)) (tE T.W (ev C e)) vs σV H Q := by
  obtain ⟨Mo, σ, z, ow, σ', hr, hs, k⟩ := q
  have hs : ((evI C it σ).bind fun x => (R.guard (freeS x.2.2 vs)).bind fun _ => (compLoop (compF C e t c vs) x.1 (wipeS x.2.2 vs) []).bind fun y => (unlock x.2.1 (backS x.2.2 y.2 vs)).bind fun σ' => .ok (Opd.v (.lst y.1), true, σ')) = R.ok (z, ow, σ') := hs
  obtain ⟨⟨ds, lk, σ1⟩, g1, hs⟩ := bind_inv hs
  obtain ⟨gf, hs⟩ := guard_inv hs
  obtain ⟨⟨rs, σ2⟩, g2, hs⟩ := bind_inv hs
  obtain ⟨σ3, g3, hs⟩ := bind_inv hs
  have hs : R.ok (Opd.v (.lst rs), true, σ3) = .ok (z, ow, σ') := hs
  simp only [R.ok.injEq, Prod.mk.injEq] at hs
  obtain ⟨e1, e2, e3⟩ := hs
  subst e1 e2 e3
  refine ⟨Mo, σ, ds, lk, σ1, hr, g1, fun J H1 p => ?_⟩
  intro Dl hD
  have g2 : compLoop (compF C e t c vs) ds (wipeS σ1 vs) [] = .ok (rs, σ2) := g2
  have gf : freeS σ1 vs = true := gf
  have nD : ∀ b, H1 b ≠ none → b ≠ Dl := fun b hb e => hb (by rw [e]; exact hD)
  refine ⟨fun i m Hc => m = ds.length - i ∧ i ≤ ds.length ∧ CInv T.W C e t c vs Mo σ1 σV H1 Dl ds rs σ2 i Hc, ⟨ds.length, by omega, Nat.zero_le _, ⟨wipeS σ1 vs, [], [], ?_, ?_, ?_, upd_same, .nil, g2, fun a z => (muts_wipe gf).mp z, fun a z => wrt_wipe z, fun j b ej => io_wipe gf ej, wiped_no⟩⟩, ?_⟩
  · exact (p.rel.apart (p := Dl) (.new hD) hD (by rw [upd_same]; exact fun z => nomatch z)).wipe gf
  · exact .new hD
  · intro a ha
    rw [upd_ne (nD a ha)]
    exact ha
  rintro i m Hc ⟨rfl, hi, ⟨σc, acc, accV, r, f, dm, hDl, la, hloop, hmu, hwr, hio, hno⟩⟩
  have hDm : ∀ b, Zp Mo Dl b → Mo b ∨ H1 b = none := fun b z => z.elim .inl fun e => .inr (by rw [e]; exact hD)
  have hM : ∀ b, Mu (Zp Mo Dl) σc (L2.wipe σV vs) b → Mu Mo σ1 σV b ∨ H1 b = none := fun b z => z.elim (fun z => (hDm b z).elim (fun z => .inl (.inl z)) .inr) fun z => .inl (.inr (hmu b z))
  obtain ⟨itGo, itStop, itYld⟩ := p.it Hc f
  by_cases hlt : i < ds.length
  · refine .inr ⟨itGo i hlt, fun H' => CInv T.W C e t c vs Mo σ1 σV H1 Dl ds rs σ2 (i + 1) H', fun H' ci => ⟨ds.length - (i + 1), by omega, rfl, hlt, ci⟩, fun x H2 hy => ?_⟩
    obtain ⟨f2, d, hd, dn⟩ := itYld i x H2 (Mu (Zp Mo Dl) σc (L2.wipe σV vs)) hlt hy hM (fun a z => r.mu_tr z)
    have hdrop : ds.drop i = d :: ds.drop (i + 1) := by
      rw [List.drop_eq_getElem_cons hlt]
      rw [List.getElem?_eq_getElem hlt] at hd
      rw [Option.some.inj hd]
    rw [hdrop] at hloop
    have hloop : ((compF C e t c vs d σc).bind fun x => match x.1 with
        | some y => (R.guard (decide (acc.length < 16777216))).bind fun _ => compLoop (compF C e t c vs) (ds.drop (i + 1)) x.2 (acc ++ [y])
        | none => compLoop (compF C e t c vs) (ds.drop (i + 1)) x.2 acc) = R.ok (rs, σ2) := hloop
    obtain ⟨⟨ro, σn⟩, k1, hloop⟩ := bind_inv hloop
    obtain ⟨s1, k2, k1⟩ := bind_inv k1
    obtain ⟨⟨b, s2⟩, k3, k1⟩ := bind_inv k1
    have r2 := r.grow f2
    have wrM : ∀ b, Z0 b → wrt σ1 σV b ∨ H1 b = none := fun _ z => z.elim
    have frB : Fr (fun b => wrt σ1 σV b ∨ H1 b = none) H1 H2 := f.trans f2 fun _ z => z.elim
    have dmB : ∀ a, H1 a ≠ none → H2 a ≠ none := fun a z => f2.dom a (dm a z)
    have hD2 : H2 Dl = some (.lst accV) := f2.at' hDl fun z => z
    have nwD : ∀ {s : Fm} {sv : L2.St}, Rel T.W (Zp Mo Dl) s sv H2 → ¬ wrt s sv Dl := fun {s sv} rr z => by
      obtain ⟨j, t, d, ej, hd, hv⟩ := z
      obtain ⟨a, h1, h2, _⟩ := rr.mu j d ⟨t, ej, wr_held hd⟩
      rw [hv] at h1
      cases h1
      exact h2 (.inr rfl)
    refine ⟨Zp Mo Dl, σc, d, s1, r2, dn, k2, fun σV1 pT => ⟨wipe_eq (by rw [pT.len, wipe_length]) pT.off sub, ?_⟩⟩
    have hwe : L2.wipe σV1 vs = L2.wipe σV vs := wipe_eq (by rw [pT.len, wipe_length]) pT.off sub
    refine ⟨Zp Mo Dl, s1, b, s2, pT.rel, k3, fun H3 p3 => ?_⟩
    have nD3 : ¬ wrt s1 σV1 Dl := nwD pT.rel
    have hD3 : H3 Dl = some (.lst accV) := p3.fr.at' hD2 nD3
    have zone3 : ∀ a, wrt s1 σV1 a → wrt σ1 σV a ∨ H2 a = none := fun a z => .inl (hwr a (pT.wm a z))
    have frC : Fr (fun b => wrt σ1 σV b ∨ H1 b = none) H1 H3 := frB.trans p3.fr fun a z => .inl (.inl (hwr a (pT.wm a z)))
    have la3 : DenL T.W H3 (Mu (Zp Mo Dl) s2 σV1) acc accV := (la.step f2 (fun _ z => z.elim) (fun b z => .inl z) : DenL T.W H2 (Mu (Zp Mo Dl) σc (L2.wipe σV vs)) acc accV).step p3.fr (fun a z => .inr (wrt_le (pT.wm a z))) fun b z => .inl (z.elim .inl fun z => .inr (pT.mm b (p3.mm b z)))
    cases b with
    | false =>
      have k1 : ((R.guard (freeS s2 vs)).bind fun _ => .ok (none, wipeS s2 vs)) = R.ok (ro, σn) := k1
      obtain ⟨k4, k1⟩ := guard_inv k1
      cases k1
      have hloop : compLoop (compF C e t c vs) (ds.drop (i + 1)) (wipeS s2 vs) acc = .ok (rs, σ2) := hloop
      show CInv T.W C e t c vs Mo σ1 σV H1 Dl ds rs σ2 (i + 1) H3
      have rw2 := p3.rel.wipe k4
      rw [hwe] at rw2
      refine ⟨wipeS s2 vs, acc, accV, rw2, frC, fun a z => p3.dm a (dmB a z), hD3, la3.step (Mw := Z0) .refl (fun _ z => z.elim) (fun b z => .inl (z.elim .inl fun z => .inr ((muts_wipe k4).mp (by rw [hwe]; exact z)))), hloop, fun a z => ?_, fun a z => ?_, fun j dj ej => ?_, wiped_no⟩
      · rw [← hwe] at z
        exact hmu a (pT.mm a (p3.mm a ((muts_wipe k4).mp z)))
      · rw [← hwe] at z
        exact hwr a (pT.wm a (p3.wm a (wrt_wipe z)))
      · exact io_wipe k4 (p3.ios j dj (pT.ios j dj (hio j dj ej)).1)
    | true =>
      have k1 : ((ev C e s2).bind fun z => (fz z).bind fun w => (R.guard (freeS w.2.2 vs)).bind fun _ => .ok (some w.1, wipeS w.2.2 vs)) = R.ok (ro, σn) := k1
      obtain ⟨⟨y, oy, s3⟩, k4, k1⟩ := bind_inv k1
      obtain ⟨⟨w, owy, s4⟩, k5, k1⟩ := bind_inv k1
      obtain ⟨k6, k1⟩ := guard_inv k1
      cases k1
      have hloop : ((R.guard (decide (acc.length < 16777216))).bind fun _ => compLoop (compF C e t c vs) (ds.drop (i + 1)) (wipeS s4 vs) (acc ++ [w])) = R.ok (rs, σ2) := hloop
      obtain ⟨k7, hloop⟩ := guard_inv hloop
      have k7 := of_decide_eq_true k7
      show tE T.W (ev C e) σV1 H3 fun y H4 => ∃ acc, H4 Dl = some (.lst acc) ∧ acc.length < sizeLine ∧ CInv T.W C _ _ _ vs Mo σ1 σV H1 Dl ds rs σ2 (i + 1) (upd H4 Dl (.lst (acc ++ [y])))
      refine ⟨Zp Mo Dl, s2, y, oy, s3, p3.rel, k4, fun v H4 p4 => ?_⟩
      have p5 := p4.freeze k5
      have nD4 : ¬ wrt s2 σV1 Dl := fun z => nD3 (p3.wm Dl z)
      have hD4 : H4 Dl = some (.lst accV) := p5.fr.at' hD3 nD4
      have la4 : DenL T.W H4 (Mu (Zp Mo Dl) s4 σV1) acc accV := la3.step p5.fr (fun a z => .inr (wrt_le z)) fun b z => .inl (z.elim .inl fun z => .inr (p5.mm b z))
      have dv : Den T.W H4 (Mu (Zp Mo Dl) s4 σV1) w v := p5.val.drop
      have rw4 := p5.rel.wipe k6
      rw [hwe] at rw4
      have memD : Mu (Zp Mo Dl) (wipeS s4 vs) (L2.wipe σV vs) Dl := .inl (.inr rfl)
      have f5 : Fr (fun b => b = Dl) H4 (upd H4 Dl (.lst (accV ++ [v]))) := fr_upd fun xs z => by rw [hD4] at z; cases z
      have dm5 : ∀ b, H4 b ≠ none → (upd H4 Dl (.lst (accV ++ [v]))) b ≠ none := fun b hb => by
        by_cases e : b = Dl
        · rw [e, upd_same]; exact fun z => nomatch z
        · rw [upd_ne e]; exact hb
      have la5 : DenL T.W H4 (Mu (Zp Mo Dl) (wipeS s4 vs) (L2.wipe σV vs)) (acc ++ [w]) (accV ++ [v]) := by
        have hz : ∀ b, Mu (Zp Mo Dl) (wipeS s4 vs) (L2.wipe σV vs) b → Mu (Zp Mo Dl) s4 σV1 b ∨ H4 b = none := fun b z => .inl (z.elim .inl fun z => .inr ((muts_wipe k6).mp (by rw [hwe]; exact z)))
        exact (la4.step (Mw := Z0) .refl (fun _ z => z.elim) hz).append (.cons (dv.step (Mw := Z0) .refl (fun _ z => z.elim) hz) .nil)
      have hwD : ∀ b, (fun b => b = Dl) b → Mu (Zp Mo Dl) (wipeS s4 vs) (L2.wipe σV vs) b := fun b e => by rw [show b = Dl from e]; exact memD
      have r5 : Rel T.W (Zp Mo Dl) (wipeS s4 vs) (L2.wipe σV vs) (upd H4 Dl (.lst (accV ++ [v]))) := by
        refine ⟨rw4.len, fun j d e => ?_, fun j d e => ?_, rw4.ne, fun a z => dm5 a (rw4.tr a z)⟩
        · obtain ⟨u, q1, q2⟩ := rw4.im j d e
          exact ⟨u, q1, q2.step f5 hwD fun b z => .inl z⟩
        · obtain ⟨a, q1, q2, q3⟩ := rw4.mu j d e
          exact ⟨a, q1, q2, q3.step f5 (fun z => q2 (.inr z)) hwD fun b z => .inl z⟩
      refine ⟨accV, hD4, by rw [← la4.length, sizeLine_eq]; exact k7, ⟨wipeS s4 vs, acc ++ [w], accV ++ [v], r5, ?_, fun a z => dm5 a (p5.dm a (p3.dm a (dmB a z))), upd_same, la5.step f5 hwD (fun b z => .inl z), hloop, fun a z => ?_, fun a z => ?_, fun j dj ej => ?_, wiped_no⟩⟩
      · exact (frC.trans p5.fr fun a z => .inl (.inl (hwr a (pT.wm a (p3.wm a z))))).trans f5 fun a z => .inl (.inr (by rw [show a = Dl from z]; exact hD))
      · rw [← hwe] at z
        exact hmu a (pT.mm a (p3.mm a (p5.mm a ((muts_wipe k6).mp z))))
      · rw [← hwe] at z
        exact hwr a (pT.wm a (p3.wm a (p5.wm a (wrt_wipe z))))
      · exact io_wipe k6 (p5.ios j dj (p3.ios j dj (pT.ios j dj (hio j dj ej)).1))
  · have ei : i = ds.length := by omega
    subst ei
    rw [List.drop_length] at hloop
    have hloop : R.ok (acc, σc) = .ok (rs, σ2) := hloop
    simp only [R.ok.injEq, Prod.mk.injEq] at hloop
    obtain ⟨e4, e5⟩ := hloop
    subst e4 e5
    refine .inl ⟨itStop _ (Nat.le_refl _), k _ _ ?_⟩
    have hl1 : σc.length = σ1.length := by rw [r.len, wipe_length, p.rel.len]
    have f' : Fr (wrt σ1 σV) H1 Hc := fun a q e nn => f a q e (nn.imp (fun nn z => z.elim nn fun e' => by rw [e] at e'; cases e') id)
    have rb : Rel T.W (Zp Mo Dl) (backS σ1 σc vs) σV Hc := r.back p.rel gf hno f' (fun b z => .inr (wrt_le z)) hM
    have mb : ∀ a, muts (backS σ1 σc vs) σV a ↔ muts σc (L2.wipe σV vs) a := fun a => muts_back gf hl1 hno
    have wb : ∀ a, wrt (backS σ1 σc vs) σV a → wrt σ1 σV a := fun a z => hwr a (wrt_back gf hl1 z)
    have ib : ∀ (j : Nat) (b : Bool), Pin σ1 j b → Pin (backS σ1 σc vs) j b := fun j d ej => by
      have n := pin_free gf ej
      obtain ⟨s, h1, h2⟩ := hio j d ej
      exact ⟨s, by rw [backS_get, if_neg (fun z => n z.1)]; exact h1, h2⟩
    -- the slot that was locked is free again
    have unl : ∃ (hR : Rel T.W (Zp Mo Dl) σ3 σV Hc), (∀ a, muts σ3 σV a ↔ muts (backS σ1 σc vs) σV a) ∧ (∀ a, wrt σ3 σV a → wrt σ σV a) ∧ (∀ (j : Nat) (b : Bool), (∃ c, Pin σ j c) → Pin (backS σ1 σc vs) j b → Pin σ3 j b) := by
      cases lk with
      | v x =>
        have g3 : R.ok (backS σ1 σc vs) = .ok σ3 := g3
        cases g3
        exact ⟨rb, fun a => Iff.rfl, fun a z => p.wm a (wb a z), fun j d _ e => e⟩
      | r i =>
        have g3 : (match (backS σ1 σc vs)[i]? with | some (.lk d) => R.ok ((backS σ1 σc vs).set i (.mu d)) | _ => .bad) = .ok σ3 := g3
        split at g3
        · rename_i d eb
          cases g3
          obtain ⟨d0, a0, q1, q2, q3, q4⟩ := p.un i rfl
          have hh : Held (backS σ1 σc vs) i d := ⟨_, eb, rfl⟩
          have hi := lt_of_some eb
          obtain ⟨a, ea, na, ow⟩ := rb.mu i d hh
          have ea2 := ea
          rw [q2] at ea2
          cases ea2
          refine ⟨rb.upd hh rfl ea .refl (fun b z => z) (fun b z => z) (fun b z => .inl z) rb.tr ow, fun b => muts_set hh rfl, fun b z => ?_, fun j dj hc ej => ?_⟩
          · obtain ⟨j, s, e, ej, hw, hv⟩ := z
            by_cases q : j = i
            · subst q
              rw [ea] at hv
              cases hv
              exact q3
            · rw [List.getElem?_set_ne (Ne.symm q)] at ej
              exact p.wm b (wb b ⟨j, s, e, ej, hw, hv⟩)
          · have n : j ≠ i := fun z => by
              obtain ⟨c, hc⟩ := hc
              rw [z] at hc
              exact q4 c hc
            obtain ⟨s, h1, h2⟩ := ej
            exact ⟨s, by rw [List.getElem?_set_ne (Ne.symm n)]; exact h1, h2⟩
        · cases g3
    obtain ⟨hR, hm3, hw3, hi3⟩ := unl
    have nDm : ¬ Mu Mo σ3 σV Dl := fun z => by
      rcases z with z | z
      · exact p.rel.tr Dl z hD
      · exact p.rel.held_tr (hmu Dl ((mb Dl).mp ((hm3 Dl).mp z))) hD
    refine ⟨p.fr.trans f fun a z => z.elim (fun z => .inl (p.wm a z)) (fun z => .inr (none_back p.dm z)), fun a z => dm a (p.dm a z), fun a z => p.mm a (hmu a ((mb a).mp ((hm3 a).mp z))), hw3, fun j d ej => ?_, hR.drop, ⟨Dl, rfl, nDm, ?_, hR⟩, fun _ a ea => ?_⟩
    · exact hi3 j d ⟨d, ej⟩ (ib j d (p.ios j d ej))
    · refine .lst hDl (la.step (Mw := Z0) .refl (fun _ z => z.elim) fun b z => ?_)
      rcases z with (z | z) | z
      · exact .inl (.inl (.inl z))
      · exact .inl (.inr ((mb b).mp ((hm3 b).mp z)))
      · exact .inl (.inl (.inr z))
    · cases ea
      exact none_back p.dm hD
theorem snd_comp (o : Okay T C n X sc) {e t it c : E} {vs : List Nat} (hit : ∀ X sc, Okay T C n X sc → ∀ a, a ∈ subI it → Snd T C a n X sc) (hc : ∀ X sc, Okay T C n X sc → ∀ b, c = .cons b .nil → Snd T C b n X sc)
    (he : ∀ X sc, Okay T C n X sc → Snd T C e n X sc) {x : Expr} (h : chk T sc (.comp e t it c vs) x = true) : PE X x (tE T.W (ev C (.comp e t it c vs))) := by
  cases x with
  | ListComp elt gens scope pos =>
    match gens, h with
    | [⟨tg, iter, ifs, as⟩], h =>
      simp only [chk, Bool.and_eq_true, decide_eq_true_eq] at h
      obtain ⟨⟨⟨⟨⟨⟨rfl, h1⟩, h2⟩, h3⟩, h4⟩, h5⟩, h6⟩ := h
      have sub : ∀ j ∈ tgs t, j ∈ vs := fun j hj => by
        rw [List.all_eq_true] at h4
        have := h4 j hj
        simpa using this
      have eo : (ownL T.N vs).map (·.2) = vs := by simp [ownL, Function.comp_def]
      refine PE.weak (pe_lc (own := ownL T.N vs) o.calm o.nd (sound_it o (hit X sc o) h2) (by rw [o.N, o.sc]; exact blkOk_by h1)
        (fun s H A cl fp => ((sound_tgt (dl := false) o.blk (fun z => nomatch z) t).1 tg h3)) (fun s H A cl fp => sound_c (hc _ _ o.blk) h5) (fun s H A cl fp => (he _ _ o.blk).e elt h6) (folded_plain (chkI_plain h2))) fun σV H Q q => by rw [eo]; exact comp_read sub q
    | [], h => simp [chk] at h
    | _ :: _ :: _, h => simp [chk] at h
  | _ => simp [chk] at h
end
end Mini

set_option Elab.async false
set_option linter.all false
set_option maxRecDepth 100000
set_option maxHeartbeats 4000000
/-! ## what is never reached; type(x) is int; isinstance of own classes; f-strings -/
namespace Mini
open PySem L2
section
variable {T : Tb} {C : Cb} {n : Nat} {X : Cx} {sc : Scope}
theorem pt_bad {e : Expr} {r : Fm → Res} (h : ∀ σ x, r σ ≠ .ok x) : PT X e (tT T.W fun σ => tst (r σ)) := ⟨fun pins s σ H Q I q => by
  obtain ⟨Mo, σ, b, σ', _, hs, _⟩ := q
  obtain ⟨x, o, d, h1, _, _⟩ := tst_inv hs
  exact absurd h1 (h _ _)⟩
/-- a comparison: its value, its truth -/
theorem cmp_both {W : Wd} {op : CmpOp} {x y : Expr} {rr : R2} {ta tb : TE} {pos : Pos} (ho : OpR X (compareOp op) rr) (ha : PE X x ta) (hb : PE X y tb) (hm : behindInMarks op y = false) {r : Fm → Res}
    (read : ∀ σV H Q, tE W r σV H Q → tOp rr ta tb σV H Q) (isb : ∀ σ x o σ', r σ = .ok (x, o, σ') → ∃ b, x = .v (.bl b)) :
    PE X (.Compare x [op] [y] pos) (tE W r) ∧ PT X (.Compare x [op] [y] pos) (tT W fun σ => tst (r σ)) := by
  refine ⟨PE.weak (pe_cmpR ho ha hb hm) read, PT.weak (pt_cmpR ho ha hb hm) fun σV H Q q => read σV H _ ?_⟩
  obtain ⟨Mo, σ, b', σ', hr, hs, k⟩ := q
  obtain ⟨x, ow, d, g1, g2, g3⟩ := tst_inv hs
  refine ⟨Mo, σ, x, ow, σ', hr, g1, fun v H' p => ?_⟩
  obtain ⟨b2, rfl⟩ := isb _ _ _ _ g1
  cases g2
  cases g3
  have hv : Den W H' (Mu Mo σ' σV) (.bl b') v := p.val.drop
  cases hv
  exact ⟨b', rfl, k H' p.bare⟩
theorem tyB_of {K : PySem.W.Frag} {W : Wd} {M : Zone} {H : Hp} {d : D} {v : V} {b : Bool} (h : DenW W H M d v) (e : isIntT d = .ok b) : ∃ t, TyB K H v t ∧ decide (t = "int") = b := by
  unfold isIntT at e
  split at e
  · cases e; cases h.int; exact ⟨_, .int _, rfl⟩
  · cases e; cases h.non; exact ⟨_, .non, by decide⟩
  · cases e; cases h.bl; exact ⟨_, .bl _, by decide⟩
  · cases e; cases h.str; exact ⟨_, .str _, by decide⟩
  · cases e; obtain ⟨a, ys, rfl, ha, m, la⟩ := h.tup; exact ⟨_, .tup (.of ha), by decide⟩
  · cases e; obtain ⟨a, ys, rfl, ha, la⟩ := h.lst; exact ⟨_, .lst (.of ha), by decide⟩
  · cases e
theorem snd_tyi (o : Okay T C n X sc) {a : E} (ha : Snd T C a n X sc) {e : Expr} (h : chk T sc (.tyi a) e = true) :
    PE X e (tE T.W (ev C (.tyi a))) ∧ PT X e (tT T.W fun σ => tst (ev C (.tyi a) σ)) := by
  unfold chk at h
  split at h <;> first | (rename_i h0; cases h0; done) | skip
  all_goals first | (cases h; done) | skip
  all_goals first | (rename_i heq; cases heq; done) | skip
  rename_i x p y q z p2 pos
  simp only [Bool.and_eq_true, decide_eq_true_eq] at h
  obtain ⟨⟨⟨⟨⟨⟨rfl, h1⟩, h2⟩, rfl⟩, h5⟩, h6⟩, h7⟩ := h
  have hty : PE X (.Name "int" p2) (tC (.ty "int")) := pe_bltn (gl_of o h5) (o.blt _ h6) (by decide +kernel) rfl
  have pl := chk_plain h7
  have hc : PE X (.Call (.Name "type" p) [y] [] q) (tCB (rTyp X.K) (tCons (tE T.W (ev C a)) tNil)) := pe_callTy call_type1 (gl_of o h1) (o.blt _ h2) (by decide +kernel) (pa_cons (ha.e _ h7) pa_nil (star_plain pl)) (by decide) (by decide) (star_plain pl) (by rfl)
  refine cmp_both op_isTyB hc hty rfl (fun σV H Q q => ?_) (fun σ x o σ' hs => ?_)
  · obtain ⟨Mo, σ, x, ow, σ', hr, hs, kk⟩ := q
    have hs : ((ev C a σ).bind fun x => (rd x.2.2 x.1).bind fun d => asB x.2.2 (isIntT d)) = .ok (x, ow, σ') := hs
    obtain ⟨⟨x1, o1, σ1⟩, g1, hs⟩ := bind_inv hs
    obtain ⟨d, g2, hs⟩ := bind_inv hs
    obtain ⟨b, g3, rfl, rfl, rfl⟩ := asB_inv hs
    refine ⟨Mo, σ, x1, o1, _, hr, g1, fun v H' p => ?_⟩
    obtain ⟨t, ht, hb⟩ := tyB_of (K := X.K) (p.val.rd p.rel g2) g3
    exact ⟨v, t, rfl, ht, t, "int", rfl, rfl, by rw [hb]; exact kk _ _ (p.new (.same (.bl b)))⟩
  · have hs : ((ev C a σ).bind fun x => (rd x.2.2 x.1).bind fun d => asB x.2.2 (isIntT d)) = .ok (x, o, σ') := hs
    obtain ⟨_, _, hs⟩ := bind_inv hs
    obtain ⟨_, _, hs⟩ := bind_inv hs
    obtain ⟨b, _, e, _⟩ := asB_inv hs
    exact ⟨b, e⟩
theorem snd_isc (o : Okay T C n X sc) {c : Nat} {a : E} (ha : Snd T C a n X sc) {e : Expr} (h : chk T sc (.isc c a) e = true) : PE X e (tE T.W (ev C (.isc c a))) := by
  unfold chk at h
  split at h <;> first | (rename_i h0; cases h0; done) | skip
  all_goals first | (cases h; done) | skip
  all_goals first | (rename_i heq; cases heq; done) | skip
  rename_i x p e t p2 pos
  simp only [Bool.and_eq_true, decide_eq_true_eq, Bool.not_eq_true'] at h
  obtain ⟨⟨⟨⟨⟨⟨rfl, h1⟩, h2⟩, h3⟩, h4⟩, h5⟩, h7⟩ := h
  obtain ⟨A, hA, hplain, hown⟩ := o.isown t c h3
  have ht : PE X (.Name t p2) (tC (.ref A)) := pe_glob (gl_of o h4) hA rfl h5
  have pl := chk_plain h7
  refine PE.weak (pe_callB call_isi (gl_of o h1) (o.blt _ h2) (by decide +kernel) (pa_cons (ha.e _ h7) (pa_cons ht pa_nil) (star_plain pl)) (by decide) (by decide) (star_plain pl) (by rfl)) fun σV H Q q => ?_
  obtain ⟨Mo, σ, x, ow, σ', hr, hs, kk⟩ := q
  have hs : ((ev C a σ).bind fun x => (rd x.2.2 x.1).bind fun d => asB x.2.2 (isOwn C.isa c d)) = .ok (x, ow, σ') := hs
  obtain ⟨⟨x1, o1, σ1⟩, g1, hs⟩ := bind_inv hs
  obtain ⟨d, g2, hs⟩ := bind_inv hs
  obtain ⟨b, g3, rfl, rfl, rfl⟩ := asB_inv hs
  refine ⟨Mo, σ, x1, o1, _, hr, g1, fun v H' p => ?_⟩
  have hd := p.val.rd p.rel g2
  have go : ∀ {t : Value}, TyX X.K H' v t → PySem.W.kitOne X.K t (.ref A) = some b → rIsi X.K [v, V.ref A] H' Q := fun {t} ty e => ⟨v, .ref A, t, .ref A, b, rfl, .own A, ty, e, kk _ _ (p.new (.same (.bl b)))⟩
  show rIsi X.K [v, V.ref A] H' Q
  unfold isOwn at g3
  split at g3
  · rename_i c' ns vs
    cases g3
    have gen : ∀ {b A' dx : Addr} {fs : List (Str × V)}, v = .ref b → H' b = some (.ins A' dx fs) → T.W.cls c' = some A' → TyX X.K H' v (.ref A') ∧ PySem.W.kitOne X.K (.ref A') (.ref A) = some (C.isa c' c) := fun {b A' dx fs} e1 e2 e3 => by
      obtain ⟨k1, k2, k3, k4, k5, k6⟩ := hown c' A' e3
      subst e1
      exact ⟨.base (.ins e2 k1 k2 k3 k4 k5), k6⟩
    rcases hd with hd | ⟨b, rfl, hd⟩
    · cases hd with
      | ins e m hc hn l => obtain ⟨q1, q2⟩ := gen rfl e hc; exact go q1 q2
    · cases hd with
      | ins e hc hn l => obtain ⟨q1, q2⟩ := gen rfl e hc; exact go q1 q2
  · cases g3; cases hd.non; exact go (.base .non) (hplain _ (by simp))
  · cases g3; cases hd.bl; exact go (.base (.bl _)) (hplain _ (by simp))
  · cases g3; cases hd.int; exact go (.base (.int _)) (hplain _ (by simp))
  · cases g3; cases hd.str; exact go (.base (.str _)) (hplain _ (by simp))
  · cases g3; obtain ⟨a, ys, rfl, ha, m, la⟩ := hd.tup; exact go (.base (.tup ha)) (hplain _ (by simp))
  · cases g3; obtain ⟨a, ys, rfl, ha, la⟩ := hd.lst; exact go (.base (.lst ha)) (hplain _ (by simp))
  · cases g3
/-! ### f-strings -/
noncomputable def SndA (T : Tb) (C : Cb) (n : Nat) (c : E) : Prop := ∀ X sc, Okay T C n X sc → Snd T C c n X sc
/-- parts that are formatted -/
noncomputable def JP (T : Tb) (C : Cb) (n : Nat) : E → Prop
  | .cons p l => (∀ a, p = .fmt a → SndA T C n a) ∧ JP T C n l
  | _ => True
/-- the readings of the parts -/
noncomputable def tPart (W : Wd) (C : Cb) : E → TE
  | .fmt a => tFmt (tE W (ev C a))
  | .lit (.str y) => tC (.str y)
  | _ => fun _ _ _ => False
noncomputable def tParts (W : Wd) (C : Cb) : E → List TE
  | .cons p l => tPart W C p :: tParts W C l
  | _ => []
theorem pj_parts (o : Okay T C n X sc) {l : E} : ∀ {es : List Expr}, JP T C n l → chkJ T sc l es = true → PJ X es (tParts T.W C l) := by
  induction l with
  | nil =>
    intro es _ h
    cases es with
    | nil => exact .nil
    | cons _ _ => simp [chkJ] at h
  | cons p l _ ih =>
    intro es hj h
    obtain ⟨hj1, hj2⟩ := hj
    cases es with
    | nil =>
      cases p with
      | lit d => cases d <;> simp [chkJ] at h
      | _ => simp [chkJ] at h
    | cons e es =>
      cases p with
      | lit d =>
        cases d with
        | str y =>
          cases e with
          | Constant c k pos =>
            cases c with
            | str z =>
              simp only [chkJ, Bool.and_eq_true, decide_eq_true_eq] at h
              obtain ⟨rfl, h2⟩ := h
              exact .cons pe_str (ih hj2 h2)
            | _ => simp [chkJ] at h
          | _ => simp [chkJ] at h
        | _ => simp [chkJ] at h
      | fmt a =>
        cases e with
        | FormattedValue v c spec pos =>
          cases spec with
          | some _ => simp [chkJ] at h
          | none =>
            simp only [chkJ, Bool.and_eq_true, decide_eq_true_eq] at h
            obtain ⟨⟨rfl, h1⟩, h2⟩ := h
            exact .cons (pe_fmt ((hj1 a rfl X sc o).e v h1)) (ih hj2 h2)
        | _ => simp [chkJ] at h
      | _ => simp [chkJ] at h
  | _ => intro es _ h; cases es <;> simp [chkJ] at h
theorem fmt_read {W : Wd} {a : E} {σV : L2.St} {H : Hp} {Q : VK} (q : ∃ Mo σ x o σ' d y, Rel W Mo σ σV H ∧ ev C a σ = .ok (x, o, σ') ∧ rd σ' x = .ok d ∧ fmtD d = .ok y ∧ ∀ H', Post W Mo σ σV H (.v .non) false σ' .non H' → Q (.str y) H') : tFmt (tE W (ev C a)) σV H Q := by
  obtain ⟨Mo, σ, x, o, σ', d, y, hr, h1, h2, h3, k⟩ := q
  refine ⟨Mo, σ, x, o, σ', hr, h1, fun v H' p => ?_⟩
  have hd := p.val.rd p.rel h2
  unfold fmtD at h3
  split at h3
  · obtain ⟨hz, h3⟩ := guard_inv h3
    cases h3
    cases hd.str
    exact .inl ⟨_, rfl, size_ok hz, k H' p.bare⟩
  · obtain ⟨hz, h3⟩ := guard_inv h3
    cases h3
    cases hd.int
    exact .inr ⟨_, rfl, of_decide_eq_true hz, k H' p.bare⟩
  · cases h3
theorem parts_read {W : Wd} {l : E} : ∀ {acc out : Str} {Mo : Zone} {σ σ' : Fm} {σV : L2.St} {H : Hp} {Q : Str → Hp → Prop}, Rel W Mo σ σV H → evJ C l acc σ = .ok (out, σ') → (∀ H', Post W Mo σ σV H (.v .non) false σ' .non H' → Q out H') → tJs (tParts W C l) acc σV H Q := by
  induction l with
  | nil =>
    intro acc out Mo σ σ' σV H Q hr h k
    cases h
    exact k H (.refl hr .non)
  | cons p l _ ih =>
    intro acc out Mo σ σ' σV H Q hr h k
    cases p with
    | lit d =>
      cases d with
      | str y =>
        have h : ((R.guard (sizeOk (acc ++ y).length)).bind fun _ => evJ C l (acc ++ y) σ) = .ok (out, σ') := h
        obtain ⟨hz, h⟩ := guard_inv h
        exact ⟨y, rfl, size_ok hz, ih hr h k⟩
      | _ => cases h
    | fmt a =>
      have h : ((ev C a σ).bind fun x => (rd x.2.2 x.1).bind fun d => (fmtD d).bind fun y => (R.guard (sizeOk (acc ++ y).length)).bind fun _ => evJ C l (acc ++ y) x.2.2) = .ok (out, σ') := h
      obtain ⟨⟨x1, o1, σ1⟩, g1, h⟩ := bind_inv h
      obtain ⟨d, g2, h⟩ := bind_inv h
      obtain ⟨y, g3, h⟩ := bind_inv h
      obtain ⟨hz, h⟩ := guard_inv h
      show tFmt (tE W (ev C a)) σV H (fun x H1 => ∃ y : Str, x = .str y ∧ (acc ++ y).length ≤ sizeLine ∧ tJs (tParts W C l) (acc ++ y) σV H1 Q)
      exact fmt_read ⟨Mo, σ, x1, o1, σ1, d, y, hr, g1, g2, g3, fun H' p => ⟨y, rfl, size_ok hz, ih p.rel h fun H2 p2 => k H2 (p.trans p2)⟩⟩
    | _ => cases h
  | _ => intro acc out Mo σ σ' σV H Q hr h k; cases h
theorem snd_fstr (o : Okay T C n X sc) {l : E} (hj : JP T C n l) {e : Expr} (h : chk T sc (.fstr l) e = true) : PE X e (tE T.W (ev C (.fstr l))) := by
  cases e with
  | JoinedStr es pos =>
    simp only [chk, Bool.and_eq_true, decide_eq_true_eq] at h
    obtain ⟨h1, h2⟩ := h
    have pj := pj_parts o hj h2
    match es, h1, pj with
    | v1 :: v2 :: rest, _, pj =>
      refine PE.weak (pe_joined pj) fun σV H Q q => ?_
      obtain ⟨Mo, σ, x, ow, σ', hr, hs, k⟩ := q
      have hs : ((evJ C l Str.empty σ).bind fun x => .ok (.v (.str x.1), false, x.2)) = R.ok (x, ow, σ') := hs
      obtain ⟨⟨out, σ1⟩, g1, hs⟩ := bind_inv hs
      cases hs
      exact parts_read hr g1 fun H' p => k _ H' (p.new (.same (.str out)))
  | _ => simp [chk] at h
end
end Mini

set_option Elab.async false
set_option linter.all false
set_option maxRecDepth 100000
set_option maxHeartbeats 4000000
/-! ## == and != by a class's own __eq__ -/
namespace Mini
open PySem L2
section
variable {prog : Program} {w : World} {A : Around} {E : Value → Shared → Prop} {s : Shared} {K : PySem.W.Frag} {x C L f : Addr} {h₀ : Heap} {m : Str → Option Value} {ox : Obj} {od : Option Obj} {b tb : Value}
theorem looks_inst {M : Model} {h : Heap} (X : K.In h) (I : PySem.W.InstAt h x ox C od) (hm : PySem.W.mroIn K C (.type "object") = some true) : PySem.W.Looks M h (isInstance (.ref x) (.type "object")) true :=
  (I.type).andThen (PySem.W.looks_mroIn X hm)
theorem ne_body {Q : PySem.Fin → Shared → Prop} (X : K.In s.heap) (I : PySem.W.InstAt s.heap x ox C od) (hs : PySem.W.findIn K (.ref C) "__eq__" = some (some (.ref f))) (hf : PySem.W.isFn K (.ref f) = true) (hu : A.units < cLine)
    (h : wpAny (model prog w) A (call (.ref f) [.ref x, b]) (fun v s' => ∃ k, v = .bool k ∧ Q (.done (.ret (.bool (!k)))) s') E s) : wpAny (model prog w) A (Builtin.«object.__ne__» ⟨[.ref x, b], []⟩) Q E s := by
  unfold Builtin.«object.__ne__»
  refine wpAny_bind (m := slotArgs _ _ _) (wpAny_pure ?_)
  refine wpAny_bind (wpAny_cRoomFor hu ?_)
  refine wpAny_bind (PySem.W.ifBound_K X I hs hf (wpAny_mono h (fun v s' hv => ?_) fun _ _ e => e))
  obtain ⟨k, rfl, q⟩ := hv
  refine wpAny_bind (wpAny_truthy_bool ?_)
  exact wpAny_pure q
theorem ne_K {Q : Value → Shared → Prop} (hu : A.units + 1 < cLine) (Fm0 : PyProof.Rows.Fr h₀ L s.heap m) (X₀ : K.In h₀) (I : PySem.W.InstAt s.heap x ox C od) (hb : PySem.W.Looks (model prog w) s.heap (typeOf b) tb) (hn : PySem.W.notFirst K C tb = true)
    (hne : PySem.W.findIn K (.ref C) "__ne__" = some (some (.builtin "object.__ne__"))) (hm : PySem.W.mroIn K C (.type "object") = some true)
    (hs : PySem.W.findIn K (.ref C) "__eq__" = some (some (.ref f))) (hf : PySem.W.isFn K (.ref f) = true)
    (h : wpAny (model prog w) A.in1 (call (.ref f) [.ref x, b]) (fun v s' => ∃ k, v = .bool k ∧ Q (.bool (!k)) s') E s) : wpAny (model prog w) A (richCompare .NotEq (.ref x) b) Q E s := by
  have X := X₀.keeps Fm0.keep
  have hu0 : A.units < cLine := Nat.lt_of_succ_lt hu
  have one : wpAny (model prog w) A (tryCompare (.ref x) "__ne__" b) (fun r s' => ∃ v, r = some v ∧ Q v s') E s := by
    unfold tryCompare
    have callne : wpAny (model prog w) A (call (.builtin "object.__ne__") [.ref x, b]) (fun v s' => ∃ k, v = .bool k ∧ Q v s') E s := by
      refine wpAny_call (codeAny_call_builtin PySem.F.cmp_object.ne.plain PySem.F.cmpEntry_ne (PySem.W.check_slot PySem.F.cmpKind_ne PySem.F.cmpSplit_ne (looks_inst X I hm) (PySem.F.cmpArgs_ne _ _) ?_))
      refine ne_body X I hs hf hu (wpAny_mono h (fun v s' hv => ?_) fun _ _ e => e)
      obtain ⟨k, rfl, q⟩ := hv
      exact ⟨k, rfl, _, rfl, q⟩
    simp only [callSpecialIfBound?, bindSpecialIfBound?]
    refine wpAny_bind (wpAny_holding (wpAny_bind (wpAny_bind (wpAny_bind (I.type.here ((PySem.W.looks_findIn X hne).here ?_))))))
    refine wpAny_bind (wpAny_askSetting (wpAny_ite ?_))
    have fin : wpAny (model prog w) A (call (.builtin "object.__ne__") ([.ref x] ++ [b]) >>= fun v => pure (some v)) (fun r s' => wpAny (model prog w) A (match r with | some .notImplemented => pure none | none => pure none | some v => pure (some v)) (fun r s' => ∃ v, r = some v ∧ Q v s') E s') E s := by
      refine wpAny_bind (wpAny_mono callne (fun v s' hv => wpAny_pure ?_) fun _ _ e => e)
      obtain ⟨k, rfl, q⟩ := hv
      exact wpAny_pure ⟨_, rfl, q⟩
    split
    · exact wpAny_bind (by rw [PySem.F.cmp_object.ne.bind]; exact wpAny_pure (wpAny_pure fin))
    · exact wpAny_tryCatch (wpAny_bind (by rw [PySem.F.cmp_object.ne.bind]; exact wpAny_pure (wpAny_pure fin)))
  unfold richCompare
  simp only [oneThing_ref]
  refine wpAny_holding (wpAny_bind (wpAny_cRoomFor hu0 ?_))
  refine wpAny_bind (I.type.here (wpAny_bind (hb.here ?_)))
  split
  · rename_i q
    have e : PySem.W.subIn K tb (.ref C) = some false := by
      rcases Bool.or_eq_true_iff.mp hn with e | e
      · rw [beq_iff_eq.mp e] at q; simp at q
      · exact beq_iff_eq.mp e
    refine wpAny_bind ((PySem.W.looks_subIn X e).here ?_)
    simp only [Bool.false_eq_true, if_false]
    refine wpAny_bind (wpAny_mono one (fun r s' z => ?_) fun _ _ e => e)
    obtain ⟨v, rfl, hq⟩ := z
    exact wpAny_pure hq
  · refine wpAny_bind (wpAny_pure ?_)
    simp only [Bool.false_eq_true, if_false]
    refine wpAny_bind (wpAny_mono one (fun r s' z => ?_) fun _ _ e => e)
    obtain ⟨v, rfl, hq⟩ := z
    exact wpAny_pure hq
end
section
variable {X : Cx} {n : Nat}
noncomputable def rOwn (X : Cx) (n : Nat) (neg : Bool) : R2 := fun x y H Q => ∃ (a b A dx dy f : Addr) (fs gs : List (Str × V)) (fd : FuncData) (ps : List Str) (sp : Sp), x = .ref a ∧ y = .ref b ∧ H a = some (.ins A dx fs) ∧ H b = some (.ins A dy gs) ∧
  PySem.W.findIn X.K (.ref A) "__eq__" = some (some (.ref f)) ∧ PySem.W.isFn X.K (.ref f) = true ∧ Binds X.K fd ps [] ∧ FnG X.prog X.w X.K X.mg X.base CX0 n f fd ps sp ∧
  (neg = true → PySem.W.findIn X.K (.ref A) "__ne__" = some (some (.builtin "object.__ne__")) ∧ PySem.W.mroIn X.K A (.type "object") = some true) ∧
  sp [.ref a, .ref b] H (fun v H' => ∃ k : Bool, v = .bl k ∧ Q (.bl (k != neg)) H') E0
theorem own_call {A : Around} {pins : List (Addr × Obj)} {s : Shared} {σ : L2.St} {H : Hp} {a b f : Addr} {fd : FuncData} {ps : List Str} {sp : Sp} {Q : V → Hp → Prop} (sb : Sub X n A) (ag : A.guards = some []) (I : Inv X pins σ H s)
    (hb : Binds X.K fd ps []) (Fn : FnG X.prog X.w X.K X.mg X.base CX0 n f fd ps sp) (hsp : sp [.ref a, .ref b] H (fun v H' => ∃ k : Bool, v = .bl k ∧ Q (.bl k) H') E0) :
    wpAny (model X.prog X.w) A (call (.ref f) [.ref a, .ref b]) (fun v s' => ∃ k : Bool, v = .bool k ∧ ∃ H', Inv X pins σ H' s' ∧ Q (.bl k) H') X.xe s := by
  have e0 : Env0 X.prog X.w X.K X.mg X.base A X.stack s H := by
    have e := I.env0
    exact ⟨by rw [sb.fr]; exact e.frames, e.mod, e.bs, e.bsz, e.funs, e.frf, e.hok, e.bare⟩
  have hl := Fn.len _ _ _ _ hsp
  have r2 : Vals [V.ref a, V.ref b] [Value.ref a, Value.ref b] := .cons rfl (.cons rfl .nil)
  refine wpAny_call (codeAny_mono (Fn.run (args := ⟨[.ref a, .ref b], []⟩) (us := [.ref a, .ref b]) ag sb.room e0 (by
    have := hb s [.ref a, .ref b] I.kIn (by simpa using hl)
    simpa using this) r2 hsp) fun r s' hq => ?_)
  cases r with
  | error e => exact (hq : False).elim
  | ok fl =>
    cases fl with
    | ret w =>
      obtain ⟨z, H', I', rz, k, ez, q⟩ := I.after hq
      subst ez
      cases rz
      exact ⟨k, rfl, H', I', q⟩
    | next => exact False.elim hq
    | brk => exact False.elim hq
    | cont => exact False.elim hq
theorem op_own (hgu : X.A.guards = some []) (hr : Room (n + 1) X.A) (neg : Bool) : OpR X (compareOp (if neg then .NotEq else .Eq)) (rOwn X n neg) := by
  intro pins s σ H x y v u Q I rx ry h
  obtain ⟨a, b, A, dx, dy, f, fs, gs, fd, ps, sp, rfl, rfl, ha, hb', hs, hf, hb, Fn, hne, hsp⟩ := h
  cases rx
  cases ry
  obtain ⟨mA, J, _⟩ := ins_get I.hok ha
  obtain ⟨mB, J', _⟩ := ins_get I.hok hb'
  obtain ⟨od, J, _⟩ := J.look
  obtain ⟨od', J', _⟩ := J'.look
  obtain ⟨m, hF⟩ := I.fr
  cases neg with
  | false =>
    show wpAny (model X.prog X.w) X.A (richCompare .Eq (.ref a) (.ref b)) (EP X pins σ Q) X.xe s
    refine PySem.W.cmp_K (op := .Eq) (tb := .ref A) hr.units0 hF I.ok.mod.kin J J'.type (by simp [PySem.W.notFirst]) hs hf ?_
    refine wpAny_mono (own_call (Q := fun v H' => ∃ k : Bool, v = .bl k ∧ Q (.bl (k != false)) H') ⟨hr.mono (Nat.le_succ n), rfl⟩ hgu I hb Fn (by simpa using hsp)) (fun v s' hv => ?_) fun _ _ e => e
    obtain ⟨k, rfl, H', I', k', e, q⟩ := hv
    cases e
    exact ⟨.bl k, H', I', rfl, by simpa using q⟩
  | true =>
    show wpAny (model X.prog X.w) X.A (richCompare .NotEq (.ref a) (.ref b)) (EP X pins σ Q) X.xe s
    obtain ⟨h1, h2⟩ := hne rfl
    have hu : X.A.units + 1 < cLine := by have := hr.un; omega
    refine ne_K (tb := .ref A) hu hF I.ok.mod.kin J J'.type (by simp [PySem.W.notFirst]) h1 h2 hs hf ?_
    have sb : Sub X n X.A.in1 := (Sub.in1 (⟨hr, rfl⟩ : Sub X (n + 1) X.A))
    refine wpAny_mono (own_call (Q := fun v H' => ∃ k : Bool, v = .bl k ∧ Q (.bl (k != true)) H') sb hgu I hb Fn (by simpa using hsp)) (fun v s' hv => ?_) fun _ _ e => e
    obtain ⟨k, rfl, H', I', k', e, q⟩ := hv
    cases e
    exact ⟨k, rfl, .bl (!k), H', I', rfl, by simpa using q⟩
end
section
variable {T : Tb} {C : Cb} {n : Nat} {X : Cx} {sc : Scope}
theorem Den.insI {W : Wd} {M : Zone} {H : Hp} {c : Nat} {ns : List Nat} {vs : List D} {v : V} (h : Den W H M (.ins c ns vs) v) : ∃ a A dx fs, v = .ref a ∧ H a = some (.ins A dx fs) ∧ W.cls c = some A := by
  cases h with
  | ins h m hc hn l => exact ⟨_, _, _, _, rfl, h, hc⟩
theorem snd_oeq (o : Okay T C n X sc) {neg : Bool} {a b : E} (ha : Snd T C a n X sc) (hb : Snd T C b n X sc) {e : Expr} (h : chk T sc (.oeq neg a b) e = true) :
    PE X e (tE T.W (ev C (.oeq neg a b))) ∧ PT X e (tT T.W fun σ => tst (ev C (.oeq neg a b) σ)) := by
  cases e with
  | Compare x ops ys pos =>
    match ops, ys, h with
    | [op'], [y], h =>
      simp only [chk, Bool.and_eq_true, decide_eq_true_eq] at h
      obtain ⟨⟨rfl, h1⟩, h2⟩ := h
      have hm : behindInMarks (if neg then .NotEq else .Eq) y = false := mark_plain (chk_plain h2)
      have opn : ∀ {σ : Fm} {r}, ev C (.oeq neg a b) σ = r → ((ev C a σ).bind fun x => (fz x).bind fun x => (ev C b x.2.2).bind fun y => (fz y).bind fun y => match x.1, y.1 with
          | .ins c ns vs, .ins c' ns' vs' => match C.sp c 0 with
            | some f => if c' = c ∧ C.io f = false then (C.call f [.im (.ins c ns vs), .im (.ins c' ns' vs')]).bind fun r => match r.1 with
              | .bl k => .ok (.v (.bl (k != neg)), false, y.2.2)
              | _ => .bad
              else .bad
            | none => .bad
          | _, _ => .bad) = r := fun h => h
      refine cmp_both (op_own o.gd o.room neg) (ha.e _ h1) (hb.e _ h2) hm (fun σV H Q q => ?_) (fun σ x o' σ' hs => ?_)
      · obtain ⟨Mo, σ, z, ow, σ', hr, hs, k⟩ := q
        have hs := opn hs
        obtain ⟨⟨x1, o1, σ1⟩, g1, hs⟩ := bind_inv hs
        obtain ⟨⟨d, o2, σ2⟩, g2, hs⟩ := bind_inv hs
        obtain ⟨⟨x3, o3, σ3⟩, g3, hs⟩ := bind_inv hs
        obtain ⟨⟨e, o4, σ4⟩, g4, hs⟩ := bind_inv hs
        refine ⟨Mo, σ, x1, o1, σ1, hr, g1, fun v1 H1 p1 => ?_⟩
        have p2 := p1.freeze g2
        refine ⟨Mo, σ2, x3, o3, σ3, p2.rel, g3, fun v2 H2 p3 => ?_⟩
        have p4 := p3.freeze g4
        have d2 : Den T.W H2 (Mu Mo σ4 σV) e v2 := p4.val.drop
        have d1 : Den T.W H2 (Mu Mo σ4 σV) d v1 := VR.step (x := .v d) (o := false) p2.val.drop p4
        cases d with
        | ins c ns vs =>
          cases e with
          | ins c' ns' vs' =>
            have hs : (match C.sp c 0 with
              | some f => if c' = c ∧ C.io f = false then (C.call f [.im (.ins c ns vs), .im (.ins c' ns' vs')]).bind fun r => match r.1 with
                | .bl k => .ok (.v (.bl (k != neg)), false, σ4)
                | _ => .bad
                else .bad
              | none => .bad) = R.ok (z, ow, σ') := hs
            cases hsp : C.sp c 0 with
            | none => rw [hsp] at hs; cases hs
            | some f =>
              rw [hsp] at hs
              dsimp only at hs
              split at hs
              · rename_i hc
                obtain ⟨rfl, hio⟩ := hc
                obtain ⟨⟨g, o5, as'⟩, g5, hs⟩ := bind_inv hs
                dsimp only at hs
                split at hs
                · rename_i kk
                  cases hs
                  obtain ⟨A, ad, fd, ps, q1, q2, q3, q4, q5, q6, q7⟩ := o.speq _ f hsp
                  obtain ⟨b1, A1, dx1, fs1, rfl, e1, e2⟩ := d1.insI
                  obtain ⟨b2, A2, dx2, fs2, rfl, e3, e4⟩ := d2.insI
                  rw [q1] at e2 e4
                  cases e2
                  cases e4
                  refine ⟨b1, b2, _, dx1, dx2, ad, fs1, fs2, fd, ps, _, rfl, rfl, e1, e3, q2, q3, q6, q7, fun _ => ⟨q4, q5⟩, ?_⟩
                  have hrel := p4.rel
                  refine ⟨_, _, _, _, _, plain_im (ds := [.ins _ ns vs, .ins _ ns' vs']), rel_args (fun b z => hrel.mu_tr z) (.cons d1 (.cons d2 .nil)), g5, fun v H3 pp => ?_⟩
                  have nw := new_of pp
                  have p5 := (p2.trans p4).new nw
                  have hv : Den T.W H3 _ (.bl kk) v := pp.val.drop
                  cases hv
                  exact ⟨kk, rfl, k _ _ (p5.new (.same (.bl _)))⟩
                · cases hs
              · cases hs
          | _ => cases hs
        | _ => cases hs
      · have hs := opn hs
        obtain ⟨⟨x1, o1, σ1⟩, g1, hs⟩ := bind_inv hs
        obtain ⟨⟨d, o2, σ2⟩, g2, hs⟩ := bind_inv hs
        obtain ⟨⟨x3, o3, σ3⟩, g3, hs⟩ := bind_inv hs
        obtain ⟨⟨e, o4, σ4⟩, g4, hs⟩ := bind_inv hs
        cases d with
        | ins c ns vs =>
          cases e with
          | ins c' ns' vs' =>
            have hs : (match C.sp c 0 with
              | some f => if c' = c ∧ C.io f = false then (C.call f [.im (.ins c ns vs), .im (.ins c' ns' vs')]).bind fun r => match r.1 with
                | .bl k => .ok (.v (.bl (k != neg)), false, σ4)
                | _ => .bad
                else .bad
              | none => .bad) = R.ok (x, o', σ') := hs
            cases hsp : C.sp c 0 with
            | none => rw [hsp] at hs; cases hs
            | some f =>
              rw [hsp] at hs
              dsimp only at hs
              split at hs
              · obtain ⟨⟨g, o5, as'⟩, g5, hs⟩ := bind_inv hs
                dsimp only at hs
                split at hs
                · cases hs; exact ⟨_, rfl⟩
                · cases hs
              · cases hs
          | _ => cases hs
        | _ => cases hs
    | [], _, h => simp [chk] at h
    | _ :: _ :: _, _, h => simp [chk] at h
    | [_], [], h => simp [chk] at h
    | [_], _ :: _ :: _, h => simp [chk] at h
  | _ => simp [chk] at h
end
end Mini

set_option Elab.async false
set_option linter.all false
set_option maxRecDepth 100000
set_option maxHeartbeats 4000000
/-! ## a set comprehension of tuples of whole numbers, under len -/
namespace Mini
open PySem L2
noncomputable abbrev TL := List (Addr × List Int)
/-- what one more member makes of a set -/
noncomputable def Grows (x : Addr) (k : List Int) (L L' : TL) : Prop := (k ∈ L.map (·.2) → L' = L) ∧ (k ∉ L.map (·.2) → L'.Perm ((x, k) :: L))
section
variable {X : Cx}
theorem setT_get {pins : List (Addr × Obj)} {σ : L2.St} {H : Hp} {s : Shared} {a : Addr} {L : TL} (I : Inv X pins σ H s) (ha : H a = some (SetTO X.prog X.w a L)) : SetT0 X.prog X.w s.heap a L := (I.hok a _ ha).1
/-- set.add of a tuple of ints -/
theorem addT_ok {pins : List (Addr × Obj)} {σ : L2.St} {H : Hp} {s : Shared} {E : Value → Shared → Prop} {Dl x : Addr} {L : TL} {k : List Int} {Q : Value → Shared → Prop} (hu : X.A.units + 64 < cLine) (I : Inv X pins σ H s)
    (hD : H Dl = some (SetTO X.prog X.w Dl L)) (hL : ∀ p ∈ L, SqT X.K H p.1 (p.2.map V.int)) (hx : SqT X.K H x (k.map V.int)) (few : L.length + 1 < 64)
    (h : ∀ s' L', Grows x k L L' → Inv X pins σ (upd H Dl (SetTO X.prog X.w Dl L')) s' → Q .none s') : wpAny (model X.prog X.w) X.A (call (.builtin "set.add") [.ref Dl, .ref x]) Q E s := by
  have tup : ∀ p ∈ L, IsT X.prog X.w s.heap p.2 p.1 := fun p hp => Inv.isT I (hL p hp)
  obtain ⟨es, ep, t, R⟩ := (setT_get I hD).full tup
  obtain ⟨ob, e1, e2, e3⟩ := R.ob
  have hx' : IsT X.prog X.w s.heap k x := Inv.isT I hx
  have hT : s.TypeIs (.ref Dl) "set" := ⟨ob, e1, e2.1⟩
  refine wpAny_call_entry PySem.F.slot_set_add hT PySem.F.entry_set_add ?_ (PySem.F.args_set_add_2 _ _)
  unfold Builtin.«set.add» Builtin.Frozenset.oneOther
  simp only [List.isEmpty_nil, bind_assoc]
  unfold Builtin.Frozenset.addrOf setAdd
  refine wpAny_bind (wpAny_pure ?_)
  try dsimp only
  refine wpAny_bind (wpAny_pure ?_)
  try dsimp only
  refine wpAny_bind (wpAny_holding ?_)
  have hu2 : X.A.in1.units < cLine := by show X.A.units + 1 < cLine; omega
  refine wpAny_bind (wpAny_pyHash_tuple hu2 hx' ?_)
  have R2 : SetTR X.prog X.w ({ s with toks := s.toks + (k.length + 1) } : Shared).heap Dl L es ep t := R
  refine add_at (s := { s with toks := s.toks + (k.length + 1) }) R2 hx' hu2 few fun b h' L' es' ep' t' sb R' g1 g2 => ?_
  refine wpAny_pure ⟨_, rfl, ?_⟩
  obtain ⟨o', he'⟩ := R'.ob
  exact h _ L' ⟨g1, g2⟩ (I.write (e := Dl) (t' := s.toks + (k.length + 1)) (by rw [hD]; trivial) (.inl rfl) (fun c u hc e => (sb.2 c hc).trans e) ⟨o', he'.1⟩ (setTO_new R'.t0))
end
/-- {elt for tg in it if ..}, elt a tuple of whole numbers: Dl the new set -/
noncomputable def tScT (P : Program) (w : World) (K : PySem.W.Frag) (wi : TI) (g : TG) (tt : TT) (te : TE) (vs : List Nat) : TE := fun σ H Q => wi σ H fun J H1 => ∀ Dl, H1 Dl = none → ∃ Wn : Nat → Nat → Hp → Prop,
  (∃ m, Wn 0 m (upd H1 Dl (SetTO P w Dl []))) ∧ ∀ i m Hc, Wn i m Hc → (J.stop i Hc ∧ Q (.ref Dl) Hc) ∨ (J.go i Hc ∧ ∃ Nx : Hp → Prop, (∀ H', Nx H' → ∃ m', m' < m ∧ Wn (i + 1) m' H') ∧
    ∀ x H', J.yld i Hc x H' → g x (L2.wipe σ vs) H' fun σ2 H2 => L2.wipe σ2 vs = L2.wipe σ vs ∧ tt σ2 H2 fun b H3 =>
      if b = true then te σ2 H3 fun y H4 => ∃ (t : Addr) (k : List Int) (L : TL), y = .ref t ∧ H4 Dl = some (SetTO P w Dl L) ∧ (∀ p ∈ L, SqT K H4 p.1 (p.2.map V.int)) ∧ SqT K H4 t (k.map V.int) ∧ L.length + 1 < 64 ∧
        ∀ L', Grows t k L L' → Nx (upd H4 Dl (SetTO P w Dl L')) else Nx H3)
section
variable {X : Cx}
theorem scT_core {pins : List (Addr × Obj)} {s : Shared} {σ : L2.St} {H : Hp} {Q : VK} {elt tg iter : Expr} {ifs : List Expr} {scope : Scope} {own : List (Str × Nat)} {pos pos' : Pos} {wi : TI} {g : TG} {tt : TT} {te : TE} {use : Option (Value → Sem Unit)} {Qf : Value → Shared → Prop}
    (calm : X.calm = true) (hu : X.A.units + 64 < cLine) (nd : X.N.Nodup) (I : Inv X pins σ H s) (walk : PI X tg iter wi) (blk : BlkOk X.N X.env.scope scope own)
    (hg : ∀ s H C cl fp, PG (X.blk s H scope (compEnvC scope cl C X.env) fp) tg g) (ht : ∀ s H C cl fp, PTs (X.blk s H scope (compEnvC scope cl C X.env) fp) ifs tt) (he : ∀ s H C cl fp, PE (X.blk s H scope (compEnvC scope cl C X.env) fp) elt te)
    (fold : ∀ x, foldedSetIterable iter X.env x = pure x) (h : tScT X.prog X.w X.K wi g tt te (own.map (·.2)) σ H Q)
    (back : ∀ Dl C s' m H', Inv X pins σ H' s' → Q (.ref Dl) H' → s'.heap.Ns C m → FpOk X pins H' C → compPost (model X.prog X.w) X.A X.xe use Qf (.ref Dl) C (.ok .next) s') :
    wpAny (model X.prog X.w) X.A (comprehension (.SetComp elt [⟨tg, iter, ifs, 0⟩] scope pos) scope X.env pos' (newSet (.type "set")) false (eval iter X.env) use) Qf X.xe s := by
  have frees : ∀ y ∈ scope.names, y.2 = .free → ∃ c, X.env.cells.lookup y.1 = some c := fun y hy e => (blk.free y hy e).elim (fun z => I.ok.has _ (.inl z)) fun z => I.ok.has _ (.inr z)
  refine wpAny_comprehension_free (use := use) rfl fold (closure_ok frees) blk.kind (fun y hy k => by rw [blk.uniq y hy, k]) (thn (walk.run pins s σ H _ I h) fun xv s1 hx => thn hx fun itv s2 ⟨it, fp, tn, J, Hw, ei, Iw, Tn, tn0, fpo, q⟩ => ?_)
  subst ei
  -- the set
  refine PpSet.newSet_ok (newEnv_comp ?_)
  generalize eD : s2.heap.objs.size = Dl
  obtain ⟨Wn, ⟨m0, w0⟩, turn⟩ := q Dl (Iw.hok.fresh (Nat.le_of_eq eD))
  generalize e3 : ({ s2 with heap := s2.heap.push { cls := .type "set", dict := none, data := .set #[] 0 (.fresh 0 0 (!X.w.params.followText "set-order")) } } : Shared) = s3
  have g3 : s3.heap = s2.heap.push { cls := .type "set", dict := none, data := .set #[] 0 (.fresh 0 0 (!X.w.params.followText "set-order")) } := by rw [← e3]
  have I3 : Inv X pins σ (upd Hw Dl (SetTO X.prog X.w Dl [])) s3 := by
    subst e3 eD
    exact Iw.laid (t' := s2.toks) (fun b o e => Heap.get?_push_of_some _ e) (Nat.le_refl _) (setTO_new (setTR_fresh (Heap.get?_push_size _ rfl)).t0)
  have small : ∀ b ∈ fp, b < s2.heap.objs.size := fun b hb => let ⟨o, e, _⟩ := Tn.obj _ _ tn0 b hb; Heap.lt_size e
  have f3 : ∀ b ∈ fp, FpOk X pins (upd Hw Dl (SetTO X.prog X.w Dl [])) b ∧ b < s3.heap.objs.size := fun b hb =>
    have lt := small b hb
    ⟨⟨by rw [upd_ne (by rw [← eD]; exact Nat.ne_of_lt lt)]; exact (fpo b hb).1, (fpo b hb).2⟩, by rw [g3, Heap.size_push]; exact Nat.lt_succ_of_lt lt⟩
  have tn3 : tn 0 s3.heap := Tn.keep _ _ _ tn0 fun b _ o e => by rw [g3]; exact Heap.get?_push_of_some _ e
  have I4 := block_start I3 blk nd f3
  have off : ∀ b ∈ fp, (upd Hw Dl (SetTO X.prog X.w Dl [])) b = none := fun b hb => (f3 b hb).1.1
  show codeAny _ _ (.compStart (.SetComp elt [⟨tg, iter, ifs, 0⟩] scope pos) 0 (.ref it) (.ref Dl) (compEnvC scope (cellsFrom (s3.heap.objs.size + 1) scope.names (cloFrom X.env.cells scope.names [])) s3.heap.objs.size X.env)) (compPost (model X.prog X.w) X.A X.xe use Qf (.ref Dl) s3.heap.objs.size) { s3 with heap := pushCells (s3.heap.push { cls := .type "dict", data := .dict #[] }) scope.names }
  have pg := hg s3 (upd Hw Dl (SetTO X.prog X.w Dl [])) s3.heap.objs.size (cellsFrom (s3.heap.objs.size + 1) scope.names (cloFrom X.env.cells scope.names [])) fp
  have pt := ht s3 (upd Hw Dl (SetTO X.prog X.w Dl [])) s3.heap.objs.size (cellsFrom (s3.heap.objs.size + 1) scope.names (cloFrom X.env.cells scope.names [])) fp
  have pe := he s3 (upd Hw Dl (SetTO X.prog X.w Dl [])) s3.heap.objs.size (cellsFrom (s3.heap.objs.size + 1) scope.names (cloFrom X.env.cells scope.names [])) fp
  generalize ec : compEnvC scope (cellsFrom (s3.heap.objs.size + 1) scope.names (cloFrom X.env.cells scope.names [])) s3.heap.objs.size X.env = ce at I4 pg pt pe ⊢
  have cl : ce.locals = s3.heap.objs.size := by rw [← ec]; rfl
  generalize eH : upd Hw Dl (SetTO X.prog X.w Dl []) = H3 at I3 I4 pg pt pe w0 off f3
  generalize e4 : ({ s3 with heap := pushCells (s3.heap.push { cls := .type "dict", data := .dict #[] }) scope.names } : Shared) = s4 at I4 ⊢
  have tn4 : tn 0 s4.heap := Tn.keep _ _ _ tn3 fun b _ o e => by rw [← e4]; exact pushCells_keeps _ _ _ _ (Heap.get?_push_of_some _ e)
  have stays : ∀ {σ' : L2.St} {H' : Hp} {s' : Shared}, Inv (X.blk s3 H3 scope ce fp) [] σ' H' s' → (∀ b ∈ fp, H' b = none) → ∀ b ∈ fp, FpOk (X.blk s3 H3 scope ce fp) [] H' b := fun {σ' H' s'} J' nn b hb => by
    have x1 := J'.ok.exf b hb
    refine ⟨nn b hb, x1.1, J'.ok.exfs b hb, .inl hb, fun x c e => x1.2 x c e, fun p hp => ?_⟩
    exact absurd (show p ∈ ([] : List (Addr × Obj)) ++ [] from hp) (by simp)
  have loop : codeAny (model X.prog X.w) X.A (.compLoop (.SetComp elt [⟨tg, iter, ifs, 0⟩] scope pos) 0 (.ref it) (.ref Dl) ce) (compPost (model X.prog X.w) X.A X.xe use Qf (.ref Dl) s3.heap.objs.size) s4 := by
    refine PpSet.compLoopS_any (fun n s' => ∃ i H', Inv (X.blk s3 H3 scope ce fp) [] (L2.wipe σ (own.map (·.2))) H' s' ∧ tn i s'.heap ∧ (∀ b ∈ fp, H' b = none) ∧ Wn i n H') ?_ m0 ⟨0, H3, I4, tn4, off, w0⟩
    rintro n s5 ⟨i, H5, I5, tn5, n5, w5⟩
    rcases turn i n H5 w5 with ⟨stop, qe⟩ | ⟨go, Nx, hNx, step⟩
    · refine thnF (Tn.done (X.blk s3 H3 scope ce fp) rfl rfl rfl calm i [] s5 _ H5 (fun _ _ => False) I5 (stays I5 n5) tn5 stop) fun r s6 ⟨hr, I6⟩ => ?_
      subst hr
      have I7 : Inv X pins σ H5 s6 := I3.call' (ch := fp) I6.os I6.base I6.hok I6.bare fun b hb => let ⟨_, a1, a2, a3, a4, a5⟩ := (f3 b hb).1; ⟨a3, a1, a4, a5⟩
      have nC : H5 s3.heap.objs.size = none := cl ▸ (I6.free : H5 ce.locals = none)
      obtain ⟨m, hn, _⟩ := I6.loc
      have hn : s6.heap.Ns s3.heap.objs.size m := cl ▸ (hn : s6.heap.Ns ce.locals m)
      exact back Dl s3.heap.objs.size s6 m H5 I7 qe hn (I3.fpOk (Nat.le_refl _) nC)
    · refine thnF (Tn.item (X.blk s3 H3 scope ce fp) rfl rfl rfl calm i [] s5 _ H5 (fun _ _ => False) I5 (stays I5 n5) tn5 go) fun r s6 ⟨u, hr, h6⟩ => ?_
      subst hr
      refine thnF h6 fun _ s7 ⟨x, H7, I7, r7, y7, tn7, n7⟩ => ?_
      refine thnF (pg.run _ s7 _ H7 x u _ (I7.pinned (stays I7 n7) (Tn.obj _ _ tn7)) r7 (step x H7 y7)) fun _ s8 ⟨σ8, H8, I8, hw8, q8⟩ => ?_
      refine thnF (pt.run _ s8 σ8 H8 _ I8 q8) fun b s9 ⟨H9, I9, q9⟩ => ?_
      have fin : ∀ {s' : Shared} {H' : Hp}, Inv (X.blk s3 H3 scope ce fp) ([] ++ pinsAt fp s7.heap) σ8 H' s' → Nx H' → ∃ m, m < n ∧ ∃ i H', Inv (X.blk s3 H3 scope ce fp) [] (L2.wipe σ (own.map (·.2))) H' s' ∧ tn i s'.heap ∧ (∀ b ∈ fp, H' b = none) ∧ Wn i m H' := fun {s' H'} I' nx => by
        obtain ⟨m', lt, w'⟩ := hNx H' nx
        have kept : ∀ b ∈ fp, ∀ o, s7.heap.get? b = some o → s'.heap.get? b = some o ∧ H' b = none := fun b hb o e => by
          have z := I'.pin (b, o) (List.mem_append_right _ (List.mem_append_right _ (mem_pinsAt hb e)))
          exact ⟨z.1, z.2.1⟩
        refine ⟨m', lt, i + 1, H', (I'.unpinned (pins := [])).weak (by rw [← hw8, wipe_length]) (fun j v e => by rw [← hw8] at e; exact (wipe_some e).1), Tn.keep _ _ _ tn7 fun b hb o e => (kept b hb o e).1, fun b hb => ?_, w'⟩
        obtain ⟨o, e, _⟩ := Tn.obj _ _ tn7 b hb
        exact (kept b hb o e).2
      cases b with
      | false =>
        simp only [Bool.false_eq_true, if_false] at q9 ⊢
        exact fin I9 q9
      | true =>
        simp only [if_true] at q9 ⊢
        refine thnF (pe.run _ s9 σ8 H9 _ I9 q9) fun z s10 ⟨yv, H10, I10, r10, t, k, L, ey, hD10, hL, ht10, few, nx⟩ => ?_
        subst ey
        cases (show z = Value.ref t from r10)
        exact addT_ok (X := X.blk s3 H3 scope ce fp) hu I10 hD10 hL ht10 few fun s11 L' gr I11 => fin I11 (nx L' gr)
  exact PpSet.codeAny_compStart_set loop (Tn.self X.A 0 _ _ _ tn4 loop)
theorem pe_scT {elt tg iter : Expr} {ifs : List Expr} {scope : Scope} {own : List (Str × Nat)} {pos : Pos} {wi : TI} {g : TG} {tt : TT} {te : TE} (calm : X.calm = true) (hu : X.A.units + 64 < cLine) (nd : X.N.Nodup) (walk : PI X tg iter wi) (blk : BlkOk X.N X.env.scope scope own)
    (hg : ∀ s H C cl fp, PG (X.blk s H scope (compEnvC scope cl C X.env) fp) tg g) (ht : ∀ s H C cl fp, PTs (X.blk s H scope (compEnvC scope cl C X.env) fp) ifs tt) (he : ∀ s H C cl fp, PE (X.blk s H scope (compEnvC scope cl C X.env) fp) elt te)
    (fold : ∀ x, foldedSetIterable iter X.env x = pure x) : PE X (.SetComp elt [⟨tg, iter, ifs, 0⟩] scope pos) (tScT X.prog X.w X.K wi g tt te (own.map (·.2))) := by
  refine ⟨fun pins s σ H Q I h => ?_⟩
  rw [PpSet.eval_SetComp]
  refine scT_core calm hu nd I walk blk hg ht he fold h fun Dl C s' m H' I' q hn f => ⟨m, hn, fun h'' sb => ?_⟩
  obtain ⟨f0, f1, f2, f3, f4, f5⟩ := f
  exact ⟨.ref Dl, H', I'.turned (t' := s'.toks) (fun b o hb e => (sb.2 b hb).trans e) f0 f1 f3 f4 f5, rfl, q⟩
/-- len of such a set -/
noncomputable def rLenT (P : Program) (w : World) : List V → Hp → VK → Prop := fun xs H Q => ∃ a L, xs = [V.ref a] ∧ H a = some (SetTO P w a L) ∧ Q (.int L.length) H
theorem cr_lenT : CallR X (.builtin "len") (rLenT X.prog X.w) := by
  intro pins s σ H xs us Q I r h
  obtain ⟨a, L, rfl, ha, q⟩ := h
  rw [Vals.ref1 r]
  obtain ⟨es, ep, t, ⟨o, ho, hx, hd⟩, rows, tab, nd, pl, led, room, few⟩ := (setT_get I ha).ex
  have sz : es.size = L.length := by rw [← Array.length_toList, rows, rowsOf, List.length_map]
  have fits : t.fits es.size = true := by
    have z1 : t.place.size = L.length := by rw [tab.sz, List.length_map]
    have z2 : t.dummies.size = 0 := by rw [tab.dm]; rfl
    simp only [SetTable.fits, SetTable.fill, tab.dm, Bool.and_eq_true, beq_iff_eq, decide_eq_true_eq]
    show t.place.size = es.size ∧ t.place.size + 0 ≤ t.mask
    omega
  refine call_len_set ho hx hd fits (by omega) ?_
  rw [sz]
  exact ⟨.int L.length, H, I.tok _, ⟨_, rfl⟩, q⟩
end
end Mini

set_option Elab.async false
set_option linter.all false
set_option maxRecDepth 100000
set_option maxHeartbeats 4000000
/-! ## len of a set comprehension -/
namespace Mini
open PySem L2
theorem lenSet_inv {l : List D} {n : Nat} (h : lenSet l = .ok n) : ∃ ks, tupIs l = some ks ∧ ks.length < 63 ∧ n = unlike ks := by
  unfold lenSet at h
  obtain ⟨ks, h1, h⟩ := of_inv h
  obtain ⟨h2, h⟩ := guard_inv h
  cases h
  exact ⟨ks, h1, of_decide_eq_true h2, rfl⟩
theorem tupIs_app : ∀ {a b : List D} {ks : List (List Int)}, tupIs (a ++ b) = some ks → ∃ k1 k2, tupIs a = some k1 ∧ tupIs b = some k2 ∧ ks = k1 ++ k2
  | [], b, ks, h => ⟨[], ks, rfl, h, rfl⟩
  | d :: a, b, ks, h => by
    rw [List.cons_append] at h
    unfold tupIs at h
    obtain ⟨k, h1, h⟩ := Option.bind_eq_some_iff.mp h
    obtain ⟨ks', h2, rfl⟩ := Option.map_eq_some_iff.mp h
    obtain ⟨k1, k2, e1, e2, rfl⟩ := tupIs_app h2
    refine ⟨k :: k1, k2, ?_, e2, rfl⟩
    unfold tupIs
    rw [h1, e1]
    rfl
theorem tupIs_len : ∀ {a : List D} {ks : List (List Int)}, tupIs a = some ks → ks.length = a.length
  | [], ks, h => by cases h; rfl
  | d :: a, ks, h => by
    unfold tupIs at h
    obtain ⟨k, h1, h⟩ := Option.bind_eq_some_iff.mp h
    obtain ⟨ks', h2, rfl⟩ := Option.map_eq_some_iff.mp h
    simp [tupIs_len h2]
theorem intsD_inv : ∀ {l : List D} {k : List Int}, intsD l = some k → l = k.map D.int
  | [], k, h => by cases h; rfl
  | d :: l, k, h => by
    cases d <;> simp only [intsD, reduceCtorEq] at h
    obtain ⟨ks', h2, rfl⟩ := Option.map_eq_some_iff.mp h
    rw [intsD_inv h2]
    rfl
theorem tupI_inv {d : D} {k : List Int} (h : tupI d = some k) : d = .tup (k.map D.int) := by
  cases d <;> simp only [tupI, reduceCtorEq] at h
  rw [intsD_inv h]
theorem unlike_len : ∀ {ks M : List (List Int)}, M.Nodup → (∀ k, k ∈ M ↔ k ∈ ks) → M.length = unlike ks
  | [], M, _, h => by
    cases M with
    | nil => rfl
    | cons x M => exact absurd ((h x).mp List.mem_cons_self) List.not_mem_nil
  | k :: ks, M, nd, h => by
    unfold unlike
    by_cases hk : k ∈ ks
    · rw [if_pos hk]
      refine unlike_len nd fun x => (h x).trans ?_
      rw [List.mem_cons]
      exact ⟨fun z => z.elim (fun e => e ▸ hk) id, .inr⟩
    · rw [if_neg hk]
      have hm : k ∈ M := (h k).mpr List.mem_cons_self
      have e := unlike_len (ks := ks) (M := M.erase k) (nd.erase k) fun x => by
        rw [nd.mem_erase_iff, h x, List.mem_cons]
        constructor
        · rintro ⟨n, z | z⟩
          · exact absurd z n
          · exact z
        · exact fun z => ⟨fun e => hk (e ▸ z), .inr z⟩
      rw [← e, List.length_erase_of_mem hm]
      have := List.length_pos_of_mem hm
      omega
theorem compLoop_pre {f : D → Fm → R (Option D × Fm)} : ∀ {ds : List D} {σ σ' : Fm} {acc rs : List D}, compLoop f ds σ acc = .ok (rs, σ') → ∃ m, rs = acc ++ m
  | [], σ, σ', acc, rs, h => by
    cases h
    exact ⟨[], (List.append_nil _).symm⟩
  | d :: ds, σ, σ', acc, rs, h => by
    unfold compLoop at h
    obtain ⟨⟨o, σ1⟩, h1, h⟩ := bind_inv h
    cases o with
    | none => exact compLoop_pre h
    | some y =>
      have h : ((R.guard (decide (acc.length < 16777216))).bind fun _ => compLoop f ds σ1 (acc ++ [y])) = .ok (rs, σ') := h
      obtain ⟨_, h⟩ := guard_inv h
      obtain ⟨m, e⟩ := compLoop_pre h
      exact ⟨y :: m, by rw [e, List.append_assoc]; rfl⟩
/-- what is in the set behind some turns -/
noncomputable def KInv (W : Wd) (H : Hp) (M : Zone) (acc : List D) (L : TL) : Prop := (∀ p ∈ L, Den W H M (.tup (p.2.map D.int)) (.ref p.1)) ∧ (L.map (·.2)).Nodup ∧ ∃ ks, tupIs acc = some ks ∧ (∀ k, k ∈ L.map (·.2) ↔ k ∈ ks) ∧ L.length ≤ acc.length
theorem KInv.step {W : Wd} {H H' : Hp} {M M' Mw : Zone} {acc : List D} {L : TL} (h : KInv W H M acc L) (f : Fr Mw H H') (hw : ∀ b, Mw b → M b) (hm : ∀ b, M' b → M b ∨ H b = none) : KInv W H' M' acc L :=
  ⟨fun p hp => (h.1 p hp).step f hw hm, h.2⟩
theorem KInv.add {W : Wd} {H : Hp} {M : Zone} {acc : List D} {L L' : TL} {x : Addr} {k : List Int} (h : KInv W H M acc L) (g : Grows x k L L') (hx : Den W H M (.tup (k.map D.int)) (.ref x)) (hk : tupI (.tup (k.map D.int)) = some k) : KInv W H M (acc ++ [.tup (k.map D.int)]) L' := by
  obtain ⟨h1, h2, ks, h3, h4, h5⟩ := h
  have app : tupIs (acc ++ [.tup (k.map D.int)]) = some (ks ++ [k]) := by
    clear h4 h5
    induction acc generalizing ks with
    | nil =>
      cases h3
      show (tupI (.tup (k.map D.int))).bind _ = _
      rw [hk]
      rfl
    | cons d acc ih =>
      unfold tupIs at h3
      obtain ⟨k1, e1, h3⟩ := Option.bind_eq_some_iff.mp h3
      obtain ⟨ks', e2, rfl⟩ := Option.map_eq_some_iff.mp h3
      rw [List.cons_append]
      unfold tupIs
      rw [e1, ih _ e2]
      rfl
  by_cases hm : k ∈ L.map (·.2)
  · rw [g.1 hm]
    refine ⟨h1, h2, _, app, fun j => ?_, by rw [List.length_append]; omega⟩
    rw [h4 j, List.mem_append, List.mem_singleton]
    exact ⟨.inl, fun z => z.elim id fun e => by rw [e]; exact (h4 k).mp hm⟩
  · have pm := g.2 hm
    have pm2 := pm.map (·.2)
    refine ⟨fun p hp => ?_, pm2.nodup_iff.mpr (List.nodup_cons.mpr ⟨hm, h2⟩), _, app, fun j => ?_, by rw [pm.length_eq, List.length_append]; simp; omega⟩
    · rcases List.mem_cons.mp (pm.mem_iff.mp hp) with z | z
      · rw [z]; exact hx
      · exact h1 p z
    · rw [pm2.mem_iff, List.map_cons, List.mem_cons, h4 j, List.mem_append, List.mem_singleton]
      exact Or.comm
structure SInv (P : Program) (w : World) (W : Wd) (C : Cb) (e t c : E) (vs : List Nat) (Mo : Zone) (σ1 : Fm) (σV : L2.St) (H1 : Hp) (Dl : Addr) (ds rs : List D) (σ2 : Fm) (i : Nat) (Hc : Hp) : Prop where
  ex : ∃ (σc : Fm) (acc : List D) (L : TL), Rel W (Zp Mo Dl) σc (L2.wipe σV vs) Hc ∧ Fr (fun b => wrt σ1 σV b ∨ H1 b = none) H1 Hc ∧ (∀ a, H1 a ≠ none → Hc a ≠ none) ∧ Hc Dl = some (SetTO P w Dl L) ∧
    KInv W Hc (Mu (Zp Mo Dl) σc (L2.wipe σV vs)) acc L ∧ compLoop (compF C e t c vs) (ds.drop i) σc acc = .ok (rs, σ2) ∧ (∀ a, muts σc (L2.wipe σV vs) a → muts σ1 σV a) ∧ (∀ a, wrt σc (L2.wipe σV vs) a → wrt σ1 σV a) ∧
    (∀ (j : Nat) (b : Bool), Pin σ1 j b → Pin σc j b) ∧ (∀ j ∈ vs, j < σc.length → σc[j]? = some .no)
theorem den_sqT {K : PySem.W.Frag} {W : Wd} {H : Hp} {M : Zone} {k : List Int} {x : Addr} (h : Den W H M (.tup (k.map D.int)) (.ref x)) : SqT K H x (k.map V.int) := by
  cases h with
  | tup ha m l =>
    have : ∀ (k : List Int) vs, DenL W H M (k.map D.int) vs → vs = k.map V.int := fun k => by
      induction k with
      | nil => intro vs h; cases h; rfl
      | cons n k ih =>
        intro vs h
        cases h with
        | cons h l =>
          cases h
          rw [ih _ l]
          rfl
    rw [← this _ _ l]
    exact .of ha
section
variable {T : Tb} {C : Cb} {n : Nat} {X : Cx} {sc : Scope}
theorem lset_read {e t it c : E} {vs : List Nat} (sub : ∀ j ∈ tgs t, j ∈ vs) {σV : L2.St} {H : Hp} {Q : VK} {P : Program} {w : World} (q : tE T.W (ev C (.lset e t it c vs)) σV H Q) : tScT P w T.W.K (iW T.W (evI C it)) (tG T.W t) (tT T.W (evC C c)) (tE T.W (ev C e)) vs σV H (fun x H' => rLenT P w [x] H' Q) := by
  obtain ⟨Mo, σ, z, ow, σ', hr, hs, k⟩ := q
  have hs : ((evI C it σ).bind fun x => (R.guard (freeS x.2.2 vs)).bind fun _ => (compLoop (compF C e t c vs) x.1 (wipeS x.2.2 vs) []).bind fun y => (unlock x.2.1 (backS x.2.2 y.2 vs)).bind fun σ' => (lenSet y.1).bind fun n => .ok (Opd.v (.int n), false, σ')) = R.ok (z, ow, σ') := hs
  obtain ⟨⟨ds, lk, σ1⟩, g1, hs⟩ := bind_inv hs
  obtain ⟨gf, hs⟩ := guard_inv hs
  obtain ⟨⟨rs, σ2⟩, g2, hs⟩ := bind_inv hs
  obtain ⟨σ3, g3, hs⟩ := bind_inv hs
  obtain ⟨cnt, g4, hs⟩ := bind_inv hs
  have hs : R.ok (Opd.v (.int cnt), false, σ3) = .ok (z, ow, σ') := hs
  simp only [R.ok.injEq, Prod.mk.injEq] at hs
  obtain ⟨e1, e2, e3⟩ := hs
  subst e1 e2 e3
  obtain ⟨ks, g5, g6, e6⟩ := lenSet_inv g4
  subst e6
  refine ⟨Mo, σ, ds, lk, σ1, hr, g1, fun J H1 p => ?_⟩
  intro Dl hD
  have g2 : compLoop (compF C e t c vs) ds (wipeS σ1 vs) [] = .ok (rs, σ2) := g2
  have gf : freeS σ1 vs = true := gf
  have nD : ∀ b, H1 b ≠ none → b ≠ Dl := fun b hb e => hb (by rw [e]; exact hD)
  refine ⟨fun i m Hc => m = ds.length - i ∧ i ≤ ds.length ∧ SInv P w T.W C e t c vs Mo σ1 σV H1 Dl ds rs σ2 i Hc, ⟨ds.length, by omega, Nat.zero_le _, ⟨wipeS σ1 vs, [], [], ?_, ?_, ?_, upd_same, ⟨fun p hp => absurd hp List.not_mem_nil, List.nodup_nil, [], rfl, fun k => Iff.rfl, Nat.le_refl 0⟩, g2, fun a z => (muts_wipe gf).mp z, fun a z => wrt_wipe z, fun j b ej => io_wipe gf ej, wiped_no⟩⟩, ?_⟩
  · exact (p.rel.apart (p := Dl) (.new hD) hD (by rw [upd_same]; exact fun z => nomatch z)).wipe gf
  · exact .new hD
  · intro a ha
    rw [upd_ne (nD a ha)]
    exact ha
  rintro i m Hc ⟨rfl, hi, ⟨σc, acc, L, r, f, dm, hDl, la, hloop, hmu, hwr, hio, hno⟩⟩
  have hDm : ∀ b, Zp Mo Dl b → Mo b ∨ H1 b = none := fun b z => z.elim .inl fun e => .inr (by rw [e]; exact hD)
  have hM : ∀ b, Mu (Zp Mo Dl) σc (L2.wipe σV vs) b → Mu Mo σ1 σV b ∨ H1 b = none := fun b z => z.elim (fun z => (hDm b z).elim (fun z => .inl (.inl z)) .inr) fun z => .inl (.inr (hmu b z))
  obtain ⟨itGo, itStop, itYld⟩ := p.it Hc f
  by_cases hlt : i < ds.length
  · refine .inr ⟨itGo i hlt, fun H' => SInv P w T.W C e t c vs Mo σ1 σV H1 Dl ds rs σ2 (i + 1) H', fun H' ci => ⟨ds.length - (i + 1), by omega, rfl, hlt, ci⟩, fun x H2 hy => ?_⟩
    obtain ⟨f2, d, hd, dn⟩ := itYld i x H2 (Mu (Zp Mo Dl) σc (L2.wipe σV vs)) hlt hy hM (fun a z => r.mu_tr z)
    have hdrop : ds.drop i = d :: ds.drop (i + 1) := by
      rw [List.drop_eq_getElem_cons hlt]
      rw [List.getElem?_eq_getElem hlt] at hd
      rw [Option.some.inj hd]
    rw [hdrop] at hloop
    have hloop : ((compF C e t c vs d σc).bind fun x => match x.1 with
        | some y => (R.guard (decide (acc.length < 16777216))).bind fun _ => compLoop (compF C e t c vs) (ds.drop (i + 1)) x.2 (acc ++ [y])
        | none => compLoop (compF C e t c vs) (ds.drop (i + 1)) x.2 acc) = R.ok (rs, σ2) := hloop
    obtain ⟨⟨ro, σn⟩, k1, hloop⟩ := bind_inv hloop
    obtain ⟨s1, k2, k1⟩ := bind_inv k1
    obtain ⟨⟨b, s2⟩, k3, k1⟩ := bind_inv k1
    have r2 := r.grow f2
    have wrM : ∀ b, Z0 b → wrt σ1 σV b ∨ H1 b = none := fun _ z => z.elim
    have frB : Fr (fun b => wrt σ1 σV b ∨ H1 b = none) H1 H2 := f.trans f2 fun _ z => z.elim
    have dmB : ∀ a, H1 a ≠ none → H2 a ≠ none := fun a z => f2.dom a (dm a z)
    have hD2 : H2 Dl = some (SetTO P w Dl L) := f2.at' hDl fun z => z
    have nwD : ∀ {s : Fm} {sv : L2.St}, Rel T.W (Zp Mo Dl) s sv H2 → ¬ wrt s sv Dl := fun {s sv} rr z => by
      obtain ⟨j, t, d, ej, hd, hv⟩ := z
      obtain ⟨a, h1, h2, _⟩ := rr.mu j d ⟨t, ej, wr_held hd⟩
      rw [hv] at h1
      cases h1
      exact h2 (.inr rfl)
    refine ⟨Zp Mo Dl, σc, d, s1, r2, dn, k2, fun σV1 pT => ⟨wipe_eq (by rw [pT.len, wipe_length]) pT.off sub, ?_⟩⟩
    have hwe : L2.wipe σV1 vs = L2.wipe σV vs := wipe_eq (by rw [pT.len, wipe_length]) pT.off sub
    refine ⟨Zp Mo Dl, s1, b, s2, pT.rel, k3, fun H3 p3 => ?_⟩
    have nD3 : ¬ wrt s1 σV1 Dl := nwD pT.rel
    have hD3 : H3 Dl = some (SetTO P w Dl L) := p3.fr.at' hD2 nD3
    have zone3 : ∀ a, wrt s1 σV1 a → wrt σ1 σV a ∨ H2 a = none := fun a z => .inl (hwr a (pT.wm a z))
    have frC : Fr (fun b => wrt σ1 σV b ∨ H1 b = none) H1 H3 := frB.trans p3.fr fun a z => .inl (.inl (hwr a (pT.wm a z)))
    have la3 : KInv T.W H3 (Mu (Zp Mo Dl) s2 σV1) acc L := (la.step f2 (fun _ z => z.elim) (fun b z => .inl z) : KInv T.W H2 (Mu (Zp Mo Dl) σc (L2.wipe σV vs)) acc L).step p3.fr (fun a z => .inr (wrt_le (pT.wm a z))) fun b z => .inl (z.elim .inl fun z => .inr (pT.mm b (p3.mm b z)))
    cases b with
    | false =>
      have k1 : ((R.guard (freeS s2 vs)).bind fun _ => .ok (none, wipeS s2 vs)) = R.ok (ro, σn) := k1
      obtain ⟨k4, k1⟩ := guard_inv k1
      cases k1
      have hloop : compLoop (compF C e t c vs) (ds.drop (i + 1)) (wipeS s2 vs) acc = .ok (rs, σ2) := hloop
      show SInv P w T.W C e t c vs Mo σ1 σV H1 Dl ds rs σ2 (i + 1) H3
      have rw2 := p3.rel.wipe k4
      rw [hwe] at rw2
      refine ⟨wipeS s2 vs, acc, L, rw2, frC, fun a z => p3.dm a (dmB a z), hD3, la3.step (Mw := Z0) .refl (fun _ z => z.elim) (fun b z => .inl (z.elim .inl fun z => .inr ((muts_wipe k4).mp (by rw [hwe]; exact z)))), hloop, fun a z => ?_, fun a z => ?_, fun j dj ej => ?_, wiped_no⟩
      · rw [← hwe] at z
        exact hmu a (pT.mm a (p3.mm a ((muts_wipe k4).mp z)))
      · rw [← hwe] at z
        exact hwr a (pT.wm a (p3.wm a (wrt_wipe z)))
      · exact io_wipe k4 (p3.ios j dj (pT.ios j dj (hio j dj ej)).1)
    | true =>
      have k1 : ((ev C e s2).bind fun z => (fz z).bind fun w => (R.guard (freeS w.2.2 vs)).bind fun _ => .ok (some w.1, wipeS w.2.2 vs)) = R.ok (ro, σn) := k1
      obtain ⟨⟨y, oy, s3⟩, k4, k1⟩ := bind_inv k1
      obtain ⟨⟨w, owy, s4⟩, k5, k1⟩ := bind_inv k1
      obtain ⟨k6, k1⟩ := guard_inv k1
      cases k1
      have hloop : ((R.guard (decide (acc.length < 16777216))).bind fun _ => compLoop (compF C e t c vs) (ds.drop (i + 1)) (wipeS s4 vs) (acc ++ [w])) = R.ok (rs, σ2) := hloop
      obtain ⟨k7, hloop⟩ := guard_inv hloop
      have k7 := of_decide_eq_true k7
      obtain ⟨more, em⟩ := compLoop_pre hloop
      obtain ⟨ka, kb, ea, eb, ek⟩ := tupIs_app (em ▸ g5)
      obtain ⟨kc, kd, ec, ed, ek2⟩ := tupIs_app ea
      obtain ⟨kw, hkw, ekd⟩ : ∃ kw, tupI w = some kw ∧ kd = [kw] := by
        unfold tupIs at ed
        obtain ⟨kw, z1, ed⟩ := Option.bind_eq_some_iff.mp ed
        cases ed
        exact ⟨kw, z1, rfl⟩
      have ew := tupI_inv hkw
      subst ew
      have lk2 : acc.length + 1 < 63 := by
        have z1 := tupIs_len ec
        rw [ek, ek2, ekd, List.length_append, List.length_append] at g6
        simp at g6
        omega
      show tE T.W (ev C e) σV1 H3 fun y H4 => ∃ (t : Addr) (k : List Int) (L : TL), y = .ref t ∧ H4 Dl = some (SetTO P w Dl L) ∧ (∀ p ∈ L, SqT T.W.K H4 p.1 (p.2.map V.int)) ∧ SqT T.W.K H4 t (k.map V.int) ∧ L.length + 1 < 64 ∧
        ∀ L', Grows t k L L' → SInv P w T.W C _ _ _ vs Mo σ1 σV H1 Dl ds rs σ2 (i + 1) (upd H4 Dl (SetTO P w Dl L'))
      refine ⟨Zp Mo Dl, s2, y, oy, s3, p3.rel, k4, fun v H4 p4 => ?_⟩
      have p5 := p4.freeze k5
      have nD4 : ¬ wrt s2 σV1 Dl := fun z => nD3 (p3.wm Dl z)
      have hD4 : H4 Dl = some (SetTO P w Dl L) := p5.fr.at' hD3 nD4
      have la4 : KInv T.W H4 (Mu (Zp Mo Dl) s4 σV1) acc L := la3.step p5.fr (fun a z => .inr (wrt_le z)) fun b z => .inl (z.elim .inl fun z => .inr (p5.mm b z))
      have la4' := la4.1
      have dv : Den T.W H4 (Mu (Zp Mo Dl) s4 σV1) (.tup (kw.map D.int)) v := p5.val.drop
      obtain ⟨t0, rfl⟩ : ∃ t0, v = .ref t0 := by cases dv; exact ⟨_, rfl⟩
      refine ⟨t0, kw, L, rfl, p5.fr.at' hD3 (fun z => nD3 (p3.wm Dl z)), fun p hp => den_sqT (la4' p hp), den_sqT dv, by have := la4.2.2; obtain ⟨_, _, _, z⟩ := this; omega, fun L' gr => ?_⟩
      have rw4 := p5.rel.wipe k6
      rw [hwe] at rw4
      have memD : Mu (Zp Mo Dl) (wipeS s4 vs) (L2.wipe σV vs) Dl := .inl (.inr rfl)
      have f5 : Fr (fun b => b = Dl) H4 (upd H4 Dl (SetTO P w Dl L')) := fr_upd fun xs z => by
        rw [p5.fr.at' hD3 (fun z => nD3 (p3.wm Dl z))] at z
        exact nomatch (Option.some.inj z)
      have dm5 : ∀ b, H4 b ≠ none → (upd H4 Dl (SetTO P w Dl L')) b ≠ none := fun b hb => by
        by_cases e : b = Dl
        · rw [e, upd_same]; exact fun z => nomatch z
        · rw [upd_ne e]; exact hb
      have la5 : KInv T.W H4 (Mu (Zp Mo Dl) (wipeS s4 vs) (L2.wipe σV vs)) (acc ++ [.tup (kw.map D.int)]) L' := by
        have hz : ∀ b, Mu (Zp Mo Dl) (wipeS s4 vs) (L2.wipe σV vs) b → Mu (Zp Mo Dl) s4 σV1 b ∨ H4 b = none := fun b z => .inl (z.elim .inl fun z => .inr ((muts_wipe k6).mp (by rw [hwe]; exact z)))
        exact (la4.step (Mw := Z0) .refl (fun _ z => z.elim) hz).add gr (dv.step (Mw := Z0) .refl (fun _ z => z.elim) hz) hkw
      have hwD : ∀ b, (fun b => b = Dl) b → Mu (Zp Mo Dl) (wipeS s4 vs) (L2.wipe σV vs) b := fun b e => by rw [show b = Dl from e]; exact memD
      have r5 : Rel T.W (Zp Mo Dl) (wipeS s4 vs) (L2.wipe σV vs) (upd H4 Dl (SetTO P w Dl L')) := by
        refine ⟨rw4.len, fun j d e => ?_, fun j d e => ?_, rw4.ne, fun a z => dm5 a (rw4.tr a z)⟩
        · obtain ⟨u, q1, q2⟩ := rw4.im j d e
          exact ⟨u, q1, q2.step f5 hwD fun b z => .inl z⟩
        · obtain ⟨a, q1, q2, q3⟩ := rw4.mu j d e
          exact ⟨a, q1, q2, q3.step f5 (fun z => q2 (.inr z)) hwD fun b z => .inl z⟩
      refine ⟨wipeS s4 vs, acc ++ [.tup (kw.map D.int)], L', r5, ?_, fun a z => dm5 a (p5.dm a (p3.dm a (dmB a z))), upd_same, la5.step f5 hwD (fun b z => .inl z), hloop, fun a z => ?_, fun a z => ?_, fun j dj ej => ?_, wiped_no⟩
      · exact (frC.trans p5.fr fun a z => .inl (.inl (hwr a (pT.wm a (p3.wm a z))))).trans f5 fun a z => .inl (.inr (by rw [show a = Dl from z]; exact hD))
      · rw [← hwe] at z
        exact hmu a (pT.mm a (p3.mm a (p5.mm a ((muts_wipe k6).mp z))))
      · rw [← hwe] at z
        exact hwr a (pT.wm a (p3.wm a (p5.wm a (wrt_wipe z))))
      · exact io_wipe k6 (p5.ios j dj (p3.ios j dj (pT.ios j dj (hio j dj ej)).1))
  · have ei : i = ds.length := by omega
    subst ei
    rw [List.drop_length] at hloop
    have hloop : R.ok (acc, σc) = .ok (rs, σ2) := hloop
    simp only [R.ok.injEq, Prod.mk.injEq] at hloop
    obtain ⟨e4, e5⟩ := hloop
    subst e4 e5
    obtain ⟨l1, l2, ks', l3, l4, l5⟩ := la
    rw [g5] at l3
    cases l3
    have cnt : L.length = unlike ks := by rw [← unlike_len l2 l4, List.length_map]
    refine .inl ⟨itStop _ (Nat.le_refl _), Dl, L, rfl, hDl, ?_⟩
    rw [cnt]
    refine k _ _ ?_
    have hl1 : σc.length = σ1.length := by rw [r.len, wipe_length, p.rel.len]
    have f' : Fr (wrt σ1 σV) H1 Hc := fun a q e nn => f a q e (nn.imp (fun nn z => z.elim nn fun e' => by rw [e] at e'; cases e') id)
    have rb : Rel T.W (Zp Mo Dl) (backS σ1 σc vs) σV Hc := r.back p.rel gf hno f' (fun b z => .inr (wrt_le z)) hM
    have mb : ∀ a, muts (backS σ1 σc vs) σV a ↔ muts σc (L2.wipe σV vs) a := fun a => muts_back gf hl1 hno
    have wb : ∀ a, wrt (backS σ1 σc vs) σV a → wrt σ1 σV a := fun a z => hwr a (wrt_back gf hl1 z)
    have ib : ∀ (j : Nat) (b : Bool), Pin σ1 j b → Pin (backS σ1 σc vs) j b := fun j d ej => by
      have n := pin_free gf ej
      obtain ⟨s, h1, h2⟩ := hio j d ej
      exact ⟨s, by rw [backS_get, if_neg (fun z => n z.1)]; exact h1, h2⟩
    -- the slot that was locked is free again
    have unl : ∃ (hR : Rel T.W (Zp Mo Dl) σ3 σV Hc), (∀ a, muts σ3 σV a ↔ muts (backS σ1 σc vs) σV a) ∧ (∀ a, wrt σ3 σV a → wrt σ σV a) ∧ (∀ (j : Nat) (b : Bool), (∃ c, Pin σ j c) → Pin (backS σ1 σc vs) j b → Pin σ3 j b) := by
      cases lk with
      | v x =>
        have g3 : R.ok (backS σ1 σc vs) = .ok σ3 := g3
        cases g3
        exact ⟨rb, fun a => Iff.rfl, fun a z => p.wm a (wb a z), fun j d _ e => e⟩
      | r i =>
        have g3 : (match (backS σ1 σc vs)[i]? with | some (.lk d) => R.ok ((backS σ1 σc vs).set i (.mu d)) | _ => .bad) = .ok σ3 := g3
        split at g3
        · rename_i d eb
          cases g3
          obtain ⟨d0, a0, q1, q2, q3, q4⟩ := p.un i rfl
          have hh : Held (backS σ1 σc vs) i d := ⟨_, eb, rfl⟩
          have hi := lt_of_some eb
          obtain ⟨a, ea, na, ow⟩ := rb.mu i d hh
          have ea2 := ea
          rw [q2] at ea2
          cases ea2
          refine ⟨rb.upd hh rfl ea .refl (fun b z => z) (fun b z => z) (fun b z => .inl z) rb.tr ow, fun b => muts_set hh rfl, fun b z => ?_, fun j dj hc ej => ?_⟩
          · obtain ⟨j, s, e, ej, hw, hv⟩ := z
            by_cases q : j = i
            · subst q
              rw [ea] at hv
              cases hv
              exact q3
            · rw [List.getElem?_set_ne (Ne.symm q)] at ej
              exact p.wm b (wb b ⟨j, s, e, ej, hw, hv⟩)
          · have n : j ≠ i := fun z => by
              obtain ⟨c, hc⟩ := hc
              rw [z] at hc
              exact q4 c hc
            obtain ⟨s, h1, h2⟩ := ej
            exact ⟨s, by rw [List.getElem?_set_ne (Ne.symm n)]; exact h1, h2⟩
        · cases g3
    obtain ⟨hR, hm3, hw3, hi3⟩ := unl
    refine ⟨p.fr.trans f fun a z => z.elim (fun z => .inl (p.wm a z)) (fun z => .inr (none_back p.dm z)), fun a z => dm a (p.dm a z), fun a z => p.mm a (hmu a ((mb a).mp ((hm3 a).mp z))), hw3, fun j d ej => ?_, hR.drop, .int _, fun z => nomatch z⟩
    exact hi3 j d ⟨d, ej⟩ (ib j d (p.ios j d ej))
theorem snd_lset (o : Okay T C n X sc) {e t it c : E} {vs : List Nat} (hit : ∀ X sc, Okay T C n X sc → ∀ a, a ∈ subI it → Snd T C a n X sc) (hc : ∀ X sc, Okay T C n X sc → ∀ b, c = .cons b .nil → Snd T C b n X sc)
    (he : ∀ X sc, Okay T C n X sc → Snd T C e n X sc) {x : Expr} (h : chk T sc (.lset e t it c vs) x = true) : PE X x (tE T.W (ev C (.lset e t it c vs))) := by
  unfold chk at h
  split at h <;> first | (rename_i h0; cases h0; done) | skip
  all_goals first | (cases h; done) | skip
  all_goals first | (rename_i heq; cases heq; done) | skip
  rename_i nm p elt tg iter ifs as scope ps pos
  simp only [Bool.and_eq_true, decide_eq_true_eq] at h
  obtain ⟨⟨⟨⟨⟨⟨⟨⟨⟨rfl, n1⟩, n2⟩, rfl⟩, h1⟩, h2⟩, h3⟩, h4⟩, h5⟩, h6⟩ := h
  have sub : ∀ j ∈ tgs t, j ∈ vs := fun j hj => by
    rw [List.all_eq_true] at h4
    have := h4 j hj
    simpa using this
  have eo : (ownL T.N vs).map (·.2) = vs := by simp [ownL, Function.comp_def]
  have hu : X.A.units + 64 < cLine := by have := o.hu; omega
  have hs := pe_scT (own := ownL T.N vs) (pos := ps) o.calm hu o.nd (sound_it o (hit X sc o) h2) (by rw [o.N, o.sc]; exact blkOk_by h1)
        (fun s H A cl fp => ((sound_tgt (dl := false) o.blk (fun z => nomatch z) t).1 tg h3)) (fun s H A cl fp => sound_c (hc _ _ o.blk) h5) (fun s H A cl fp => (he _ _ o.blk).e elt h6) (folded_plain (chkI_plain h2))
  refine PE.weak (pe_callB cr_lenT (gl_of o n1) (o.blt _ n2) (by decide +kernel) (pa_cons hs pa_nil rfl) (by decide) (by decide) rfl (by rfl)) fun σV H Q q => ?_
  rw [eo, o.K]
  exact lset_read (P := X.prog) (w := X.w) sub q
end
end Mini

set_option Elab.async false
set_option linter.all false
set_option maxRecDepth 100000
set_option maxHeartbeats 4000000
/-! ## dicts -/
namespace Mini
open PySem L2
section
variable {W : Wd} {H H' H1 H2 : Hp} {M Mo : Zone} {σ σ1 σ2 σ' : Fm} {σV : L2.St} {v : V} {d : D}
theorem New.dic {p : Addr} {ds : List D} {kvs : List (Key × V)} (hp : H p = none) (l : DenL W H M ds (kvs.map (·.2))) : New W M H (.dic (kvs.map (·.1)) ds) true (.ref p) (upd H p (.dK kvs)) :=
  ⟨.new hp, p, rfl, hp, .dik upd_same (l.step (Mw := Z0) (.new hp) (fun _ z => z.elim) fun b z => z.elim .inl fun e => .inr (by rw [e]; exact hp))⟩
theorem New.dit {p : Addr} {ds : List D} {kvs : List (List Key × V)} (hp : H p = none) (l : DenL W H M ds (kvs.map (·.2))) : New W M H (.dit (kvs.map (·.1)) ds) true (.ref p) (upd H p (.dT kvs)) :=
  ⟨.new hp, p, rfl, hp, .dit upd_same (l.step (Mw := Z0) (.new hp) (fun _ z => z.elim) fun b z => z.elim .inl fun e => .inr (by rw [e]; exact hp))⟩
end
section
variable {T : Tb} {C : Cb} {n : Nat} {X : Cx} {sc : Scope}
theorem snd_dnt (o : Okay T C n X sc) {t : Bool} {e : Expr} (h : chk T sc (.dnt t) e = true) : PE X e (tE T.W (ev C (.dnt t))) := by
  unfold chk at h
  split at h <;> first | (rename_i h0; cases h0; done) | skip
  all_goals first | (cases h; done) | skip
  all_goals first | (rename_i heq; cases heq; done) | skip
  cases t with
  | true =>
    refine PE.weak pe_dnewT fun σV H Q q => ?_
    obtain ⟨Mo, σ, x, ow, σ', hr, hs, k⟩ := q
    cases hs
    exact fun p hp => k _ _ ((Post.refl (x := .v .non) hr .non).new (New.dit (kvs := []) hp .nil))
  | false =>
    refine PE.weak pe_dnewK fun σV H Q q => ?_
    obtain ⟨Mo, σ, x, ow, σ', hr, hs, k⟩ := q
    cases hs
    exact fun p hp => k _ _ ((Post.refl (x := .v .non) hr .non).new (New.dic (kvs := []) hp .nil))
/-! ### {k: v, ..} -/
/-- every part of a row is sound -/
noncomputable def LPs (T : Tb) (C : Cb) (n : Nat) : E → Prop
  | .cons a l => SndA T C n a ∧ LPs T C n l
  | _ => True
noncomputable def tDs (W : Wd) (C : Cb) : E → E → List (TE × TE)
  | .cons (.lit (.str x)) ks, .cons a vs => (tC (.str x), tE W (ev C a)) :: tDs W C ks vs
  | _, _ => []
theorem pps_of (o : Okay T C n X sc) {pos : Pos} : ∀ {ks vs : E} {keys : List (Option Expr)} {es : List Expr}, chkKs ks keys = true → keys.length = es.length → chkL T sc vs es = true → LPs T C n vs → PPs X pos keys es (tDs T.W C ks vs)
  | .nil, vs, [], [], _, _, _, _ => by unfold tDs; exact pps_nil
  | .cons (.lit (.str x)) ks, vs, key :: keys, e :: es, h1, h2, h3, h4 => by
    cases vs <;> simp only [chkL, Bool.and_eq_true, Bool.false_eq_true] at h3
    rename_i a vs
    cases key with
    | none => simp [chkKs] at h1
    | some kx =>
      cases kx <;> try (simp [chkKs] at h1; done)
      rename_i c k pk
      cases c <;> simp only [chkKs, Bool.and_eq_true, decide_eq_true_eq, Bool.false_eq_true] at h1
      obtain ⟨rfl, h1⟩ := h1
      unfold tDs
      exact pps_cons pe_str ((h4.1 X sc o).e e h3.1) (pps_of o h1 (by simpa using h2) h3.2 h4.2)
  | .nil, _, [], _ :: _, _, h, _, _ => by simp at h
  | .cons (.lit (.str x)) ks, _, _ :: _, [], _, h, _, _ => by simp at h
  | .cons (.lit (.str x)) ks, _, [], _, h, _, _, _ => by simp [chkKs] at h
  | .nil, _, _ :: _, _, h, _, _, _ => by simp [chkKs] at h
theorem lit_nil : ∀ {ks : E}, litKs ks = some [] → ks = .nil := fun {ks} h => by
  unfold litKs at h
  split at h
  · rfl
  · simp at h
  · cases h
theorem lit_cons {k : Key} {kl : List Key} : ∀ {ks : E}, litKs ks = some (k :: kl) → ∃ x l, ks = .cons (.lit (.str x)) l ∧ k = .inr x ∧ litKs l = some kl := fun {ks} h => by
  unfold litKs at h
  split at h
  · simp at h
  · rename_i x l
    rw [Option.map_eq_some_iff] at h
    obtain ⟨kl', h1, h2⟩ := h
    cases h2
    exact ⟨x, l, rfl, rfl, h1⟩
  · cases h
theorem postW_nil {W : Wd} {Mo : Zone} {σ : Fm} {σV : L2.St} {H : Hp} (hr : Rel W Mo σ σV H) : PostW W Mo σ σV H [] σ [] H := by
  refine ⟨.refl, fun _ z => z, fun _ z => z, fun _ z => z, fun _ _ e => e, ?_, List.nodup_nil, fun p hp => absurd hp (by simp [ownsOf]), trivial⟩
  have e : Zl Mo (ownsOf [] []) = Mo := funext fun b => propext ⟨fun z => z.elim id fun z => by simp [ownsOf] at z, .inl⟩
  rw [e]
  exact hr
theorem pairs_read {W : Wd} {σV : L2.St} {σ' : Fm} : ∀ {vs ks : E} {kl : List Key} {Mo : Zone} {σ : Fm} {H : Hp} {xs : List (D × Bool)} {Q : List (V × V) → Hp → Prop}, litKs ks = some kl → Rel W Mo σ σV H → evW C vs σ = .ok (xs, σ') → xs.length = kl.length →
    (∀ us H', PostW W Mo σ σV H xs σ' us H' → Q ((kl.map kV).zip us) H') → tPairs (tDs W C ks vs) σV H Q
  | .nil, ks, kl, Mo, σ, H, xs, Q, hk, hr, hs, hl, k => by
    cases hs
    have e : kl = [] := List.eq_nil_of_length_eq_zero (by simpa using hl.symm)
    subst e
    rw [lit_nil hk]
    exact k [] H (postW_nil hr)
  | .cons a l, ks, kl, Mo, σ, H, xs, Q, hk, hr, hs, hl, k => by
    have hs : ((ev C a σ).bind fun x => (fz x).bind fun x => (evW C l x.2.2).bind fun y => .ok ((x.1, x.2.1) :: y.1, y.2)) = R.ok (xs, σ') := hs
    obtain ⟨⟨x1, o1, σ1⟩, g1, hs⟩ := bind_inv hs
    obtain ⟨⟨d, ow, σ1'⟩, g2, hs⟩ := bind_inv hs
    obtain ⟨⟨ys, σ2⟩, g3, hs⟩ := bind_inv hs
    cases hs
    cases kl with
    | nil => simp at hl
    | cons key kl =>
      obtain ⟨x, l', rfl, rfl, hk'⟩ := lit_cons hk
      unfold tDs
      show tC (.str x) σV H fun u H1 => tE W (ev C a) σV H1 _
      refine ⟨Mo, σ, x1, o1, σ1, hr, g1, fun v1 H1 p1 => ?_⟩
      have p2 := p1.freeze g2
      refine pairs_read hk' (Mo := ownZ Mo ow v1) ?_ g3 (by simpa using hl) fun us H2 p3 => k _ _ (PostW.cons_ p2 p3)
      cases ow with
      | false => exact p2.rel
      | true =>
        obtain ⟨b, rfl, _, _, rl⟩ := p2.val
        exact rl
theorem putK_snoc {k : Key} {v : V} {kvs : List (Key × V)} (h : memK k (kvs.map (·.1)) = false) : putK kvs k v = kvs ++ [(k, v)] := by
  unfold putK
  rw [any_mem, h]
  rfl
theorem memK_app {k : Key} {as bs : List Key} : memK k (as ++ bs) = (memK k as || memK k bs) := by simp [memK]
theorem merge_nod : ∀ {more kvs : List (Key × V)}, nodK (more.map (·.1)) = true → (∀ q ∈ more, memK q.1 (kvs.map (·.1)) = false) → mergeK kvs more = kvs ++ more
  | [], kvs, _, _ => by simp [mergeK]
  | q :: more, kvs, h, g => by
    simp only [List.map_cons, nodK, Bool.and_eq_true, Bool.not_eq_true'] at h
    show mergeK (putK kvs q.1 q.2) more = _
    rw [putK_snoc (g q List.mem_cons_self), merge_nod h.2 fun r hr => ?_]
    · simp
    · rw [List.map_append, memK_app, g r (List.mem_cons_of_mem _ hr)]
      have h1 : memK q.1 (more.map (·.1)) = false := h.1
      unfold memK at h1 ⊢
      rw [List.any_eq_false] at h1
      have h2 := h1 r.1 (List.mem_map_of_mem hr)
      simp only [decide_eq_true_eq] at h2
      simp only [List.map_cons, List.map_nil, List.any_cons, List.any_nil, Bool.or_false, Bool.false_or, decide_eq_false_iff_not]
      exact fun e => h2 e.symm
theorem zip_keys : ∀ {kl : List Key} {us : List V}, kl.length = us.length → (kl.zip us).map (·.1) = kl ∧ (kl.zip us).map (·.2) = us ∧ (kl.map kV).zip us = (kl.zip us).map fun kv => (kV kv.1, kv.2)
  | [], [], _ => ⟨rfl, rfl, rfl⟩
  | k :: kl, u :: us, h => by
    obtain ⟨h1, h2, h3⟩ := zip_keys (kl := kl) (us := us) (by simpa using h)
    exact ⟨by simp [h1], by simp [h2], by simp [h3]⟩
  | [], _ :: _, h => by simp at h
  | _ :: _, [], h => by simp at h
theorem snd_dic (o : Okay T C n X sc) {ks vs : E} (hv : LPs T C n vs) {e : Expr} (h : chk T sc (.dic ks vs) e = true) : PE X e (tE T.W (ev C (.dic ks vs))) := by
  cases e with
  | Dict keys es pos =>
    simp only [chk, Bool.and_eq_true, decide_eq_true_eq, Bool.not_eq_true'] at h
    obtain ⟨⟨⟨⟨h1, h2⟩, h3⟩, h4⟩, h5⟩ := h
    have hall : keys.all (·.isSome) = true := by
      clear h2 h3 h4 h5
      induction keys generalizing ks with
      | nil => rfl
      | cons k keys ih =>
        cases ks with
        | cons a l =>
          unfold chkKs at h1
          split at h1
          · rename_i e2; cases e2
          · rename_i e1 e2
            cases e1
            cases e2
            simp only [Bool.and_eq_true] at h1
            simp [ih h1.2]
          · cases h1
        | _ => simp [chkKs] at h1
    refine PE.weak (pe_disp (pps_of o h1 h4 h5 hv) hall h4 (by intro z; rw [z] at h2; simp at h2) h3) fun σV H Q q => ?_
    obtain ⟨Mo, σ, x, ow, σ', hr, hs, k⟩ := q
    have hs : ((R.of (litKs ks)).bind fun kl => (R.guard (nodK kl && decide (kl.length ≤ 15) && !kl.isEmpty)).bind fun _ => (evW C vs σ).bind fun x => (R.guard (x.1.length == kl.length)).bind fun _ => .ok (.v (.dic kl (x.1.map (·.1))), true, x.2)) = R.ok (x, ow, σ') := hs
    obtain ⟨kl, g1, hs⟩ := of_inv hs
    obtain ⟨g2, hs⟩ := guard_inv hs
    obtain ⟨⟨xs, σ1⟩, g3, hs⟩ := bind_inv hs
    obtain ⟨g4, hs⟩ := guard_inv hs
    cases hs
    simp only [Bool.and_eq_true, decide_eq_true_eq] at g2
    have g4 : xs.length = kl.length := eq_of_beq g4
    intro p hp
    have hr1 : Rel T.W (Zp Mo p) σ σV (upd H p (.dK [])) := hr.apart (.new hp) hp (by rw [upd_same]; exact fun z => nomatch z)
    refine pairs_read g1 hr1 g3 g4 fun us H2 pw => ?_
    obtain ⟨la, rl⟩ := Post.tup_ pw
    have nm : ∀ (τ : Fm), Rel T.W (Zp Mo p) τ σV (upd H p (.dK [])) ∨ Rel T.W (Zp Mo p) τ σV H2 → ¬ muts τ σV p := fun τ r z => by
      obtain ⟨i, d, hd, hv⟩ := z
      rcases r with r | r <;>
      · obtain ⟨a, e1, e2, _⟩ := r.mu i d hd
        rw [hv] at e1
        cases e1
        exact e2 (.inr rfl)
    have n0 := nm σ (.inl hr1)
    have n1 := nm _ (.inr rl)
    have hpH2 : H2 p = some (.dK []) := pw.fr.at' upd_same fun z => n0 (wrt_le z)
    have hlen : kl.length = us.length := by rw [← g4, ← la.length, List.length_map]
    obtain ⟨z1, z2, z3⟩ := zip_keys hlen
    refine ⟨hpH2, kl.zip us, z3, by rw [List.length_zip]; omega, ?_⟩
    have em : mergeK [] (kl.zip us) = kl.zip us := by
      rw [merge_nod (by rw [z1]; exact g2.1.1) fun q _ => rfl]; rfl
    rw [em]
    have f3 : Fr (fun b => b = p) H2 (upd H2 p (.dK (kl.zip us))) := fr_upd fun xs z => by rw [hpH2] at z; cases z
    have rl3 : Rel T.W (Zp Mo p) σ1 σV (upd H2 p (.dK (kl.zip us))) := rl.stepZ f3 (fun c e => .inr e) fun c hc => dm_upd c hc
    refine k _ _ ⟨fun a u e w => ?_, fun a e => ?_, pw.mm, pw.wm, pw.ios, rl3.drop, ⟨p, rfl, ?_, ?_, rl3⟩, fun _ b e => by cases e; exact hp⟩
    · have ap : a ≠ p := fun z => by rw [z, hp] at e; cases e
      rw [upd_ne ap]
      exact pw.fr a u (by rw [upd_ne ap]; exact e) w
    · refine dm_upd a (pw.dm a ?_)
      by_cases ap : a = p
      · rw [ap]; exact fun z => by rw [upd_same] at z; cases z
      · rw [upd_ne ap]; exact e
    · intro z
      rcases z with z | z
      · exact hr.tr p z hp
      · exact n1 z
    · have own : Own T.W (upd H2 p (.dK (kl.zip us))) (Zp (Mu Mo σ1 σV) p) p (.dic ((kl.zip us).map (·.1)) (xs.map (·.1))) := by
        refine .dik upd_same ?_
        rw [z2]
        refine la.step f3 (fun b e => .inl (.inr e)) fun b e => ?_
        rcases e with (e | e) | e
        · exact .inl (.inl (.inl e))
        · exact .inl (.inr e)
        · exact .inl (.inl (.inr e))
      rw [z1] at own
      exact own
  | _ => simp [chk] at h
/-! ### list(d.items()), dict(list(d.items())) -/
theorem items_den {W : Wd} {H H' : Hp} {M M' : Zone} : ∀ {ts : List Addr} {kvs : List (Key × V)} {ds : List D}, DenL W H M ds (kvs.map (·.2)) → Fr Z0 H H' → (∀ b, M' b → M b ∨ H b = none) → (∀ t ∈ ts, ¬ M' t) →
    Paired (fun (t : Addr) (q : Key × V) => H' t = some (.tup [kV q.1, q.2])) ts kvs → DenL W H' M' (((kvs.map (·.1)).zip ds).map fun q => .tup [kD q.1, q.2]) (ts.map V.ref)
  | [], [], ds, l, f, hm, nm, P => by cases l; exact .nil
  | t :: ts, (k, u) :: kvs, ds, l, f, hm, nm, P => by
    cases l with
    | cons h l =>
      cases P with
      | cons e P =>
        refine .cons (.tup e trivial (.cons ?_ (.cons (h.step f (fun _ z => z.elim) hm) .nil))) (items_den l f hm (fun b hb => nm b (List.mem_cons_of_mem _ hb)) P)
        cases k with
        | inl i => exact .int i
        | inr x => exact .str x
  | [], _ :: _, _, _, _, _, _, P => by cases P
  | _ :: _, [], _, _, _, _, _, P => by cases P
theorem paired_imp {α β : Type} {F G : α → β → Prop} (h : ∀ a b, F a b → G a b) : ∀ {xs : List α} {ys : List β}, Paired F xs ys → Paired G xs ys
  | _, _, .nil => .nil
  | _, _, .cons e t => .cons (h _ _ e) (paired_imp h t)
theorem snd_dcp (o : Okay T C n X sc) {a : E} (ha : Snd T C a n X sc) {e : Expr} (h : chk T sc (.dcp a) e = true) : PE X e (tE T.W (ev C (.dcp a))) := by
  unfold chk at h
  split at h <;> first | (rename_i h0; cases h0; done) | skip
  all_goals first | (cases h; done) | skip
  all_goals first | (rename_i heq; cases heq; done) | skip
  rename_i z pz x p y m ap cp p2 p3 pos
  simp only [Bool.and_eq_true, decide_eq_true_eq] at h
  obtain ⟨⟨⟨⟨⟨⟨⟨⟨⟨rfl, f1⟩, f2⟩, rfl⟩, h1⟩, h2⟩, rfl⟩, h4⟩, h5⟩, h6⟩ := h
  have hl := fun pp qq => LiI.pe_listItems (p := pp) (pos := qq) o.calm (ha.e _ h6) (gl_of o h1) (o.blt _ h2) (by decide +kernel) (base_of h4) h5
  refine PE.weak (pe_callTy (call_dictP o.calm) (gl_of o f1) (o.blt _ f2) (by decide +kernel) (pa_cons (hl _ _) pa_nil rfl) (by decide) (by decide) rfl (by rfl)) fun σV H Q q => ?_
  obtain ⟨Mo, σ, x, ow, σ', hr, hs, kk⟩ := q
  have hs : ((ev C a σ).bind fun x => (rd x.2.2 x.1).bind fun d => (dcopy d).bind fun e => .ok (.v e, true, x.2.2)) = .ok (x, ow, σ') := hs
  obtain ⟨⟨x1, o1, σ1⟩, g1, hs⟩ := bind_inv hs
  obtain ⟨d, g2, hs⟩ := bind_inv hs
  obtain ⟨l, g3, hs⟩ := bind_inv hs
  cases hs
  refine ⟨Mo, σ, x1, o1, _, hr, g1, fun v H' p => ?_⟩
  have hd := p.val.rd p.rel g2
  unfold dcopy at g3
  split at g3
  · obtain ⟨g4, g3⟩ := guard_inv g3
    cases g3
    simp only [Bool.and_eq_true] at g4
    obtain ⟨b, kvs, rfl, hb, rfl, la⟩ := hd.dic
    refine ⟨b, kvs, rfl, hb, fun H2 q ts kp hq ht hqt e1 P => ?_⟩
    refine ⟨q, ts, kvs, rfl, .of e1, ?_, fun r hrr => ?_⟩
    · exact paired_imp (fun a b e => .of e) P
    · have em : mergeK [] kvs = kvs := by
        rw [merge_nod g4.1 fun q _ => rfl]; rfl
      rw [em]
      have f1 : Fr Z0 H' (upd H2 r (.dK kvs)) := fun c u e _ => by
        have hc := kp c u e
        rw [upd_ne fun z => by rw [z, hrr] at hc; cases hc]
        exact hc
      have hr0 : H' r = none := by
        cases e : H' r with
        | none => rfl
        | some u => rw [kp r u e] at hrr; cases hrr
      exact kk _ _ (p.new ⟨f1, r, rfl, hr0, .dik upd_same (la.step f1 (fun _ z => z.elim) fun c z => z.elim .inl fun z => .inr (by rw [z]; exact hr0))⟩)
  · cases g3
end
end Mini

set_option Elab.async false
set_option linter.all false
set_option maxRecDepth 100000
set_option maxHeartbeats 4000000
/-! ## rows backwards -/
namespace Mini
open PySem L2
section
variable {prog : Program} {w : World} {A : Around} {E : Value → Shared → Prop} {s : Shared}
theorem back_pick (xs : Array Value) : ((List.range xs.size).filterMap fun (m : Nat) => xs[(((xs.size : Int) - 1) + (m : Int) * (-1)).toNat]?).toArray = xs.toList.reverse.toArray := by
  congr 1
  apply List.ext_getElem?
  intro i
  have e : (fun (m : Nat) => xs[(((xs.size : Int) - 1) + (m : Int) * (-1)).toNat]?) = fun m => xs[xs.size - 1 - m]? := by
    funext m
    congr 1
    omega
  rw [e]
  have gen : ∀ (l : List Nat), (∀ m ∈ l, m < xs.size) → l.filterMap (fun m => xs[xs.size - 1 - m]?) = l.map (fun m => xs[xs.size - 1 - m]?.getD default) := fun l => by
    induction l with
    | nil => intro _; rfl
    | cons m l ih =>
      intro hl
      have h1 := hl m List.mem_cons_self
      have h2 : xs.size - 1 - m < xs.size := by omega
      rw [List.filterMap_cons, List.map_cons, ih fun k hk => hl k (List.mem_cons_of_mem _ hk), Array.getElem?_eq_getElem h2]
      rfl
  have hm := gen (List.range xs.size) fun m h => List.mem_range.mp h
  rw [hm]
  by_cases h : i < xs.size
  · have h2 : xs.size - 1 - i < xs.size := by omega
    simp [h, h2, List.getElem?_reverse]
  · simp [h]
theorem applied_back {q : Addr} {va vb vc : Value} {n : Nat} {Q : Int × Int × Nat → Shared → Prop} (hq : s.heap.IsSliceOf q va vb vc) (pa : IsPart va none) (pb : IsPart vb none) (pc : IsPart vc (some (-1)))
    (h : Q ((n : Int) - 1, -1, n) s) : wpAny (model prog w) A (Builtin.Slice.sliceApplied (.ref q) (pure (n : Int))) Q E s := by
  obtain ⟨ob, h1, h2, h3⟩ := id hq
  have eA : Builtin.Slice.sliceAdjust none none (-1) (n : Int) = ((n : Int) - 1, -1) := rfl
  have eP : Builtin.Slice.slicePlaces ((n : Int) - 1) (-1) (-1) = n := by
    unfold Builtin.Slice.slicePlaces
    rw [if_neg (by decide)]
    have e1 : ((n : Int) - 1 - -1 - 1) / (- -1) = (n : Int) - 1 := by rw [show (- -1 : Int) = 1 by decide, Int.ediv_one]; omega
    rw [e1]
    split <;> omega
  unfold Builtin.Slice.sliceApplied Builtin.Slice.sliceFields
  have f1 := fun {R : Value → Shared → Prop} (k : R va s) => wpAny_field (M := model prog w) (A := A) (E := E) (i := 0) (x := va) (Q := R) h1 h3 rfl k
  have f2 := fun {R : Value → Shared → Prop} (k : R vb s) => wpAny_field (M := model prog w) (A := A) (E := E) (i := 1) (x := vb) (Q := R) h1 h3 rfl k
  have f3 := fun {R : Value → Shared → Prop} (k : R vc s) => wpAny_field (M := model prog w) (A := A) (E := E) (i := 2) (x := vc) (Q := R) h1 h3 rfl k
  refine wpAny_bind (wpAny_bind (f1 (wpAny_bind (f2 (wpAny_bind (f3 (wpAny_pure ?_)))))))
  refine wpAny_bind (HT.slicePart_ pc ?_)
  show wpAny _ _ (if ((-1 : Int) == 0) = true then _ else _) _ _ s
  rw [if_neg (by decide)]
  refine wpAny_bind (HT.slicePart_ pa (wpAny_bind (HT.slicePart_ pb (wpAny_bind (wpAny_pure ?_)))))
  show wpAny _ _ (match Builtin.Slice.sliceAdjust none none (-1) (n : Int) with | (x, y) => pure (x, (-1 : Int), Builtin.Slice.slicePlaces x y (-1))) _ _ s
  rw [eA]
  show wpAny _ _ (pure ((n : Int) - 1, (-1 : Int), Builtin.Slice.slicePlaces ((n : Int) - 1) (-1) (-1))) _ _ s
  rw [eP]
  exact wpAny_pure h
theorem item_back {t q : Addr} {xs : Array Value} {va vb vc : Value} {Q : Value → Shared → Prop} (ht : PyProof.Rows.IsTup s.heap t xs) (hq : s.heap.IsSliceOf q va vb vc) (pa : IsPart va none) (pb : IsPart vb none) (pc : IsPart vc (some (-1)))
    (hz : xs.size ≤ sizeLine) (h : Q (.ref s.heap.objs.size) { s with heap := s.heap.push { cls := .type "tuple", data := .seq xs.toList.reverse.toArray } }) : wpAny (model prog w) A (getItem (.ref t) (.ref q)) Q E s := by
  have fit : PySem.sizeOk (.seq xs.toList.reverse.toArray) := by
    show xs.toList.reverse.toArray.size ≤ sizeLine
    simpa using hz
  obtain ⟨ob, h1, h2, h3⟩ := id hq
  have hT : s.TypeIs (.ref q) "slice" := ⟨ob, h1, h2⟩
  have no : ¬ ((((xs.size : Int) - 1) == 0 && (-1 : Int) == 1 && xs.size == xs.size) = true) := by simp
  unfold getItem
  try with_reducible refine wpAny_holding ?_
  first | refine wpAny_bind (wpAny_pure ?_) | skip
  refine wpAny_bind (wpAny_sequenceKey ht.typeIs (by decide) ?_)
  refine wpAny_bind (wpAny_callSpecial?_slot (name := Str.ofString "__getitem__") ht.typeIs PyProof.Rows.slot_tuple_getitem (wpAny_call_entry PyProof.Rows.slot_tuple_getitem ht.typeIs PyProof.Rows.entry_tuple_getitem ?_ (PyProof.Rows.args_tuple_getitem _ _)))
  show wpAny _ _ (Builtin.Tuple.tupleItemsOf (.ref t) >>= _) _ _ s
  refine wpAny_bind (PyProof.Rows.tupleItemsOf_ ht ?_)
  refine wpAny_bind (wpAny_typeOf hT ?_)
  rw [if_pos (by decide)]
  refine wpAny_bind (applied_back (n := xs.size) hq pa pb pc ?_)
  show wpAny _ _ (if (((xs.size : Int) - 1) == 0 && (-1 : Int) == 1 && xs.size == xs.size) = true then _ else _) _ _ s
  rw [if_neg no, back_pick]
  first
    | exact wpAny_bind (m := Builtin.Tuple.tupleExact _) (wpAny_newObj_type (wpAny_pure ⟨_, rfl, wpAny_pure h⟩) fit)
    | exact wpAny_bind (wpAny_bind (m := Builtin.Tuple.tupleExact _) (wpAny_newObj_type (wpAny_pure ⟨_, rfl, wpAny_pure h⟩) fit))
    | exact wpAny_bind (m := Builtin.Tuple.tupleExact _) (wpAny_newObj_type (wpAny_bind (wpAny_pure (wpAny_pure ⟨_, rfl, wpAny_pure h⟩))) fit)
    | exact wpAny_bind (wpAny_bind (m := Builtin.Tuple.tupleExact _) (wpAny_newObj_type (wpAny_pure (wpAny_pure ⟨_, rfl, wpAny_pure h⟩)) fit))
end
/-- e[::-1] of a list, of a tuple -/
noncomputable def tBack (K : PySem.W.Frag) (te : TE) : TE := fun σ H Q => te σ H fun x H1 => ∃ a xs, x = .ref a ∧ ((SqL K H1 a xs ∧ ∀ p, H1 p = none → Q (.ref p) (upd H1 p (.lst xs.reverse))) ∨ (SqT K H1 a xs ∧ ∀ p, H1 p = none → Q (.ref p) (upd H1 p (.tup xs.reverse))))
theorem pe_back {X : Cx} {e : Expr} {te : TE} {k : Nat} {p1 p2 p3 pos : Pos} (he : PE X e te) : PE X (.Subscript e (.Slice none none (some (.UnaryOp .USub (.Constant (.int 1) k p1) p2)) p3) pos) (tBack X.K te) := by
  refine ⟨fun pins s σ H Q I h => ?_⟩
  refine PyProof.Rows.Subscript_ (thn (he.run pins s σ H _ I h) fun v s1 ⟨x, H1, I1, r1, q1⟩ => ?_)
  obtain ⟨a, xs, rfl, hx⟩ := q1
  cases r1
  have hst : PO X (some (.UnaryOp .USub (.Constant (.int 1) k p1) p2)) (L2.tPart (tUn (rU fun i => .int (-i)) (tC (.int 1)))) := po_some (pe_un un_neg pe_int)
  refine wpAny_Slice (thn (po_none.run pins s1 σ H1 (fun o H2 => o = none ∧ H2 = H1) I1 ⟨rfl, rfl⟩) fun vl s2 ⟨l, H2, I2, pl, el, e2⟩ => ?_)
  cases el
  cases e2
  refine thn (po_none.run pins s2 σ H1 (fun o H3 => o = none ∧ H3 = H1) I2 ⟨rfl, rfl⟩) fun vu s3 ⟨u, H3, I3, pu, eu, e3⟩ => ?_
  cases eu
  cases e3
  refine thn (hst.run pins s3 σ H1 (fun o H4 => o = some (-1) ∧ H4 = H1) I3 ⟨1, rfl, -1, rfl, rfl, rfl⟩) fun vs s4 ⟨o, H4, I4, ps, eo, e4⟩ => ?_
  cases eo
  cases e4
  have I5 : Inv X pins σ H1 { s4 with heap := s4.heap.push { cls := .type "slice", data := .fields #[vl, vu, vs] } } := I4.kept (t' := s4.toks) fun b ob q => Heap.get?_push_of_some _ q
  show wpAny (model X.prog X.w) X.A (PyProof.Rows.subscriptTail e (.Slice none none (some (.UnaryOp .USub (.Constant (.int 1) k p1) p2)) p3) (.ref a) (.ref s4.heap.objs.size)) (EP X pins σ Q) X.xe { s4 with heap := s4.heap.push { cls := .type "slice", data := .fields #[vl, vu, vs] } }
  rcases hx with ⟨hx, q⟩ | ⟨hx, q⟩
  · obtain ⟨its, r, ht, hz⟩ := I5.list hx
    have hlen := r.length
    refine PyProof.Rows.tail_any (ops := [.ref a, .ref s4.heap.objs.size]) ht.isList.typeIs (PySem.slot_list_getitem.lookup) ?_ (by with_unfolding_all rfl)
    refine wpAny_getItem_list_slice ht.isList (Heap.IsSliceOf.new _ vl vu vs) pl pu ps (by decide) ?_ (by rw [List.size_toArray]; omega)
    rw [PySem.W.krv_pick]
    refine ⟨.ref _, _, I5.laid (t' := s4.toks) (o := .lst xs.reverse) (fun b ob z => Heap.get?_push_of_some _ z) (Nat.le_refl _) ?_, rfl, q _ (I5.hok.fresh (Nat.le_refl _))⟩
    exact ⟨by rw [List.length_reverse]; exact hz, _, 0, r.reverse, Heap.get?_push_size _ rfl⟩
  · obtain ⟨its, r, ht, hz⟩ := I5.tuple hx
    have hlen := r.length
    refine PyProof.Rows.tail_any (ops := [.ref a, .ref s4.heap.objs.size]) ht.typeIs (PyProof.Rows.slot_tuple_getitem.lookup) ?_ (by with_unfolding_all rfl)
    refine item_back ht (Heap.IsSliceOf.new _ vl vu vs) pl pu ps (by rw [List.size_toArray]; omega) ?_
    refine ⟨.ref _, _, I5.laid (t' := s4.toks) (o := .tup xs.reverse) (fun b ob z => Heap.get?_push_of_some _ z) (Nat.le_refl _) ?_, rfl, q _ (I5.hok.fresh (Nat.le_refl _))⟩
    exact ⟨by rw [List.length_reverse]; exact hz, _, r.reverse, _, Heap.get?_push_size _ rfl, rfl, _, rfl⟩
section
variable {T : Tb} {C : Cb} {n : Nat} {X : Cx} {sc : Scope}
theorem DenL.rev {W : Wd} {H : Hp} {M : Zone} : ∀ {ds : List D} {vs : List V}, DenL W H M ds vs → DenL W H M ds.reverse vs.reverse
  | [], _, h => by cases h; exact .nil
  | d :: ds, _, h => by
    cases h with
    | cons h l =>
      rw [List.reverse_cons, List.reverse_cons]
      exact (DenL.rev l).append (.cons h .nil)
theorem snd_rev (o : Okay T C n X sc) {a : E} (ha : Snd T C a n X sc) {e : Expr} (h : chk T sc (.rev a) e = true) : PE X e (tE T.W (ev C (.rev a))) := by
  unfold chk at h
  split at h <;> first | (rename_i h0; cases h0; done) | skip
  all_goals first | (cases h; done) | skip
  all_goals first | (rename_i heq; cases heq; done) | skip
  rename_i y i k p1 p2 p3 pos
  simp only [Bool.and_eq_true, decide_eq_true_eq] at h
  obtain ⟨rfl, h1⟩ := h
  refine PE.weak (pe_back (ha.e _ h1)) fun σV H Q q => ?_
  obtain ⟨Mo, σ, x, ow, σ', hr, hs, kk⟩ := q
  have hs : ((ev C a σ).bind fun x => (rd x.2.2 x.1).bind fun d => asD x.2.2 (revD d)) = .ok (x, ow, σ') := hs
  obtain ⟨⟨x1, o1, σ1⟩, g1, hs⟩ := bind_inv hs
  obtain ⟨d, g2, hs⟩ := bind_inv hs
  obtain ⟨g, g3, rfl, rfl⟩ := asD_inv hs
  refine ⟨Mo, σ, x1, o1, _, hr, g1, fun v H' p => ?_⟩
  have hd := p.val.rd p.rel g2
  unfold revD at g3
  split at g3
  · cases g3
    obtain ⟨b, vs, rfl, hb, la⟩ := hd.lst
    exact ⟨b, vs, rfl, .inl ⟨.of hb, fun q hq => kk _ _ (p.new (.lst hq la.rev))⟩⟩
  · cases g3
    obtain ⟨b, vs, rfl, hb, mb, la⟩ := hd.tup
    exact ⟨b, vs, rfl, .inr ⟨.of hb, fun q hq => kk _ _ (p.new (.tup hq (fun z => p.rel.mu_tr z hq) la.rev))⟩⟩
  · cases g3
end
end Mini

set_option Elab.async false
set_option linter.all false
set_option maxRecDepth 100000
set_option maxHeartbeats 8000000
/-! ## sorted(set(row of ints)) -/
namespace Mini
open PySem L2
noncomputable abbrev emptySet (w : World) : Obj := { cls := .type "set", dict := none, data := .set #[] 0 (.fresh 0 0 (!w.params.followText "set-order")) }
section
variable {P : Program} {w : World} {A : Around} {E : Value → Shared → Prop} {s : Shared}
/-- what set.__init__ does behind: the row's ints are in -/
noncomputable def Filled (w : World) (s : Shared) (S : Addr) (zs : List Int) (h0 : Heap) (r : Value) (t : Shared) : Prop :=
  r = .none ∧ ∃ h' tk c, t = { s with heap := h', toks := tk } ∧ SetR w h' S (fun j => decide (j ∈ zs)) c ∧ c ≤ zs.length ∧ ∀ b o, b ≠ S → h0.get? b = some o → h'.get? b = some o
theorem fill_row {l S : Addr} {row : Array Value} {zs : List Int} (hh : A.handled = none) (hl : s.heap.IsList l row) (hi : PyProof.Rows.IntsAre row.toList zs) (hb : zs.length + 1 < scanBound) (hS : s.heap.get? S = some (emptySet w)) :
    wpAny (model P w) A.in1 (Builtin.«set.__init__» ⟨[.ref S, .ref l], []⟩)
      (fun fin s' => match fin with | .done f => wants (Filled w s S zs s.heap) E (.ok f) s' | .again c' => c'.quiet = true ∧ codeAny (model P w) A c' (wants (Filled w s S zs s.heap) E) s') (fun e s' => wants (Filled w s S zs s.heap) E (.error e) s') s := by
  have size : row.size = zs.length := by
    have q := PyProof.Rows.IntsAre.length hi
    rwa [Array.length_toList] at q
  obtain ⟨⟨c0, d0, t0, u0⟩, gl, e1, nl, e2⟩ := id hl
  cases e1
  cases e2
  have n1 : (Value.type "list" == Value.type "dict") = false := by decide
  have n2 := PySem.F.sub_list_set
  have n3 := PySem.F.sub_list_frozenset
  unfold Builtin.«set.__init__» noKeywords Builtin.Frozenset.updateFrom
  generalize hp : pyIter = it
  wp_walk
  subst hp
  refine wpAny_pyIter_list hl (wpAny_bind (wpAny_runValue ?_))
  have lt0 : l < s.heap.objs.size := Heap.lt_size gl
  have lt1 : S < s.heap.objs.size := Heap.lt_size hS
  have ne0 : l ≠ s.heap.objs.size := Nat.ne_of_lt lt0
  have ne1 : S ≠ l := fun z => by
    rw [z, gl] at hS
    have q := congrArg Obj.cls (Option.some.inj hS)
    simp at q
  have far : S ∉ [s.heap.objs.size, l] := fun z => by
    rcases List.mem_cons.mp z with z | z
    · exact Nat.ne_of_lt lt1 z
    · exact ne1 (List.mem_singleton.mp z)
  have vals : ∀ (i : Nat) (v : Value), row[i]? = some v → ∃ k t, zs[i]? = some k ∧ v = .int k t := fun i v hv => by
    have lt : i < zs.length := by rw [← size]; exact (Array.getElem?_eq_some_iff.mp hv).1
    have q := PyProof.Rows.IntsAre.int_at hi i v (by rw [Array.getElem?_toList, hv])
    rw [show zs.getD i 0 = zs[i] by simp [lt]] at q
    exact q.elim fun t e => ⟨_, t, by simp [lt], e⟩
  refine set_update_ints ((Walks.list (by first | exact hh | simp [hh]) _ l ne0 row).toS) S far zs size hb vals (row.size - 0) 0 _ (by omega) (Nat.zero_le _) ⟨⟨_, Heap.get?_push_size _ rfl, rfl, rfl⟩, hl.push _⟩ ⟨0, Nat.le_refl 0, setR_new_at (Heap.get?_push_of_some _ hS)⟩ fun s' c mv hc ends => ?_
  rcases s' with ⟨h', g', d', k', o'⟩
  cases (show g' = s.gens from mv.gens)
  cases (show d' = s.drawn from mv.drawn)
  cases (show o' = s.os from mv.os)
  show wpAny _ _ _ _ _ _
  refine wpAny_pure ?_
  refine wpAny_pure ⟨rfl, h', k', c, rfl, ends, by rw [← size]; exact hc, fun b o hb e => ?_⟩
  refine mv.heap b o (fun z => ?_) (Heap.get?_push_of_some _ e)
  rcases List.mem_cons.mp z with z | z
  · exact hb z
  · exact Nat.ne_of_lt (Heap.lt_size e) (List.mem_singleton.mp z)
theorem set_row {l : Addr} {row : Array Value} {zs : List Int} {Q : Value → Shared → Prop} (hh : A.handled = none) (hl : s.heap.IsList l row) (hi : PyProof.Rows.IntsAre row.toList zs) (hb : zs.length + 1 < scanBound)
    (k : ∀ (h' : Heap) (tk c : Nat), SetR w h' s.heap.objs.size (fun j => decide (j ∈ zs)) c → c ≤ zs.length → (∀ b o, s.heap.get? b = some o → h'.get? b = some o) → Q (.ref s.heap.objs.size) { s with heap := h', toks := tk }) :
    wpAny (model P w) A (call (.type "set") [.ref l]) Q E s := by
  have ft := PySem.F.called_set
  have f1 := ft.notType
  have f2 := ft.canCreate
  have f3 := ft.made
  have f4 := ft.sub
  have f5 := PySem.F.typeCall_set_1 (.ref l)
  obtain ⟨_, _, f6⟩ := ft.mro
  have at0 : (s.heap.push (emptySet w)).get? s.heap.objs.size = some (emptySet w) := Heap.get?_push_size _ rfl
  have new := L2.code_set_led1 (P := P) (w := w) (A := A.in1) (E := E) (s := s) (.ref l) (Q₁ := fun ob s1 => ob = .ref s.heap.objs.size ∧ s1 = { s with heap := s.heap.push (emptySet w) }) ⟨rfl, rfl⟩
  have ty : Shared.TypeIs { s with heap := s.heap.push (emptySet w) } (.ref s.heap.objs.size) "set" := ⟨_, at0, rfl⟩
  have body := fill_row (P := P) (w := w) (A := A.in1) (E := E) (s := { s with heap := s.heap.push (emptySet w) }) (S := s.heap.objs.size) (by simp [hh]) (let ⟨o, e, r⟩ := hl; ⟨o, Heap.get?_push_of_some _ e, r⟩) hi hb at0
  refine wpAny_call (codeAny_of_tree (show wpAny _ _ (callAny (.type "set") _) _ _ _ from wpAny_pure ⟨Code.quiet_builtin _ (by decide +kernel), codeAny_builtin PySem.F.entry_type_call ?_⟩))
  rw [Around.under_plain (weight_type_call_type "set" [Value.ref l] []) rfl]
  repeat (any_goals (first | wp_step | assumption))
  refine codeAny_mono new fun r1 s1 q1 => ?_
  cases r1 with
  | error e => exact q1
  | ok g1 =>
    cases g1 with
    | ret ob =>
      obtain ⟨rfl, rfl⟩ := q1
      have f7 := ft.init.lookup
      have f8 := ft.init.bind (.ref s.heap.objs.size)
      repeat (any_goals (first | wp_step | assumption))
      refine codeAny_mono (codeAny_call_builtin ft.init.plain PySem.F.entry_set_init (check_set_init_1 ty body)) fun r2 s2 q2 => ?_
      cases r2 with
      | error e => exact q2
      | ok g2 =>
        cases g2 with
        | ret r =>
          obtain ⟨rfl, h', tk, c, rfl, x1, x2, x3⟩ := q2
          repeat (any_goals (first | wp_step | assumption))
          exact k h' tk c x1 x2 fun b o e => x3 b o (Nat.ne_of_lt (Heap.lt_size e)) (Heap.get?_push_of_some _ e)
        | _ => exact q2.elim
    | _ => exact q1.elim
end
/-! ### ascending rows -/
theorem insU_mem {x k : Int} : ∀ {l : List Int}, k ∈ insU x l ↔ k = x ∨ k ∈ l
  | [] => by simp [insU]
  | y :: l => by
    unfold insU
    by_cases h : x < y
    · simp [h]
    · by_cases h2 : x = y
      · simp [h2]
      · simp only [h, h2, if_false, List.mem_cons, insU_mem (l := l)]
        constructor
        · rintro (z | z | z) <;> simp [z]
        · rintro (z | z | z) <;> simp [z]
theorem insU_asc {x : Int} : ∀ {l : List Int}, l.Pairwise (· < ·) → (insU x l).Pairwise (· < ·)
  | [], _ => by simp [insU]
  | y :: l, h => by
    obtain ⟨h1, h2⟩ := List.pairwise_cons.mp h
    unfold insU
    by_cases g : x < y
    · rw [if_pos g]
      refine List.pairwise_cons.mpr ⟨fun z hz => ?_, h⟩
      rcases List.mem_cons.mp hz with rfl | hz
      · exact g
      · have := h1 z hz; omega
    · rw [if_neg g]
      by_cases g2 : x = y
      · rw [if_pos g2]; exact h
      · rw [if_neg g2]
        refine List.pairwise_cons.mpr ⟨fun z hz => ?_, insU_asc h2⟩
        rcases insU_mem.mp hz with rfl | hz
        · omega
        · exact h1 z hz
theorem sortU_mem {k : Int} : ∀ {l : List Int}, k ∈ sortU l ↔ k ∈ l
  | [] => by simp [sortU]
  | x :: l => by simp only [sortU, insU_mem, sortU_mem (l := l), List.mem_cons]
theorem sortU_asc : ∀ {l : List Int}, (sortU l).Pairwise (· < ·)
  | [] => List.Pairwise.nil
  | x :: l => insU_asc sortU_asc
theorem asc_unique : ∀ {l m : List Int}, l.Pairwise (· < ·) → m.Pairwise (· < ·) → (∀ k, k ∈ l ↔ k ∈ m) → l = m
  | [], [], _, _, _ => rfl
  | [], y :: m, _, _, h => by have := (h y).mpr List.mem_cons_self; simp at this
  | x :: l, [], _, _, h => by have := (h x).mp List.mem_cons_self; simp at this
  | x :: l, y :: m, h1, h2, h => by
    obtain ⟨a1, a2⟩ := List.pairwise_cons.mp h1
    obtain ⟨b1, b2⟩ := List.pairwise_cons.mp h2
    have e : x = y := by
      have p := (h x).mp List.mem_cons_self
      have q := (h y).mpr List.mem_cons_self
      rcases List.mem_cons.mp p with p | p
      · exact p
      · rcases List.mem_cons.mp q with q | q
        · exact q.symm
        · have := b1 x p; have := a1 y q; omega
    subst e
    rw [asc_unique a2 b2 fun k => ⟨fun hk => ?_, fun hk => ?_⟩]
    · rcases List.mem_cons.mp ((h k).mp (List.mem_cons_of_mem _ hk)) with p | p
      · have := a1 k hk; omega
      · exact p
    · rcases List.mem_cons.mp ((h k).mpr (List.mem_cons_of_mem _ hk)) with p | p
      · have := b1 k hk; omega
      · exact p
/-! ### as rules -/
section
variable {X : Cx}
theorem cr_setRow (hc : X.calm = true) : CallR X (.type "set") (fun xs H Q => ∃ (l : Addr) (zs : List Int), xs = [V.ref l] ∧ SqL X.K H l (zs.map V.int) ∧ zs.length < 63 ∧ ∀ p c, H p = none → c ≤ zs.length → Q (.ref p) (upd H p (SetO X.w p (fun j => decide (j ∈ zs)) c))) := by
  intro pins s σ H xs us Q I r h
  obtain ⟨l, zs, rfl, hl, hb, q⟩ := h
  rw [Vals.ref1 r]
  obtain ⟨its, rv, pl, hz⟩ := I.list hl
  refine set_row (I.ok.hd hc) pl.isList (by simpa using intsAre_of rv) (by unfold scanBound; omega) fun h' tk c R hcl kp => ?_
  have hn := I.hok.fresh (Nat.le_refl s.heap.objs.size)
  exact ⟨.ref _, _, I.laid (t' := tk) kp (Nat.le_refl _) (setO_new R), rfl, q _ c hn hcl⟩
end
section
variable {T : Tb} {C : Cb} {n : Nat} {X : Cx} {sc : Scope}
theorem snd_srs (o : Okay T C n X sc) {a : E} (ha : Snd T C a n X sc) {e : Expr} (h : chk T sc (.srs a) e = true) : PE X e (tE T.W (ev C (.srs a))) := by
  unfold chk at h
  split at h <;> first | (rename_i h0; cases h0; done) | skip
  all_goals first | (cases h; done) | skip
  all_goals first | (rename_i heq; cases heq; done) | skip
  rename_i z pz x p y p2 pos
  simp only [Bool.and_eq_true, decide_eq_true_eq] at h
  obtain ⟨⟨⟨⟨⟨⟨rfl, f1⟩, f2⟩, rfl⟩, h1⟩, h2⟩, h6⟩ := h
  have pl := chk_plain h6
  have hs := fun pp qq => pe_callTy (p := pp) (pos := qq) (cr_setRow o.calm) (gl_of o h1) (o.blt _ h2) (by decide +kernel) (pa_cons (ha.e _ h6) pa_nil (star_plain pl)) (by decide) (by decide) (star_plain pl) (by rfl)
  refine PE.weak (pe_callB (cr_sortedSet o.calm) (gl_of o f1) (o.blt _ f2) (by decide +kernel) (pa_cons (hs _ _) pa_nil rfl) (by decide) (by decide) rfl (by rfl)) fun σV H Q q => ?_
  obtain ⟨Mo, σ, x, ow, σ', hr, hs, kk⟩ := q
  have hs : ((ev C a σ).bind fun x => (rd x.2.2 x.1).bind fun d => (srsD d).bind fun e => .ok (.v e, true, x.2.2)) = .ok (x, ow, σ') := hs
  obtain ⟨⟨x1, o1, σ1⟩, g1, hs⟩ := bind_inv hs
  obtain ⟨d, g2, hs⟩ := bind_inv hs
  obtain ⟨g, g3, hs⟩ := bind_inv hs
  cases hs
  refine ⟨Mo, σ, x1, o1, _, hr, g1, fun v H' p => ?_⟩
  have hd := p.val.rd p.rel g2
  unfold srsD at g3
  split at g3
  · obtain ⟨zs, t1, g3⟩ := of_inv g3
    obtain ⟨t2, g3⟩ := guard_inv g3
    cases g3
    have t2 := of_decide_eq_true t2
    obtain ⟨b, vs, rfl, hb, la⟩ := hd.lst
    have ev := ints_den la t1
    subst ev
    refine ⟨b, zs, rfl, .of hb, t2, fun q c hq hcl => ?_⟩
    refine ⟨q, _, c, rfl, upd_same, by omega, fun ns r a1 a2 a3 hrr => ?_⟩
    have e : ns = sortU zs := asc_unique a1 sortU_asc fun k => by rw [a2, sortU_mem, decide_eq_true_eq]
    subst e
    have ne : r ≠ q := fun z => by rw [z, upd_same] at hrr; cases hrr
    have hr0 : H' r = none := by rw [upd_ne ne] at hrr; exact hrr
    refine kk _ _ (p.new ⟨fun c u e _ => ?_, r, rfl, hr0, .lst upd_same (denL_ints _)⟩)
    have n1 : c ≠ r := fun z => by rw [z, hr0] at e; cases e
    have n2 : c ≠ q := fun z => by rw [z, hq] at e; cases e
    rw [upd_ne n1, upd_ne n2]
    exact e
  · cases g3
end
end Mini

set_option Elab.async false
set_option linter.all false
set_option maxRecDepth 100000
set_option maxHeartbeats 4000000
/-! ## list(d.items()), also of a dict whose keys are tuples -/
namespace Mini
open PySem L2
section
variable {P : Program} {w : World} {A : Around} {E : Value → Shared → Prop} {s : Shared} {v d : Addr} {es : Array DictEntry} {ep : Nat}
theorem init_view {S : Addr} {R : Result → Shared → Prop} (hh : A.handled = none) (hv : s.heap.IsItemsView v d) (hm : DT.Raw s.heap d es ep) (h1 : S ≠ v) (h2 : d ≠ S) (hn : es.size ≤ sizeLine) (hS : s.heap.get? S = some { cls := .type "list", data := .seq #[] })
    (k : ∀ h' tk acc c as, (∀ b o, b ≠ S → s.heap.get? b = some o → h'.get? b = some o) → h'.get? S = some { cls := .type "list", dict := none, data := .seq acc c, slots := #[] } → as.length = es.size → DT.Made es S h' as → acc.toList = as.map Value.ref →
      R (.ok (.ret .none)) { s with heap := h', toks := tk }) :
    wpAny (model P w) A.in1 (Builtin.«list.__init__» ⟨[.ref S, .ref v], []⟩)
      (fun fin t => match fin with | .done f => R (.ok f) t | .again c' => c'.quiet = true ∧ codeAny (model P w) A c' R t) (fun e t => R (.error e) t) s := by
  have off : ∀ b o, b ≠ S → s.heap.get? b = some o → (s.heap.update S (Obj.mapSeq (fun _ => (#[] : Array Value)))).get? b = some o := fun b o hb e => by rw [Heap.get?_update_other _ _ (Ne.symm hb)]; exact e
  have now := Heap.get?_update_self (Obj.mapSeq (fun _ => (#[] : Array Value))) hS rfl
  show wpAny _ _ (Builtin.List.listItems (.ref S) >>= fun old => Builtin.List.listUpdate (.ref S) (fun _ => #[]) >>= fun _ => letGo old.toList.reverse >>= fun _ => Builtin.List.listExtendWith (.ref S) (.ref v) .none) _ _ s
  refine wpAny_bind (m := Builtin.List.listItems (.ref S)) ?_
  unfold Builtin.List.listItems
  refine wpAny_bind (wpAny_seqItems hS rfl (wpAny_pure ?_))
  refine wpAny_bind (m := updateSeq S (fun _ => #[])) (wpAny_updateSeq hS rfl (wpAny_bind (wpAny_letGo ?_)))
  refine DT.extI (es := es) (ep := ep) hh (let ⟨o, e, x⟩ := hv; ⟨o, off v o h1.symm e, x⟩) (hm.at' fun o e => off d o h2 e) S h1 h2 .none _ now (fun h' tk acc c as a1 a2 a3 a4 a5 => ?_) hn
  exact k h' tk acc c as (fun b o hb e => a1 b o hb (off b o hb e)) a2 a3 (a4.low (Nat.le_of_lt (Heap.lt_size now))) a5
theorem call_view {Q : Value → Shared → Prop} (hh : A.handled = none) (hv : s.heap.IsItemsView v d) (hm : DT.Raw s.heap d es ep) (hn : es.size ≤ sizeLine)
    (k : ∀ h' tk acc c as, (∀ b o, s.heap.get? b = some o → h'.get? b = some o) → h'.get? s.heap.objs.size = some { cls := .type "list", dict := none, data := .seq acc c, slots := #[] } → as.length = es.size → DT.Made es s.heap.objs.size h' as → acc.toList = as.map Value.ref →
      Q (.ref s.heap.objs.size) { s with heap := h', toks := tk }) : wpAny (model P w) A (call (.type "list") [.ref v]) Q E s := by
  have here : (s.heap.push { cls := .type "list", data := .seq #[] }).get? s.heap.objs.size = some { cls := .type "list", data := .seq #[] } := Heap.get?_push_size _ rfl
  have lv : v < s.heap.objs.size := let ⟨_, e, _⟩ := hv; Heap.lt_size e
  refine callType_codes (Q₁ := fun ob t => ob = .ref s.heap.objs.size ∧ t = { s with heap := s.heap.push { cls := .type "list", data := .seq #[] } }) PySem.F.called_list (PySem.F.typeCall_list_1 _) PySem.F.entry_list_init (code_list_new _ ⟨rfl, rfl⟩) fun ob t q => ?_
  obtain ⟨rfl, rfl⟩ := q
  refine ⟨⟨_, here, rfl⟩, PySem.F.args_list_init_2 _ _, ?_⟩
  refine init_view (es := es) (ep := ep) (A := A.in1) hh (let ⟨o, e, x⟩ := hv; ⟨o, Heap.get?_push_of_some _ e, x⟩) (hm.push _) (Nat.ne_of_gt lv) (Nat.ne_of_lt hm.lt) hn here fun h' tk acc c as a1 a2 a3 a4 a5 => ?_
  exact ⟨rfl, k h' tk acc c as (fun b o e => a1 b o (Nat.ne_of_lt (Heap.lt_size e)) (Heap.get?_push_of_some _ e)) a2 a3 a4 a5⟩
end
end Mini

set_option Elab.async false
set_option linter.all false
set_option maxRecDepth 100000
set_option maxHeartbeats 4000000
namespace Mini
open PySem L2
/-- pairs, each as a tuple at an address of its own -/
noncomputable def putP : Hp → List Addr → List (V × V) → Hp
  | H, a :: as, q :: qs => putP (upd H a (.tup [q.1, q.2])) as qs
  | H, _, _ => H
theorem putP_off {b : Addr} : ∀ (as : List Addr) (qs : List (V × V)) (H : Hp), b ∉ as → putP H as qs b = H b
  | [], _, _, _ => rfl
  | _ :: _, [], _, _ => rfl
  | a :: as, q :: qs, H, h => by
    rw [putP, putP_off as qs _ (fun z => h (List.mem_cons_of_mem _ z)), upd_ne fun z => h (by rw [z]; exact List.mem_cons_self)]
theorem putP_at : ∀ (as : List Addr) (qs : List (V × V)) (H : Hp), as.Nodup → ∀ (j : Nat) (a : Addr) (q : V × V), as[j]? = some a → qs[j]? = some q → putP H as qs a = some (.tup [q.1, q.2])
  | [], _, _, _, _, _, _, h, _ => by simp at h
  | _ :: _, [], _, _, _, _, _, _, h => by simp at h
  | a :: as, q :: qs, H, hn, 0, b, r, h, g => by
    cases Option.some.inj h
    cases Option.some.inj g
    rw [putP, putP_off as qs _ (List.nodup_cons.mp hn).1, upd_same]
  | a :: as, q :: qs, H, hn, j + 1, b, r, h, g => by
    rw [putP]
    exact putP_at as qs _ (List.nodup_cons.mp hn).2 j b r h g
section
variable {X : Cx} {e : Expr} {te : TE} {p apos cpos pos : Pos}
theorem laid_pairs {pins : List (Addr × Obj)} {σ : L2.St} {H : Hp} {s : Shared} {h' : Heap} {tk c : Nat} {kvs : List (List Key × V)} {xs : List (List Key × Addr × Value)} {es : Array DictEntry} {acc : Array Value} {as : List Addr} (I : Inv X pins σ H s)
    (hz : kvs.length ≤ sizeLine) (kt : KT H kvs xs) (he : es.toList = xs.map (entryOfKey (tupleKind (mixKind X.prog X.w)))) (hk : ∀ b o, s.heap.get? b = some o → h'.get? b = some o)
    (hS : h'.get? s.heap.objs.size = some { cls := .type "list", dict := none, data := .seq acc c, slots := #[] }) (hl : as.length = es.size) (hG : DT.Made es s.heap.objs.size h' as) (hacc : acc.toList = as.map Value.ref) :
    ∃ H' : Hp, (∀ b o, H b = some o → H' b = some o) ∧ H s.heap.objs.size = none ∧ (∀ t ∈ as, H t = none) ∧ s.heap.objs.size ∉ as ∧ H' s.heap.objs.size = some (.lst (as.map V.ref)) ∧
      Paired (fun (t : Addr) (q : List Key × V) => ∃ b, H' b = some (.tup (q.1.map kV)) ∧ H' t = some (.tup [V.ref b, q.2])) as kvs ∧ Inv X pins σ H' { s with heap := h', toks := tk } := by
  have n1 : kvs.length = xs.length := Paired.length kt
  have n2 : es.size = xs.length := by have := congrArg List.length he; simpa using this
  have far : s.heap.objs.size ∉ as := fun z => Nat.lt_irrefl _ (hG.above _ z)
  have once : as.Nodup := List.Pairwise.imp (fun {a b} (h : a < b) => Nat.ne_of_lt h) hG.rise
  have free : ∀ t ∈ as, H t = none := fun t ht => I.hok.fresh (Nat.le_of_lt (hG.above t ht))
  have free0 : H s.heap.objs.size = none := I.hok.fresh (Nat.le_refl _)
  generalize hqs : (kvs.zip xs).map (fun z => (V.ref z.2.2.1, z.1.2)) = qs
  have atq : ∀ (j : Nat) (k : List Key × V) (x : List Key × Addr × Value), kvs[j]? = some k → xs[j]? = some x → qs[j]? = some (V.ref x.2.1, k.2) := fun j k x e1 e2 => by
    have ez : (kvs.zip xs)[j]? = some (k, x) := List.getElem?_zip_eq_some.mpr ⟨e1, e2⟩
    rw [← hqs, List.getElem?_map, ez]
    rfl
  generalize hL : putP (upd H s.heap.objs.size (.lst (as.map V.ref))) as qs = L
  have offL : ∀ b, b ∉ as → b ≠ s.heap.objs.size → L b = H b := fun b h1 h2 => by rw [← hL, putP_off as qs _ h1, upd_ne h2]
  have onL : ∀ (j : Nat) (t : Addr), as[j]? = some t → ∃ k x, kvs[j]? = some k ∧ xs[j]? = some x ∧ (k.1 = x.1 ∧ H x.2.1 = some (.tup (k.1.map kV)) ∧ RelV k.2 x.2.2) ∧ L t = some (.tup [V.ref x.2.1, k.2]) := fun j t ht => by
    have lt : j < kvs.length := by have := (List.getElem?_eq_some_iff.mp ht).1; omega
    have e1 : kvs[j]? = some kvs[j] := List.getElem?_eq_getElem lt
    obtain ⟨x, e2, e3⟩ := LiI.paired_get kt e1
    exact ⟨_, x, e1, e2, e3, by rw [← hL]; exact putP_at as qs _ once j t _ ht (atq j _ x e1 e2)⟩
  have listL : L s.heap.objs.size = some (.lst (as.map V.ref)) := by rw [← hL, putP_off as qs _ far, upd_same]
  have kp : ∀ b u, H b = some u → L b = some u := fun b u e => by
    rw [offL b (fun z => by rw [free b z] at e; cases e) (fun z => by rw [z, free0] at e; cases e)]
    exact e
  have low : ∀ b o, s.heap.get? b = some o → b ∉ as ∧ b ≠ s.heap.objs.size := fun b o e => ⟨fun z => absurd (Heap.lt_size e) (Nat.not_lt.mpr (Nat.le_of_lt (hG.above b z))), Nat.ne_of_lt (Heap.lt_size e)⟩
  refine ⟨L, kp, free0, free, far, listL, ?_, ?_⟩
  · have gen : ∀ (as' : List Addr) (kvs' : List (List Key × V)) (i : Nat), as'.length = kvs'.length → (∀ j, as'[j]? = as[i + j]?) → (∀ j, kvs'[j]? = kvs[i + j]?) → Paired (fun (t : Addr) (q : List Key × V) => ∃ b, L b = some (.tup (q.1.map kV)) ∧ L t = some (.tup [V.ref b, q.2])) as' kvs' := fun as' => by
      induction as' with
      | nil => intro kvs' i h1 _ _; cases kvs' with | nil => exact .nil | cons _ _ => cases h1
      | cons t as' ih =>
        intro kvs' i h1 h2 h3
        cases kvs' with
        | nil => cases h1
        | cons q kvs' =>
          have e0 := (h2 0).symm
          have g0 := (h3 0).symm
          obtain ⟨k, x, f1, f2, f3, f4⟩ := onL (i + 0) t e0
          rw [g0] at f1
          cases Option.some.inj f1
          refine .cons ⟨x.2.1, kp _ _ f3.2.1, f4⟩ (ih kvs' (i + 1) (Nat.succ.inj h1) (fun j => ?_) fun j => ?_)
          · rw [show i + 1 + j = i + (j + 1) by omega, ← h2 (j + 1)]; rfl
          · rw [show i + 1 + j = i + (j + 1) by omega, ← h3 (j + 1)]; rfl
    exact gen as kvs 0 (by omega) (fun j => by rw [Nat.zero_add]) fun j => by rw [Nat.zero_add]
  · refine I.call' (ch := []) rfl ⟨fun b o q _ _ _ => hk b o q, fun b o q _ _ _ => ⟨o.slots, hk b o q⟩, fun b o q n _ => ?_, fun b o q _ => ⟨o, hk b o q⟩, fun b ys q => kp b _ q, fun b o u q => kp b _ q, fun b ys q => ⟨#[], by rw [kp b _ q]; simp⟩⟩ (fun b u q => ?_) I.bare fun b z => by simp at z
    · obtain ⟨z1, z2⟩ := low b o q
      rw [offL b z1 z2]
      exact n
    · by_cases hb : b ∈ as
      · obtain ⟨j, hj⟩ := List.mem_iff_getElem?.mp hb
        obtain ⟨k, x, f1, f2, f3, f4⟩ := onL j b hj
        rw [f4] at q
        cases q
        obtain ⟨en, g1, g2⟩ := hG.pairs j b hj
        have g3 : en = entryOfKey (tupleKind (mixKind X.prog X.w)) x := by
          have : es.toList[j]? = some en := by rw [Array.getElem?_toList]; exact g1
          rw [he, List.getElem?_map, f2] at this
          exact (Option.some.inj this).symm
        subst g3
        exact ⟨by show 2 ≤ sizeLine; decide, [_, _], .cons rfl (.cons f3.2.2 .nil), ⟨_, g2, rfl, _, rfl⟩⟩
      · by_cases hb2 : b = s.heap.objs.size
        · rw [hb2] at q ⊢
          rw [listL] at q
          cases q
          refine ⟨by rw [List.length_map]; omega, acc.toList, c, by rw [hacc]; exact LiI.vals_refs as, ?_⟩
          rw [Array.toArray_toList]
          exact hS
        · rw [offL b hb hb2] at q
          exact (I.hok b u q).stay (fun d v _ y => hk d v y) (fun d y => kp d _ y) fun d ys y => kp d _ y
noncomputable def rItemsT : V → Hp → VK → Prop := fun x H Q => ∃ (d : Addr) (kvs : List (List Key × V)), x = .ref d ∧ H d = some (.dT kvs) ∧
  ∀ (H' : Hp) (p : Addr) (ts : List Addr), (∀ b o, H b = some o → H' b = some o) → H p = none → (∀ t ∈ ts, H t = none) → p ∉ ts → H' p = some (.lst (ts.map V.ref)) → Paired (fun (t : Addr) (q : List Key × V) => ∃ b, H' b = some (.tup (q.1.map kV)) ∧ H' t = some (.tup [V.ref b, q.2])) ts kvs → Q (.ref p) H'
/-- list(e.items()), e with tuples as keys -/
theorem pe_itemsT (hc : X.calm = true) (he : PE X e te) (hg : Gl X "list") (hm : X.mg "list" = none) (hv : bootBuiltins "list" = some (.type "list")) (hbase : attributeBase e "items" X.env (eval e X.env) = eval e X.env) (hline : (apos.endLine == cpos.line) = true) :
    PE X (.Call (.Name "list" p) [.Call (.Attribute e "items" apos) [] [] cpos] [] pos) (fun σ H Q => te σ H fun x H1 => rItemsT x H1 Q) := by
  have hs : starEach [.Call (.Attribute e "items" apos) [] [] cpos] X.env = (false, eval (.Call (.Attribute e "items" apos) [] [] cpos) X.env) :: starEach [] X.env := rfl
  refine ⟨fun pins s σ H Q I hq => wpAny_Call_Name_kw (ld_blt I hg hm hv (PyProof.Rows.callWith_type1 ?_ hs rfl))⟩
  rw [hs]
  refine (show wpAny _ _ (spliced ((false, eval (.Call (.Attribute e "items" apos) [] [] cpos) X.env) :: backTo pos (starEach [] X.env))) _ _ s from Calls.spliced_cons ?_)
  refine wpAny_Call_method (T := "dict") (id := "dict.items") hbase rfl hline F.plainAttrs_dict F.slot_dict_items F.type_dict_items (thn (he.run pins s σ H _ I hq) fun u t ⟨x, H1, I1, rx, d, kvs, ex, hd, q⟩ => ?_)
  subst ex
  obtain rfl : u = Value.ref d := rx
  obtain ⟨hz, hsys, xs, kt, o, es, ep, ho, hx, hdat, hes, _⟩ := dt_of I1.hok hd
  have raw : DT.Raw t.heap d es ep := ⟨o, ho, hx, hdat⟩
  have n1 : kvs.length = xs.length := Paired.length kt
  have n2 : es.size = xs.length := by have := congrArg List.length hes; simpa using this
  have I2 : Inv X pins σ H1 { t with heap := t.heap.push { cls := .type "dict_items", data := .fields #[.ref d] } } := I1.kept (t' := t.toks) fun b ob z => Heap.get?_push_of_some _ z
  refine ⟨raw.typeIs, fun b z => by cases z; exact ⟨o, ho, hx.2.1⟩, ?_⟩
  show wpAny _ _ (callWith cpos (.builtin "dict.items") [.ref d] [] []) _ X.xe t
  refine method_meetsIn F.slot_dict_items F.entry_dict_items rfl (PySem.evalArgs_none ⟨rfl, raw.typeIs, F.args_dict_items_1 _, _, DT.meetsItems (es := es) (ep := ep) hsys, ⟨raw, ?_⟩⟩)
  refine Calls.spliced_nil (call_view (es := es) (ep := ep) (I1.ok.hd hc) ⟨_, Heap.get?_push_size _ rfl, rfl, rfl⟩ (raw.push _) (by omega) fun h' tk acc c as hk hS hl hG hacc => ?_)
  obtain ⟨H', k1, k2, k3, k4, k5, k6, J⟩ := laid_pairs (tk := tk) I2 hz kt hes hk hS hl hG hacc
  exact ⟨.ref _, H', J, rfl, q H' _ as k1 k2 k3 k4 k5 k6⟩
end
theorem denL_keys {W : Wd} {H : Hp} {M : Zone} : ∀ ks : List Key, DenL W H M (ks.map kD) (ks.map kV)
  | [] => .nil
  | .inl i :: ks => .cons (.int i) (denL_keys ks)
  | .inr x :: ks => .cons (.str x) (denL_keys ks)
theorem items_denT {W : Wd} {H H' : Hp} {M M' : Zone} : ∀ {ts : List Addr} {kvs : List (List Key × V)} {ds : List D}, DenL W H M ds (kvs.map (·.2)) → Fr Z0 H H' → (∀ b, M' b → M b ∨ H b = none) →
    Paired (fun (t : Addr) (q : List Key × V) => ∃ b, H' b = some (.tup (q.1.map kV)) ∧ H' t = some (.tup [V.ref b, q.2])) ts kvs → DenL W H' M' (((kvs.map (·.1)).zip ds).map fun q => .tup [.tup (q.1.map kD), q.2]) (ts.map V.ref)
  | [], [], ds, l, f, hm, P => by cases l; exact .nil
  | t :: ts, (k, u) :: kvs, ds, l, f, hm, P => by
    cases l with
    | cons h l =>
      cases P with
      | cons e P =>
        obtain ⟨b, e1, e2⟩ := e
        exact .cons (.tup e2 trivial (.cons (.tup e1 trivial (denL_keys k)) (.cons (h.step f (fun _ z => z.elim) hm) .nil))) (items_denT l f hm P)
  | [], _ :: _, _, _, _, _, P => by cases P
  | _ :: _, [], _, _, _, _, P => by cases P
theorem pe_or {X : Cx} {e : Expr} {t t' : TE} (h : PE X e t) (h' : PE X e t') : PE X e (fun σ H Q => t σ H Q ∨ t' σ H Q) := ⟨fun pins s σ H Q I q => q.elim (h.run pins s σ H Q I) (h'.run pins s σ H Q I)⟩
section
variable {T : Tb} {C : Cb} {n : Nat} {X : Cx} {sc : Scope}
theorem snd_itl (o : Okay T C n X sc) {a : E} (ha : Snd T C a n X sc) {e : Expr} (h : chk T sc (.itl a) e = true) : PE X e (tE T.W (ev C (.itl a))) := by
  unfold chk at h
  split at h <;> first | (rename_i h0; cases h0; done) | skip
  all_goals first | (cases h; done) | skip
  all_goals first | (rename_i heq; cases heq; done) | skip
  rename_i x p y m ap cp p2 pos
  simp only [Bool.and_eq_true, decide_eq_true_eq] at h
  obtain ⟨⟨⟨⟨⟨⟨rfl, h1⟩, h2⟩, rfl⟩, h4⟩, h5⟩, h6⟩ := h
  refine PE.weak (pe_or (LiI.pe_listItems o.calm (ha.e _ h6) (gl_of o h1) (o.blt _ h2) (by decide +kernel) (base_of h4) h5) (pe_itemsT o.calm (ha.e _ h6) (gl_of o h1) (o.blt _ h2) (by decide +kernel) (base_of h4) h5)) fun σV H Q q => ?_
  obtain ⟨Mo, σ, x, ow, σ', hr, hs, kk⟩ := q
  have hs : ((ev C a σ).bind fun x => (rd x.2.2 x.1).bind fun d => (itemsD d).bind fun l => .ok (.v (.lst l), true, x.2.2)) = .ok (x, ow, σ') := hs
  obtain ⟨⟨x1, o1, σ1⟩, g1, hs⟩ := bind_inv hs
  obtain ⟨d, g2, hs⟩ := bind_inv hs
  obtain ⟨l, g3, hs⟩ := bind_inv hs
  cases hs
  unfold itemsD at g3
  split at g3
  · cases g3
    refine .inl ⟨Mo, σ, x1, o1, _, hr, g1, fun v H' p => ?_⟩
    obtain ⟨b, kvs, rfl, hb, rfl, la⟩ := (p.val.rd p.rel g2).dic
    refine ⟨b, kvs, rfl, hb, fun H2 q ts kp hq ht hqt e1 P => kk _ _ (p.new ⟨fun c u e _ => kp c u e, q, rfl, hq, .lst e1 ?_⟩)⟩
    refine items_den la (fun c u e _ => kp c u e) (fun c z => z.elim .inl fun z => .inr (by rw [z]; exact hq)) (fun t hts z => ?_) P
    rcases z with z | z
    · exact p.rel.mu_tr z (ht t hts)
    · exact hqt (by rw [← z]; exact hts)
  · cases g3
    refine .inr ⟨Mo, σ, x1, o1, _, hr, g1, fun v H' p => ?_⟩
    obtain ⟨b, kvs, rfl, hb, rfl, la⟩ := (p.val.rd p.rel g2).dit
    refine ⟨b, kvs, rfl, hb, fun H2 q ts kp hq ht hqt e1 P => kk _ _ (p.new ⟨fun c u e _ => kp c u e, q, rfl, hq, .lst e1 ?_⟩)⟩
    exact items_denT la (fun c u e _ => kp c u e) (fun c z => z.elim .inl fun z => .inr (by rw [z]; exact hq)) P
  · cases g3
end
end Mini

set_option Elab.async false
set_option linter.all false
set_option maxRecDepth 100000
set_option maxHeartbeats 4000000
/-! ## each second item of a tuple; rows with others spread in them -/
namespace Mini
open PySem L2
theorem alt_range {α : Type} (l : List α) : ∀ (n k : Nat), l.length - k ≤ n → (List.range ((l.length - k + 1) / 2)).filterMap (fun m => l[k + 2 * m]?) = altG (l.drop k)
  | 0, k, h => by
    rw [List.drop_eq_nil_of_le (by omega), show (l.length - k + 1) / 2 = 0 by omega]
    rfl
  | n + 1, k, h => by
    by_cases h1 : l.length ≤ k
    · rw [List.drop_eq_nil_of_le h1, show (l.length - k + 1) / 2 = 0 by omega]
      rfl
    have h1 : k < l.length := by omega
    rw [List.drop_eq_getElem_cons h1]
    by_cases h2 : l.length ≤ k + 1
    · rw [List.drop_eq_nil_of_le h2, show (l.length - k + 1) / 2 = 1 by omega]
      simp [List.range_succ, altG, h1]
    have h2 : k + 1 < l.length := by omega
    rw [List.drop_eq_getElem_cons h2]
    rw [show (l.length - k + 1) / 2 = (l.length - (k + 2) + 1) / 2 + 1 by omega, List.range_succ_eq_map, List.filterMap_cons, Nat.mul_zero, Nat.add_zero, List.getElem?_eq_getElem h1, List.filterMap_map]
    show l[k] :: _ = l[k] :: altG (l.drop (k + 1 + 1))
    rw [← alt_range l n (k + 2) (by omega)]
    congr 1
    refine congrArg (fun f => List.filterMap f _) (funext fun m => ?_)
    show l[k + 2 * (m + 1)]? = _
    rw [show k + 2 * (m + 1) = k + 2 + 2 * m by omega]
theorem alt_eq : ∀ l : List D, alt l = altG l
  | [] => rfl
  | [_] => rfl
  | d :: _ :: l => by rw [alt, altG, alt_eq l]
theorem altV_den {W : Wd} {H : Hp} {M : Zone} : ∀ {ds : List D} {vs : List V}, DenL W H M ds vs → DenL W H M (altG ds) (altG vs)
  | [], _, h => by cases h; exact .nil
  | [_], _, h => by
    cases h with
    | cons h l => cases l; exact .cons h .nil
  | d :: e :: l, _, h => by
    cases h with
    | cons h h2 =>
      cases h2 with
      | cons _ l => exact .cons h (altV_den l)
section
variable {prog : Program} {w : World} {A : Around} {E : Value → Shared → Prop} {s : Shared}
theorem lower_part {va : Value} {o : Option Int} {k : Nat} (pa : IsPart va o) (ho : o = none ∧ k = 0 ∨ o = some (k : Int)) (n : Nat) : Builtin.Slice.sliceAdjust o none 2 (n : Int) = (((min k n : Nat) : Int), (n : Int)) := by
  unfold Builtin.Slice.sliceAdjust
  rcases ho with ⟨rfl, rfl⟩ | rfl
  · simp
  · have h1 : ¬ (k : Int) < 0 := by omega
    have h2 : min (k : Int) (n : Int) = ((min k n : Nat) : Int) := by omega
    simp [h1, h2]
theorem applied_two {q : Addr} {va vb vc : Value} {o : Option Int} {k n : Nat} {Q : Int × Int × Nat → Shared → Prop} (hq : s.heap.IsSliceOf q va vb vc) (pa : IsPart va o) (ho : o = none ∧ k = 0 ∨ o = some (k : Int)) (pb : IsPart vb none) (pc : IsPart vc (some 2))
    (h : Q (((min k n : Nat) : Int), 2, (n - k + 1) / 2) s) : wpAny (model prog w) A (Builtin.Slice.sliceApplied (.ref q) (pure (n : Int))) Q E s := by
  obtain ⟨ob, h1, h2, h3⟩ := id hq
  have eP : Builtin.Slice.slicePlaces ((min k n : Nat) : Int) (n : Int) 2 = (n - k + 1) / 2 := by
    unfold Builtin.Slice.slicePlaces
    rw [if_pos (by decide)]
    split <;> omega
  unfold Builtin.Slice.sliceApplied Builtin.Slice.sliceFields
  have g1 := fun {R : Value → Shared → Prop} (k : R va s) => wpAny_field (M := model prog w) (A := A) (E := E) (i := 0) (x := va) (Q := R) h1 h3 rfl k
  have g2 := fun {R : Value → Shared → Prop} (k : R vb s) => wpAny_field (M := model prog w) (A := A) (E := E) (i := 1) (x := vb) (Q := R) h1 h3 rfl k
  have g3 := fun {R : Value → Shared → Prop} (k : R vc s) => wpAny_field (M := model prog w) (A := A) (E := E) (i := 2) (x := vc) (Q := R) h1 h3 rfl k
  refine wpAny_bind (wpAny_bind (g1 (wpAny_bind (g2 (wpAny_bind (g3 (wpAny_pure (wpAny_bind (HT.slicePart_ pc ?_)))))))))
  show wpAny _ _ (if ((2 : Int) == 0) = true then _ else _) _ _ s
  rw [if_neg (by decide)]
  refine wpAny_bind (HT.slicePart_ pa (wpAny_bind (HT.slicePart_ pb (wpAny_bind (wpAny_pure ?_)))))
  show wpAny _ _ (match Builtin.Slice.sliceAdjust o none 2 (n : Int) with | (x, y) => pure (x, (2 : Int), Builtin.Slice.slicePlaces x y 2)) _ _ s
  rw [lower_part pa ho]
  show wpAny _ _ (pure (((min k n : Nat) : Int), (2 : Int), Builtin.Slice.slicePlaces ((min k n : Nat) : Int) (n : Int) 2)) _ _ s
  rw [eP]
  exact wpAny_pure h
theorem two_pick (xs : Array Value) (k : Nat) : ((List.range ((xs.size - k + 1) / 2)).filterMap fun (m : Nat) => xs[(((min k xs.size : Nat) : Int) + (m : Int) * 2).toNat]?).toArray = (altG (xs.toList.drop k)).toArray := by
  congr 1
  rw [← alt_range xs.toList _ k (Nat.le_refl _), Array.length_toList]
  by_cases h : k ≤ xs.size
  · refine congrArg (fun f => List.filterMap f _) (funext fun m => ?_)
    rw [show (((min k xs.size : Nat) : Int) + (m : Int) * 2).toNat = k + 2 * m by omega, Array.getElem?_toList]
  · rw [show (xs.size - k + 1) / 2 = 0 by omega]
    rfl
theorem altG_len {α : Type} : ∀ l : List α, (altG l).length ≤ l.length
  | [] => Nat.le_refl _
  | [_] => Nat.le_refl _
  | d :: e :: l => by
    have := altG_len l
    simp only [altG, List.length_cons]
    omega
theorem item_two {t q : Addr} {xs : Array Value} {va vb vc : Value} {o : Option Int} {k : Nat} {Q : Value → Shared → Prop} (ht : PyProof.Rows.IsTup s.heap t xs) (hq : s.heap.IsSliceOf q va vb vc) (pa : IsPart va o) (ho : o = none ∧ k = 0 ∨ o = some (k : Int)) (pb : IsPart vb none) (pc : IsPart vc (some 2))
    (hz : xs.size ≤ sizeLine) (h : Q (.ref s.heap.objs.size) { s with heap := s.heap.push { cls := .type "tuple", data := .seq (altG (xs.toList.drop k)).toArray } }) : wpAny (model prog w) A (getItem (.ref t) (.ref q)) Q E s := by
  have fit : PySem.sizeOk (.seq (altG (xs.toList.drop k)).toArray) := by
    show (altG (xs.toList.drop k)).toArray.size ≤ sizeLine
    have h1 := altG_len (xs.toList.drop k)
    simp only [List.length_drop, Array.length_toList] at h1
    rw [List.size_toArray]
    omega
  obtain ⟨ob, h1, h2, h3⟩ := id hq
  have hT : s.TypeIs (.ref q) "slice" := ⟨ob, h1, h2⟩
  have no : ¬ ((((min k xs.size : Nat) : Int) == 0 && (2 : Int) == 1 && (xs.size - k + 1) / 2 == xs.size) = true) := by simp
  unfold getItem
  try with_reducible refine wpAny_holding ?_
  first | refine wpAny_bind (wpAny_pure ?_) | skip
  refine wpAny_bind (wpAny_sequenceKey ht.typeIs (by decide) (wpAny_bind (wpAny_callSpecial?_slot (name := Str.ofString "__getitem__") ht.typeIs PyProof.Rows.slot_tuple_getitem (wpAny_call_entry PyProof.Rows.slot_tuple_getitem ht.typeIs PyProof.Rows.entry_tuple_getitem ?_ (PyProof.Rows.args_tuple_getitem _ _)))))
  show wpAny _ _ (Builtin.Tuple.tupleItemsOf (.ref t) >>= _) _ _ s
  refine wpAny_bind (PyProof.Rows.tupleItemsOf_ ht (wpAny_bind (wpAny_typeOf hT ?_)))
  rw [if_pos (by decide)]
  refine wpAny_bind (applied_two (n := xs.size) hq pa ho pb pc ?_)
  show wpAny _ _ (if (((min k xs.size : Nat) : Int) == 0 && (2 : Int) == 1 && (xs.size - k + 1) / 2 == xs.size) = true then _ else _) _ _ s
  rw [if_neg no, two_pick]
  first
    | exact wpAny_bind (m := Builtin.Tuple.tupleExact _) (wpAny_newObj_type (wpAny_pure ⟨_, rfl, wpAny_pure h⟩) fit)
    | exact wpAny_bind (wpAny_bind (m := Builtin.Tuple.tupleExact _) (wpAny_newObj_type (wpAny_pure ⟨_, rfl, wpAny_pure h⟩) fit))
    | exact wpAny_bind (m := Builtin.Tuple.tupleExact _) (wpAny_newObj_type (wpAny_bind (wpAny_pure (wpAny_pure ⟨_, rfl, wpAny_pure h⟩))) fit)
    | exact wpAny_bind (wpAny_bind (m := Builtin.Tuple.tupleExact _) (wpAny_newObj_type (wpAny_pure (wpAny_pure ⟨_, rfl, wpAny_pure h⟩)) fit))
end
/-- e[k::2] of a tuple -/
noncomputable def tTwo (K : PySem.W.Frag) (k : Nat) (te : TE) : TE := fun σ H Q => te σ H fun x H1 => ∃ a xs, x = .ref a ∧ SqT K H1 a xs ∧ ∀ p, H1 p = none → Q (.ref p) (upd H1 p (.tup (altG (xs.drop k))))
theorem altG_vals : ∀ {xs : List V} {us : List Value}, Vals xs us → Vals (altG xs) (altG us)
  | [], _, h => by cases h; exact .nil
  | [_], _, h => by
    cases h with
    | cons h l => cases l; exact .cons h .nil
  | d :: e :: l, _, h => by
    cases h with
    | cons h h2 =>
      cases h2 with
      | cons _ l => exact .cons h (altG_vals l)
theorem drop_vals : ∀ {xs : List V} {us : List Value} (k : Nat), Vals xs us → Vals (xs.drop k) (us.drop k)
  | _, _, 0, h => h
  | [], _, k + 1, h => by cases h; exact .nil
  | d :: ds, _, k + 1, h => by
    cases h with
    | cons _ l => exact drop_vals k l
theorem pe_two {X : Cx} {e : Expr} {te : TE} {lo : Option Expr} {k c : Nat} {p1 p3 pos : Pos} (he : PE X e te) (hlo : (lo = none ∧ k = 0) ∨ ∃ m p, lo = some (.Constant (.int (k : Int)) m p)) : PE X (.Subscript e (.Slice lo none (some (.Constant (.int 2) c p1)) p3) pos) (tTwo X.K k te) := by
  refine ⟨fun pins s σ H Q I h => ?_⟩
  refine PyProof.Rows.Subscript_ (thn (he.run pins s σ H _ I h) fun v s1 ⟨x, H1, I1, r1, q1⟩ => ?_)
  obtain ⟨a, xs, rfl, hx, q⟩ := q1
  cases r1
  have hL : ∃ t : Option Int → (L2.St → Hp → (Option Int → Hp → Prop) → Prop), True := ⟨fun _ _ _ _ => True, trivial⟩
  have low : ∃ o : Option Int, (o = none ∧ k = 0 ∨ o = some (k : Int)) ∧ ∃ tl, PO X lo tl ∧ tl σ H1 (fun z H2 => z = o ∧ H2 = H1) := by
    rcases hlo with ⟨rfl, rfl⟩ | ⟨m, p, rfl⟩
    · exact ⟨none, .inl ⟨rfl, rfl⟩, _, po_none, rfl, rfl⟩
    · exact ⟨some (k : Int), .inr rfl, _, po_some pe_int, (k : Int), rfl, rfl, rfl⟩
  obtain ⟨o, ho, tl, hpo, htl⟩ := low
  refine wpAny_Slice (thn (hpo.run pins s1 σ H1 _ I1 htl) fun vl s2 ⟨l, H2, I2, pl, el, e2⟩ => ?_)
  subst el e2
  refine thn (po_none.run pins s2 σ H2 (fun o H3 => o = none ∧ H3 = H2) I2 ⟨rfl, rfl⟩) fun vu s3 ⟨u, H3, I3, pu, eu, e3⟩ => ?_
  cases eu
  cases e3
  have hst : PO X (some (.Constant (.int 2) c p1)) (L2.tPart (tC (.int 2))) := po_some pe_int
  refine thn (hst.run pins s3 σ H2 (fun o H4 => o = some 2 ∧ H4 = H2) I3 ⟨2, rfl, rfl, rfl⟩) fun vs s4 ⟨o', H4, I4, ps, eo, e4⟩ => ?_
  cases eo
  cases e4
  have I5 : Inv X pins σ H2 { s4 with heap := s4.heap.push { cls := .type "slice", data := .fields #[vl, vu, vs] } } := I4.kept (t' := s4.toks) fun b ob q => Heap.get?_push_of_some _ q
  show wpAny (model X.prog X.w) X.A (PyProof.Rows.subscriptTail e (.Slice lo none (some (.Constant (.int 2) c p1)) p3) (.ref a) (.ref s4.heap.objs.size)) (EP X pins σ Q) X.xe { s4 with heap := s4.heap.push { cls := .type "slice", data := .fields #[vl, vu, vs] } }
  obtain ⟨its, r, ht, hz⟩ := I5.tuple hx
  have hlen := r.length
  refine PyProof.Rows.tail_any (ops := [.ref a, .ref s4.heap.objs.size]) ht.typeIs (PyProof.Rows.slot_tuple_getitem.lookup) ?_ (by with_unfolding_all rfl)
  refine item_two (k := k) ht (Heap.IsSliceOf.new _ vl vu vs) pl ho pu ps (by rw [List.size_toArray]; omega) ?_
  refine ⟨.ref _, _, I5.laid (t' := s4.toks) (o := .tup (altG (xs.drop k))) (fun b ob z => Heap.get?_push_of_some _ z) (Nat.le_refl _) ?_, rfl, q _ (I5.hok.fresh (Nat.le_refl _))⟩
  have h1 := altG_len (xs.drop k)
  rw [List.length_drop] at h1
  exact ⟨by omega, _, altG_vals (drop_vals k r), _, Heap.get?_push_size _ rfl, rfl, _, rfl⟩
section
variable {T : Tb} {C : Cb} {n : Nat} {X : Cx} {sc : Scope}
theorem snd_stp (o : Okay T C n X sc) {a : E} {k : Nat} (ha : Snd T C a n X sc) {e : Expr} (h : chk T sc (.stp a k) e = true) : PE X e (tE T.W (ev C (.stp a k))) := by
  unfold chk at h
  split at h <;> first | (rename_i h0; cases h0; done) | skip
  all_goals first | (cases h; done) | skip
  all_goals first | (rename_i heq; cases heq; done) | skip
  rename_i y lo i m p1 p3 pos
  simp only [Bool.and_eq_true, decide_eq_true_eq] at h
  obtain ⟨⟨rfl, h1⟩, h2⟩ := h
  have hlo : (lo = none ∧ k = 0) ∨ ∃ m p, lo = some (.Constant (.int (k : Int)) m p) := by
    split at h1
    · exact .inl ⟨rfl, of_decide_eq_true h1⟩
    · simp only [Bool.and_eq_true, decide_eq_true_eq] at h1
      obtain ⟨rfl, _⟩ := h1
      exact .inr ⟨_, _, rfl⟩
    · cases h1
  refine PE.weak (pe_two (ha.e _ h2) hlo) fun σV H Q q => ?_
  obtain ⟨Mo, σ, x, ow, σ', hr, hs, kk⟩ := q
  have hs : ((ev C a σ).bind fun x => (rd x.2.2 x.1).bind fun d => asD x.2.2 (stpD k d)) = .ok (x, ow, σ') := hs
  obtain ⟨⟨x1, o1, σ1⟩, g1, hs⟩ := bind_inv hs
  obtain ⟨d, g2, hs⟩ := bind_inv hs
  obtain ⟨g, g3, rfl, rfl⟩ := asD_inv hs
  refine ⟨Mo, σ, x1, o1, _, hr, g1, fun v H' p => ?_⟩
  have hd := p.val.rd p.rel g2
  unfold stpD at g3
  split at g3
  · cases g3
    obtain ⟨b, vs, rfl, hb, mb, la⟩ := hd.tup
    refine ⟨b, vs, rfl, .of hb, fun q hq => kk _ _ (p.new (.tup hq (fun z => p.rel.mu_tr z hq) ?_))⟩
    rw [alt_eq]
    exact altV_den (la.drop k)
  · cases g3
/-! rows with others spread in them -/
noncomputable def SPs (T : Tb) (C : Cb) (n : Nat) : E → Prop
  | .cons p l => (∀ a, p = .star a → SndA T C n a) ∧ SPs T C n l
  | _ => True
noncomputable def tS' (W : Wd) (r : Fm → R (List D × Fm)) : TA := fun σV H Q => ∃ Mo σ ds σ', Rel W Mo σ σV H ∧ r σ = .ok (ds, σ') ∧ ∀ vs H', Post W Mo σ σV H (.v .non) false σ' .non H' → DenL W H' (Mu Mo σ' σV) ds vs → Q vs H'
theorem DenL.post {W : Wd} {Mo : Zone} {σ σ' : Fm} {σV : L2.St} {H H' : Hp} {x : Opd} {ow : Bool} {v : V} {ds : List D} {vs : List V} (h : DenL W H (Mu Mo σ σV) ds vs) (p : Post W Mo σ σV H x ow σ' v H') : DenL W H' (Mu Mo σ' σV) ds vs :=
  h.step p.fr (fun _ z => .inr (wrt_le z)) fun b z => .inl (z.elim .inl fun q => .inr (p.mm b q))
theorem evS_plain {C : Cb} {a l : E} (h : ∀ b, a ≠ .star b) (σ : Fm) : evS C (.cons a l) σ = (ev C a σ).bind fun x => (fz x).bind fun x => (evS C l x.2.2).bind fun y => .ok (x.1 :: y.1, y.2) := by
  cases a <;> first | rfl | exact absurd rfl (h _)
theorem pa_sps (o : Okay T C n X sc) : ∀ {l : E} {es : List Expr}, LPs T C n l → SPs T C n l → chkSt T sc l es = true → PA X es (tS' T.W (evS C l))
  | .nil, [], _, _, _ => PA.weak pa_nil fun σV H Q q => by
    obtain ⟨Mo, σ, xs, σ', hr, hs, k⟩ := q
    cases hs
    exact k [] H (.refl hr .non) .nil
  | .cons a l, e :: es, hl, hp, h => by
    by_cases st : ∃ b, a = .star b
    · obtain ⟨b, rfl⟩ := st
      obtain ⟨e, pos, rfl⟩ : ∃ e' pos, e = .Starred e' pos := by
        cases e <;> first | exact ⟨_, _, rfl⟩ | (simp [chkSt, chk] at h)
      · simp only [chkSt, Bool.and_eq_true] at h
        refine PA.weak (StX.pa_star ((hp.1 b rfl X sc o).e _ h.1) (pa_sps o hl.2 hp.2 h.2)) fun σV H Q q => ?_
        obtain ⟨Mo, σ, ds, σ', hr, hs, k⟩ := q
        have hs : ((val (ev C b σ)).bind fun x => (seqD x.1).bind fun ds => (evS C l x.2).bind fun y => .ok (ds ++ y.1, y.2)) = R.ok (ds, σ') := hs
        obtain ⟨⟨d, σ1⟩, g1, hs⟩ := bind_inv hs
        obtain ⟨d1, g2, hs⟩ := bind_inv hs
        obtain ⟨⟨d2, σ2⟩, g3, hs⟩ := bind_inv hs
        cases hs
        obtain ⟨x, o1, g1, g4⟩ := val_inv g1
        refine ⟨Mo, σ, x, o1, σ1, hr, g1, fun v H1 p => ?_⟩
        have hd := p.val.rd p.rel g4
        have fin : ∀ {b : Addr} {vs : List V}, v = .ref b → (SqT X.K H1 b vs ∨ SqL X.K H1 b vs) → DenL T.W H1 (Mu Mo σ1 σV) d1 vs → ∃ p xs, v = V.ref p ∧ (SqT X.K H1 p xs ∨ SqL X.K H1 p xs) ∧ tS' T.W (evS C l) σV H1 fun ys H2 => Q (xs ++ ys) H2 := fun {b vs} e1 e2 la =>
          ⟨b, vs, e1, e2, Mo, σ1, d2, _, p.rel, g3, fun ys H2 p2 lb => k _ _ (p.bare.trans p2) ((la.post p2).append lb)⟩
        have g2 : seqD d = .ok d1 := g2
        cases d <;> cases g2
        · obtain ⟨b, vs, rfl, hb, _, la⟩ := hd.tup
          exact fin rfl (.inl (.of hb)) la
        · obtain ⟨b, vs, rfl, hb, la⟩ := hd.lst
          exact fin rfl (.inr (.of hb)) la
    · have na : ∀ b, a ≠ .star b := fun b z => st ⟨b, z⟩
      have h : chk T sc a e = true ∧ chkSt T sc l es = true := by
        rw [chkSt] at h
        · simpa only [Bool.and_eq_true] using h
        · intro b _ _ z _; exact na b z
      refine PA.weak (pa_cons ((hl.1 X sc o).e _ h.1) (pa_sps o hl.2 hp.2 h.2) (star_plain (chk_plain h.1))) fun σV H Q q => ?_
      obtain ⟨Mo, σ, ds, σ', hr, hs, k⟩ := q
      rw [evS_plain na] at hs
      obtain ⟨⟨x, o1, σ1⟩, g1, hs⟩ := bind_inv hs
      obtain ⟨⟨d, o2, σ2⟩, g2, hs⟩ := bind_inv hs
      obtain ⟨⟨d2, σ3⟩, g3, hs⟩ := bind_inv hs
      cases hs
      refine ⟨Mo, σ, x, o1, σ1, hr, g1, fun v H1 p => ?_⟩
      have p := p.freeze g2
      exact ⟨Mo, σ2, d2, _, p.rel, g3, fun ys H2 p2 lb => k _ _ (p.bare.trans p2) (.cons (VR.step p.val p2) lb)⟩
  | .nil, _ :: _, _, _, h => by simp [chkSt] at h
  | .cons a _, [], _, _, h => by cases a <;> simp [chkSt] at h
  | .var _, es, _, _, h => by cases es <;> simp [chkSt] at h
theorem snd_lss (o : Okay T C n X sc) {l : E} (hl : LPs T C n l) (hp : SPs T C n l) {e : Expr} (h : chk T sc (.lss l) e = true) : PE X e (tE T.W (ev C (.lss l))) := by
  cases e <;> simp only [chk, Bool.false_eq_true] at h
  refine PE.weak (pe_lst (pa_sps o hl hp h)) fun σV H Q q => ?_
  obtain ⟨Mo, σ, x, ow, σ', hr, hs, k⟩ := q
  have hs : ((evS C l σ).bind fun x => (R.guard (sizeOk x.1.length)).bind fun _ => .ok (Opd.v (.lst x.1), true, x.2)) = R.ok (x, ow, σ') := hs
  obtain ⟨⟨ds, σ1⟩, g1, hs⟩ := bind_inv hs
  obtain ⟨g2, hs⟩ := guard_inv hs
  cases hs
  refine ⟨Mo, σ, ds, _, hr, g1, fun vs H1 p la => ⟨?_, fun q hq => k _ _ (p.new (.lst hq la))⟩⟩
  have := la.length
  have g2 : ds.length ≤ 16777216 := of_decide_eq_true g2
  show vs.length ≤ sizeLine
  rw [← this]
  exact g2
end
end Mini

set_option Elab.async false
set_option linter.all false
set_option maxRecDepth 100000
set_option maxHeartbeats 4000000
/-! ## len(set(row of tuples of ints)) -/
namespace Mini
open PySem L2
/-- len of such a set, its members told to be unlike -/
noncomputable def rLenN (P : Program) (w : World) : List V → Hp → VK → Prop := fun xs H Q => ∃ a L, xs = [V.ref a] ∧ H a = some (SetTO P w a L) ∧ ((L.map (·.2)).Nodup → Q (.int L.length) H)
section
variable {X : Cx}
theorem cr_lenN : CallR X (.builtin "len") (rLenN X.prog X.w) := by
  intro pins s σ H xs us Q I r h
  obtain ⟨a, L, e, ha, q⟩ := h
  have nd : (L.map (·.2)).Nodup := by
    obtain ⟨_, _, _, _, _, _, z, _⟩ := (setT_get I ha).ex
    exact z
  exact cr_lenT pins s σ H xs us Q I r ⟨a, L, e, ha, q nd⟩
end
theorem tups_den {K : PySem.W.Frag} {W : Wd} {H : Hp} {M : Zone} : ∀ {l : List D} {vs : List V} {ks : List (List Int)}, DenL W H M l vs → tupIs l = some ks → ∃ ps : TL, vs = ps.map (fun p => V.ref p.1) ∧ ps.map (·.2) = ks ∧ ∀ p ∈ ps, SqT K H p.1 (p.2.map V.int)
  | [], _, _, h, e => by
    cases h
    cases e
    exact ⟨[], rfl, rfl, fun p hp => absurd hp List.not_mem_nil⟩
  | d :: l, v :: vs, _, .cons h1 h2, e => by
    unfold tupIs at e
    obtain ⟨k, e1, e⟩ := Option.bind_eq_some_iff.mp e
    obtain ⟨ks, e2, rfl⟩ := Option.map_eq_some_iff.mp e
    obtain ⟨ps, g1, g2, g3⟩ := tups_den (K := K) h2 e2
    obtain rfl := tupI_inv e1
    obtain ⟨a, hv⟩ : ∃ a, v = V.ref a := by
      cases h1 with
      | tup => exact ⟨_, rfl⟩
    subst hv
    refine ⟨(a, k) :: ps, by rw [g1]; rfl, by rw [← g2]; rfl, fun p hp => ?_⟩
    rcases List.mem_cons.mp hp with z | z
    · rw [z]
      exact den_sqT h1
    · exact g3 p z
section
variable {T : Tb} {C : Cb} {n : Nat} {X : Cx} {sc : Scope}
theorem snd_lsn (o : Okay T C n X sc) {a : E} (ha : Snd T C a n X sc) {e : Expr} (h : chk T sc (.lsn a) e = true) : PE X e (tE T.W (ev C (.lsn a))) := by
  unfold chk at h
  split at h <;> first | (rename_i h0; cases h0; done) | skip
  all_goals first | (cases h; done) | skip
  all_goals first | (rename_i heq; cases heq; done) | skip
  rename_i z pz x p y p2 pos
  simp only [Bool.and_eq_true, decide_eq_true_eq] at h
  obtain ⟨⟨⟨⟨⟨⟨rfl, f1⟩, f2⟩, rfl⟩, h1⟩, h2⟩, h6⟩ := h
  have pl := chk_plain h6
  have hu : X.A.units + 64 < cLine := by have := o.hu; omega
  have hs := fun pp qq => pe_callTy (p := pp) (pos := qq) (cr_setOfT o.calm hu) (gl_of o h1) (o.blt _ h2) (by decide +kernel) (pa_cons (ha.e _ h6) pa_nil (star_plain pl)) (by decide) (by decide) (star_plain pl) (by rfl)
  refine PE.weak (pe_callB cr_lenN (gl_of o f1) (o.blt _ f2) (by decide +kernel) (pa_cons (hs _ _) pa_nil rfl) (by decide) (by decide) rfl (by rfl)) fun σV H Q q => ?_
  obtain ⟨Mo, σ, x, ow, σ', hr, hs, kk⟩ := q
  have hs : ((ev C a σ).bind fun x => (rd x.2.2 x.1).bind fun d => (lsnD d).bind fun n => .ok (Opd.v (.int n), false, x.2.2)) = .ok (x, ow, σ') := hs
  obtain ⟨⟨x1, o1, σ1⟩, g1, hs⟩ := bind_inv hs
  obtain ⟨d, g2, hs⟩ := bind_inv hs
  obtain ⟨cnt, g3, hs⟩ := bind_inv hs
  cases hs
  refine ⟨Mo, σ, x1, o1, _, hr, g1, fun v H' p => ?_⟩
  have hd := p.val.rd p.rel g2
  unfold lsnD at g3
  split at g3
  · obtain ⟨ks, t1, t2, t3⟩ := lenSet_inv g3
    subst t3
    obtain ⟨b, vs, rfl, hb, la⟩ := hd.lst
    obtain ⟨ps, e1, e2, e3⟩ := tups_den (K := X.K) la t1
    subst e1
    have hl : ps.length < 64 := by
      have := congrArg List.length e2
      rw [List.length_map] at this
      omega
    refine ⟨b, ps, rfl, .of hb, e3, hl, fun q L hq h3 h4 => ⟨q, L, rfl, upd_same, fun nd => ?_⟩⟩
    have hn : L.length = unlike ks := by
      rw [← List.length_map (f := fun p : Addr × List Int => p.2)]
      refine unlike_len nd fun k => ?_
      rw [← e2]
      constructor
      · intro hk
        obtain ⟨p, hp, e⟩ := List.mem_map.mp hk
        exact List.mem_map.mpr ⟨p, h3 p hp, e⟩
      · intro hk
        obtain ⟨p, hp, e⟩ := List.mem_map.mp hk
        rw [← e]
        exact h4 p hp
    rw [hn]
    refine kk _ _ (p.new ⟨fun c u e _ => ?_, .int _⟩)
    have n2 : c ≠ q := fun z => by rw [z, hq] at e; cases e
    rw [upd_ne n2]
    exact e
  · cases g3
end
end Mini

set_option Elab.async false
set_option linter.all false
set_option maxRecDepth 100000
set_option maxHeartbeats 8000000
/-! ## all expressions -/
namespace Mini
open PySem L2
noncomputable def tstE : Expr → Bool
  | .BoolOp _ _ _ => false | .Compare _ _ _ _ => false | .IfExp _ _ _ _ => false | .UnaryOp .Not _ _ => false | _ => true
theorem true_plain {e : Expr} {env : PySem.Env} (h : tstE e = true) (whole : Sem Value) : isTrue e env whole = (do let v ← whole; standAt e.pos; holding [v] (truthy v)) := by
  cases e <;> first | rfl | (simp [tstE] at h; done) | skip
  rename_i op x pos
  cases op <;> first | rfl | (simp [tstE] at h; done)
theorem pt_ife {X : Cx} {t a b : Expr} {pos : Pos} {tt ta tb : TT} (ht : PT X t tt) (ha : PT X a ta) (hb : PT X b tb) : PT X (.IfExp t a b pos) (fun σ H Q => tt σ H fun c H1 => if c = true then ta σ H1 Q else tb σ H1 Q) := by
  refine ⟨fun pins s σ H Q I h => ?_⟩
  show wpAny _ _ (do if ← isTrue t X.env (eval t X.env) then isTrue a X.env (eval a X.env) else isTrue b X.env (eval b X.env)) _ _ _
  refine wpAny_bind (thn (ht.run pins s σ H _ I h) fun c s1 ⟨H1, I1, q⟩ => ?_)
  cases c with
  | true => exact ha.run pins s1 σ H1 Q I1 q
  | false => exact hb.run pins s1 σ H1 Q I1 q
section
variable {T : Tb} {C : Cb} {n : Nat}
theorem snd_cmp2 {X : Cx} {sc : Scope} (o : Okay T C n X sc) {o1 o2 : CmpOp} {a b c : E} (ha : Snd T C a n X sc) (hb : Snd T C b n X sc) (hc : Snd T C c n X sc) {e : Expr} (h : chk T sc (.cmp2 o1 o2 a b c) e = true) :
    PE X e (tE T.W (ev C (.cmp2 o1 o2 a b c))) ∧ PT X e (tT T.W fun σ => tst (ev C (.cmp2 o1 o2 a b c) σ)) := by
  cases e with
  | Compare x ops ys pos =>
    match ops, ys, h with
    | [p1, p2], [y, z], h =>
      simp only [chk, Bool.and_eq_true, decide_eq_true_eq] at h
      obtain ⟨⟨⟨⟨⟨⟨rfl, rfl⟩, h3⟩, h4⟩, h5⟩, h6⟩, h7⟩ := h
      have hm : lastMarks [o1, o2] [y, z] = false := mark_plain (chk_plain h7)
      have read : ∀ σV H Q, tE T.W (ev C (.cmp2 o1 o2 a b c)) σV H Q → tChain (rCmp T.W o1) (rCmp T.W o2) (tE T.W (ev C a)) (tE T.W (ev C b)) (tE T.W (ev C c)) σV H Q := fun σV H Q q => by
        obtain ⟨Mo, σ, x, ow, σ', hr, hs, k⟩ := q
        have hs : ((ev C a σ).bind fun x => (ev C b x.2.2).bind fun y => (rd y.2.2 x.1).bind fun d => (rd y.2.2 y.1).bind fun e => (cmpop o1 d e).bind fun k =>
          if k then (ev C c y.2.2).bind fun z => (rd z.2.2 y.1).bind fun e' => (rd z.2.2 z.1).bind fun g => asB z.2.2 (cmpop o2 e' g) else .ok (.v (.bl false), false, y.2.2)) = R.ok (x, ow, σ') := hs
        obtain ⟨⟨x1, w1, σ1⟩, g1, hs⟩ := bind_inv hs
        obtain ⟨⟨x2, w2, σ2⟩, g2, hs⟩ := bind_inv hs
        obtain ⟨d, g3, hs⟩ := bind_inv hs
        obtain ⟨e, g4, hs⟩ := bind_inv hs
        obtain ⟨kk, g5, hs⟩ := bind_inv hs
        refine ⟨Mo, σ, x1, w1, σ1, hr, g1, fun v1 H1 p1 => ⟨Mo, σ1, x2, w2, σ2, p1.rel, g2, fun v2 H2 p2 => ?_⟩⟩
        refine ⟨Mu Mo σ2 σV, d, e, kk, (p1.val.step p2).rd p2.rel g3, p2.val.rd p2.rel g4, g5, kk, rfl, ?_⟩
        cases kk with
        | false =>
          cases hs
          exact iteF (k _ _ ((p1.trans p2).new (.same (.bl false))))
        | true =>
          have hs : ((ev C c σ2).bind fun z => (rd z.2.2 x2).bind fun e' => (rd z.2.2 z.1).bind fun g => asB z.2.2 (cmpop o2 e' g)) = R.ok (x, ow, σ') := hs
          obtain ⟨⟨x3, w3, σ3⟩, g6, hs⟩ := bind_inv hs
          obtain ⟨e', g7, hs⟩ := bind_inv hs
          obtain ⟨g, g8, hs⟩ := bind_inv hs
          obtain ⟨bb, g9, rfl, rfl, rfl⟩ := asB_inv hs
          refine iteT ⟨Mo, σ2, x3, w3, _, p2.rel, g6, fun v3 H3 p3 => ?_⟩
          exact ⟨Mu Mo _ σV, e', g, bb, (p2.val.step p3).rd p3.rel g7, p3.val.rd p3.rel g8, g9, k _ _ (((p1.trans p2).trans p3).new (.same (.bl bb)))⟩
      have hu : X.A.units + 64 < cLine := by have := o.hu; omega
      refine ⟨PE.weak (pe_chain (opR_cmp o.K hu o1) (opR_cmp o.K hu o2) (ha.e _ h5) (hb.e _ h6) (hc.e _ h7) hm) read, PT.weak (pt_chain (opR_cmp o.K hu o1) (opR_cmp o.K hu o2) (ha.e _ h5) (hb.e _ h6) (hc.e _ h7) hm) fun σV H Q q => ?_⟩
      refine read σV H _ ?_
      obtain ⟨Mo, σ, b', σ', hr, hs, k⟩ := q
      obtain ⟨x, ow, d, g1, g2, g3⟩ := tst_inv hs
      refine ⟨Mo, σ, x, ow, σ', hr, g1, fun v H' p => ?_⟩
      have isb : ∃ b2, x = .v (.bl b2) := by
        have hs : ((ev C a σ).bind fun x => (ev C b x.2.2).bind fun y => (rd y.2.2 x.1).bind fun d => (rd y.2.2 y.1).bind fun e => (cmpop o1 d e).bind fun k =>
          if k then (ev C c y.2.2).bind fun z => (rd z.2.2 y.1).bind fun e' => (rd z.2.2 z.1).bind fun g => asB z.2.2 (cmpop o2 e' g) else .ok (.v (.bl false), false, y.2.2)) = R.ok (x, ow, σ') := g1
        obtain ⟨_, _, hs⟩ := bind_inv hs
        obtain ⟨_, _, hs⟩ := bind_inv hs
        obtain ⟨_, _, hs⟩ := bind_inv hs
        obtain ⟨_, _, hs⟩ := bind_inv hs
        obtain ⟨kk, _, hs⟩ := bind_inv hs
        cases kk with
        | false => cases hs; exact ⟨_, rfl⟩
        | true =>
          rw [if_pos rfl] at hs
          obtain ⟨_, _, hs⟩ := bind_inv hs
          obtain ⟨_, _, hs⟩ := bind_inv hs
          obtain ⟨_, _, hs⟩ := bind_inv hs
          obtain ⟨bb, _, e, _, _⟩ := asB_inv hs
          exact ⟨bb, e⟩
      obtain ⟨b2, rfl⟩ := isb
      cases g2
      cases g3
      have hv : Den T.W H' (Mu Mo σ' σV) (.bl b') v := p.val.drop
      cases hv
      exact ⟨b', rfl, k H' p.bare⟩
    | [], _, h => simp [chk] at h
    | [_], _, h => simp [chk] at h
    | _ :: _ :: _ :: _, _, h => simp [chk] at h
    | [_, _], [], h => simp [chk] at h
    | [_, _], [_], h => simp [chk] at h
    | [_, _], _ :: _ :: _ :: _, h => simp [chk] at h
  | _ => simp [chk] at h
noncomputable def Cmp (T : Tb) (C : Cb) (n : Nat) : E → Prop
  | .cons a m => SndA T C n a ∧ SndA T C n m ∧ (∀ b m', m = .cons b m' → SndA T C n b) ∧ JP T C n (.cons a m) ∧ LPs T C n (.cons a m) ∧ SPs T C n (.cons a m)
  | .itm a => SndA T C n a
  | .enum a => SndA T C n a
  | .zip a b => SndA T C n a ∧ SndA T C n b
  | .star a => SndA T C n a
  | .range l => SndA T C n l
  | .fmt a => SndA T C n a
  | _ => True
theorem jp_of {l : E} (h : Cmp T C n l) : JP T C n l := by
  cases l <;> first | trivial | exact h.2.2.2.1
theorem lp_of {l : E} (h : Cmp T C n l) : LPs T C n l := by
  cases l <;> first | trivial | exact h.2.2.2.2.1
theorem sp_of {l : E} (h : Cmp T C n l) : SPs T C n l := by
  cases l <;> first | trivial | exact h.2.2.2.2.2
theorem it_of {it : E} (h : Cmp T C n it) (X : Cx) (sc : Scope) (o : Okay T C n X sc) : ∀ a, a ∈ subI it → Snd T C a n X sc := by
  cases it <;> simp only [subI, List.not_mem_nil, false_implies, implies_true, List.mem_cons, or_false, forall_eq, forall_eq_or_imp] <;> first | exact h X sc o | exact ⟨h.1 X sc o, h.2 X sc o⟩
theorem noL {T : Tb} {sc : Scope} {c : E} {es : List Expr} (h : chkL T sc c es = true) (h1 : c ≠ .nil) (h2 : ∀ a l, c ≠ .cons a l) : False := by
  cases c <;> first | exact h1 rfl | exact h2 _ _ rfl | (cases es <;> simp [chkL] at h)
theorem noP {T : Tb} {sc : Scope} {c : E} {e : Option Expr} (h : chkP T sc c e = true) (h1 : c ≠ .nil) (h2 : ∀ a l, c ≠ .cons a l) : False := by
  cases c <;> first | exact h1 rfl | exact h2 _ _ rfl | (cases e <;> simp [chkP] at h)
theorem snd_mk {X : Cx} {sc : Scope} {c : E} (o : Okay T C n X sc) (h1 : c ≠ .nil) (h2 : ∀ a l, c ≠ .cons a l) (he : ∀ e, chk T sc c e = true → PE X e (tE T.W (ev C c))) (ht : ∀ e, chk T sc c e = true → tstE e = true) : Snd T C c n X sc :=
  ⟨he, fun e h => pt_of o (he e h) (true_plain (ht e h)), fun es h => (noL h h1 h2).elim, fun es h => (noL h h1 h2).elim, fun e es pos h => (noL h h1 h2).elim, fun e es pos h => (noL h h1 h2).elim, fun e h => (noP h h1 h2).elim⟩
theorem snd_mk2 {X : Cx} {sc : Scope} {c : E} (h1 : c ≠ .nil) (h2 : ∀ a l, c ≠ .cons a l) (he : ∀ e, chk T sc c e = true → PE X e (tE T.W (ev C c)) ∧ PT X e (tT T.W fun σ => tst (ev C c σ))) : Snd T C c n X sc :=
  ⟨fun e h => (he e h).1, fun e h => (he e h).2, fun es h => (noL h h1 h2).elim, fun es h => (noL h h1 h2).elim, fun e es pos h => (noL h h1 h2).elim, fun e es pos h => (noL h h1 h2).elim, fun e h => (noP h h1 h2).elim⟩
theorem snd_no {X : Cx} {sc : Scope} {c : E} (h1 : c ≠ .nil) (h2 : ∀ a l, c ≠ .cons a l) (he : ∀ e, chk T sc c e = true → False) : Snd T C c n X sc :=
  snd_mk2 h1 h2 fun e h => (he e h).elim
theorem nope_no {C : Cb} : ∀ σ x, ev C .nope σ ≠ .ok x := fun σ x h => by unfold ev at h; cases h
theorem sound_all (c : E) : SndA T C n c ∧ Cmp T C n c := by
  induction c with
  | nil => exact ⟨fun X sc o => ⟨fun e h => by cases e <;> simp [chk] at h, fun e h => by cases e <;> simp [chk] at h, fun es h => by cases es <;> first | exact snd_nilO | simp [chkL] at h, fun es h => by cases es <;> first | exact snd_nilW | simp [chkL] at h,
      fun e es pos h => by simp [chkL] at h, fun e es pos h => by simp [chkL] at h, fun e h => by cases e <;> first | exact snd_nilP | simp [chkP] at h⟩, trivial⟩
  | cons a l iha ihl =>
    refine ⟨fun X sc o => ⟨fun e h => by cases e <;> simp [chk] at h, fun e h => by cases e <;> simp [chk] at h, fun es h => snd_consO (iha.1 X sc o) (ihl.1 X sc o) h, fun es h => snd_consW (iha.1 X sc o) (ihl.1 X sc o) h,
      fun e es pos h => snd_and o (iha.1 X sc o) (ihl.1 X sc o) h, fun e es pos h => snd_or o (iha.1 X sc o) (ihl.1 X sc o) h, fun e h => ?_⟩, iha.1, ihl.1, fun b m' e => by subst e; exact ihl.2.1, ⟨fun a' e => by subst e; exact iha.2, jp_of ihl.2⟩, ⟨iha.1, lp_of ihl.2⟩, ⟨fun a' e => by subst e; exact iha.2, sp_of ihl.2⟩⟩
    cases l <;> cases e <;> simp only [chkP, Bool.false_eq_true] at h
    exact snd_oneP (iha.1 X sc o) h
  | var i => exact ⟨fun X sc o => snd_mk o (by simp) (by simp) (fun e h => snd_var o h) (fun e h => by cases e <;> first | rfl | simp [chk] at h), trivial⟩
  | lit d => exact ⟨fun X sc o => snd_mk o (by simp) (by simp) (fun e h => snd_lit o h) (fun e h => by cases e <;> first | rfl | simp [chk] at h), trivial⟩
  | bin op a b iha ihb => exact ⟨fun X sc o => snd_mk o (by simp) (by simp) (fun e h => snd_bin o (iha.1 X sc o) (ihb.1 X sc o) h) (fun e h => by cases e <;> first | rfl | simp [chk] at h), trivial⟩
  | neg a iha => exact ⟨fun X sc o => snd_mk o (by simp) (by simp) (fun e h => snd_neg o (iha.1 X sc o) h) (fun e h => by
      cases e <;> first | rfl | (simp [chk] at h; done) | skip
      rename_i op x pos
      cases op <;> first | rfl | simp [chk] at h), trivial⟩
  | not a iha => exact ⟨fun X sc o => snd_mk2 (by simp) (by simp) fun e h => snd_not o (iha.1 X sc o) h, trivial⟩
  | cmp op a b iha ihb => exact ⟨fun X sc o => snd_mk2 (by simp) (by simp) fun e h => snd_cmp o (iha.1 X sc o) (ihb.1 X sc o) h, trivial⟩
  | cmp2 o1 o2 a b c iha ihb ihc =>
    exact ⟨fun X sc o => snd_mk2 (by simp) (by simp) fun e h => snd_cmp2 o (iha.1 X sc o) (ihb.1 X sc o) (ihc.1 X sc o) h, trivial⟩
  | and l ih =>
    refine ⟨fun X sc o => snd_mk2 (by simp) (by simp) fun e h => ?_, trivial⟩
    cases e <;> try (simp [chk] at h; done)
    rename_i op es pos
    cases op <;> try (simp [chk] at h; done)
    simp only [chk, Bool.and_eq_true] at h
    cases es with
    | nil => simp at h
    | cons e es =>
      obtain ⟨p1, p2⟩ := (ih.1 X sc o).an e es pos h.2
      exact ⟨p1, p2.pt⟩
  | or l ih =>
    refine ⟨fun X sc o => snd_mk2 (by simp) (by simp) fun e h => ?_, trivial⟩
    cases e <;> try (simp [chk] at h; done)
    rename_i op es pos
    cases op <;> try (simp [chk] at h; done)
    simp only [chk, Bool.and_eq_true] at h
    cases es with
    | nil => simp at h
    | cons e es =>
      obtain ⟨p1, p2⟩ := (ih.1 X sc o).or e es pos h.2
      exact ⟨p1, p2.pt⟩
  | ife t a b iht iha ihb =>
    refine ⟨fun X sc o => snd_mk2 (by simp) (by simp) fun e h => ⟨snd_ife o (iht.1 X sc o) (iha.1 X sc o) (ihb.1 X sc o) h, ?_⟩, trivial⟩
    cases e <;> try (simp [chk] at h; done)
    simp only [chk, Bool.and_eq_true] at h
    refine PT.weak (pt_ife ((iht.1 X sc o).t _ h.1.1) ((iha.1 X sc o).t _ h.1.2) ((ihb.1 X sc o).t _ h.2)) fun σV H Q q => ?_
    obtain ⟨Mo, σ, bb, σ', hr, hs, k⟩ := q
    obtain ⟨x, ow, d, g1, g2, g3⟩ := tst_inv hs
    have g1 : ((tst (ev C t σ)).bind fun x => if x.1 then ev C a x.2 else ev C b x.2) = R.ok (x, ow, σ') := g1
    obtain ⟨⟨b', σ1⟩, h1, g1⟩ := bind_inv g1
    refine ⟨Mo, σ, b', σ1, hr, h1, fun H1 p1 => ?_⟩
    cases b' with
    | true => exact ⟨Mo, σ1, bb, σ', p1.rel, tst_of g1 g2 g3, fun H' p2 => k H' (p1.trans p2)⟩
    | false => exact ⟨Mo, σ1, bb, σ', p1.rel, tst_of g1 g2 g3, fun H' p2 => k H' (p1.trans p2)⟩
  | tup l ih => exact ⟨fun X sc o => snd_mk o (by simp) (by simp) (fun e h => snd_tup o (ih.1 X sc o) h) (fun e h => by cases e <;> first | rfl | simp [chk] at h), trivial⟩
  | lst l ih => exact ⟨fun X sc o => snd_mk o (by simp) (by simp) (fun e h => snd_lst o (ih.1 X sc o) h) (fun e h => by cases e <;> first | rfl | simp [chk] at h), trivial⟩
  | idx a b iha ihb => exact ⟨fun X sc o => snd_mk o (by simp) (by simp) (fun e h => snd_idx o (iha.1 X sc o) (ihb.1 X sc o) h) (fun e h => by cases e <;> first | rfl | simp [chk] at h), trivial⟩
  | slc a lo hi iha ih1 ih2 => exact ⟨fun X sc o => snd_mk o (by simp) (by simp) (fun e h => snd_slc o (iha.1 X sc o) (ih1.1 X sc o) (ih2.1 X sc o) h) (fun e h => by cases e <;> first | rfl | simp [chk] at h), trivial⟩
  | attr a f ih => exact ⟨fun X sc o => snd_mk o (by simp) (by simp) (fun e h => snd_attr o (ih.1 X sc o) h) (fun e h => by cases e <;> first | rfl | simp [chk] at h), trivial⟩
  | call f l ih =>
    refine ⟨fun X sc o => snd_mk o (by simp) (by simp) (fun e h => snd_call o (ih.1 X sc o) (fun a m e => ?_) h) (fun e h => by cases e <;> first | rfl | simp [chk] at h), trivial⟩
    subst e
    exact ⟨ih.2.1 X sc o, ih.2.2.1 X sc o⟩
  | dcall f l ih => exact ⟨fun X sc o => snd_mk o (by simp) (by simp) (fun e h => snd_dcall o (ih.1 X sc o) h) (fun e h => by cases e <;> first | rfl | simp [chk] at h), trivial⟩
  | bi b l ih => exact ⟨fun X sc o => snd_mk o (by simp) (by simp) (fun e h => snd_bi o (ih.1 X sc o) h) (fun e h => by cases e <;> first | rfl | simp [chk] at h), trivial⟩
  | make c l ih => exact ⟨fun X sc o => snd_mk o (by simp) (by simp) (fun e h => snd_make o (ih.1 X sc o) h) (fun e h => by cases e <;> first | rfl | simp [chk] at h), trivial⟩
  | meth a m l iha ihl => exact ⟨fun X sc o => snd_mk o (by simp) (by simp) (fun e h => snd_meth o (iha.1 X sc o) (ihl.1 X sc o) h) (fun e h => by cases e <;> first | rfl | simp [chk] at h), trivial⟩
  | lrg l ih => exact ⟨fun X sc o => snd_mk o (by simp) (by simp) (fun e h => snd_lrg o (fun a m e => by subst e; exact ⟨ih.2.1 X sc o, fun b m' e => ih.2.2.2.1 b m' e X sc o⟩) h) (fun e h => by cases e <;> first | rfl | simp [chk] at h), trivial⟩
  | bm b a l iha ihl => exact ⟨fun X sc o => snd_mk o (by simp) (by simp) (fun e h => snd_bm o (iha.1 X sc o) (ihl.1 X sc o) h) (fun e h => by cases e <;> first | rfl | simp [chk] at h), trivial⟩
  | pop i l ih => exact ⟨fun X sc o => snd_mk o (by simp) (by simp) (fun e h => snd_pop o (ih.1 X sc o) h) (fun e h => by cases e <;> first | rfl | simp [chk] at h), trivial⟩
  | isi k a ih => exact ⟨fun X sc o => snd_mk o (by simp) (by simp) (fun e h => snd_isi o (ih.1 X sc o) h) (fun e h => by cases e <;> first | rfl | simp [chk] at h), trivial⟩
  | comp e t it c vs ihe iht ihi ihc =>
    refine ⟨fun X sc o => snd_mk o (by simp) (by simp) (fun x h => snd_comp o (it_of ihi.2) (fun X sc o b e => ?_) (fun X sc o => ihe.1 X sc o) h) (fun e h => by cases e <;> first | rfl | simp [chk] at h), trivial⟩
    subst e; exact ihc.2.1 X sc o
  | nope => exact ⟨fun X sc o => snd_mk2 (by simp) (by simp) fun e h => ⟨pe_bad (r := ev C .nope) nope_no, pt_bad (r := ev C .nope) nope_no⟩, trivial⟩
  | tyi a ih => exact ⟨fun X sc o => snd_mk2 (by simp) (by simp) fun e h => snd_tyi o (ih.1 X sc o) h, trivial⟩
  | isc c a ih => exact ⟨fun X sc o => snd_mk o (by simp) (by simp) (fun e h => snd_isc o (ih.1 X sc o) h) (fun e h => by cases e <;> first | rfl | simp [chk] at h), trivial⟩
  | oeq neg a b iha ihb => exact ⟨fun X sc o => snd_mk2 (by simp) (by simp) fun e h => snd_oeq o (iha.1 X sc o) (ihb.1 X sc o) h, trivial⟩
  | fstr l ih => exact ⟨fun X sc o => snd_mk o (by simp) (by simp) (fun e h => snd_fstr o (jp_of ih.2) h) (fun e h => by cases e <;> first | rfl | simp [chk] at h), trivial⟩
  | fmt a ih => exact ⟨fun X sc o => snd_no (by simp) (by simp) fun e h => by cases e <;> simp [chk] at h, ih.1⟩
  | lset e t it c vs ihe iht ihi ihc =>
    refine ⟨fun X sc o => snd_mk o (by simp) (by simp) (fun x h => snd_lset o (it_of ihi.2) (fun X sc o b e => ?_) (fun X sc o => ihe.1 X sc o) h) (fun e h => by cases e <;> first | rfl | simp [chk] at h), trivial⟩
    subst e; exact ihc.2.1 X sc o
  | dic ks vs _ ihv => exact ⟨fun X sc o => snd_mk o (by simp) (by simp) (fun e h => snd_dic o (lp_of ihv.2) h) (fun e h => by cases e <;> first | rfl | simp [chk] at h), trivial⟩
  | dnt t => exact ⟨fun X sc o => snd_mk o (by simp) (by simp) (fun e h => snd_dnt o h) (fun e h => by cases e <;> first | rfl | simp [chk] at h), trivial⟩
  | itl a ih => exact ⟨fun X sc o => snd_mk o (by simp) (by simp) (fun e h => snd_itl o (ih.1 X sc o) h) (fun e h => by cases e <;> first | rfl | simp [chk] at h), trivial⟩
  | dcp a ih => exact ⟨fun X sc o => snd_mk o (by simp) (by simp) (fun e h => snd_dcp o (ih.1 X sc o) h) (fun e h => by cases e <;> first | rfl | simp [chk] at h), trivial⟩
  | lsn a ih => exact ⟨fun X sc o => snd_mk o (by simp) (by simp) (fun e h => snd_lsn o (ih.1 X sc o) h) (fun e h => by cases e <;> first | rfl | simp [chk] at h), trivial⟩
  | srs a ih => exact ⟨fun X sc o => snd_mk o (by simp) (by simp) (fun e h => snd_srs o (ih.1 X sc o) h) (fun e h => by cases e <;> first | rfl | simp [chk] at h), trivial⟩
  | rev a ih => exact ⟨fun X sc o => snd_mk o (by simp) (by simp) (fun e h => snd_rev o (ih.1 X sc o) h) (fun e h => by cases e <;> first | rfl | simp [chk] at h), trivial⟩
  | stp a k ih => exact ⟨fun X sc o => snd_mk o (by simp) (by simp) (fun e h => snd_stp o (ih.1 X sc o) h) (fun e h => by cases e <;> first | rfl | simp [chk] at h), trivial⟩
  | lss l ih => exact ⟨fun X sc o => snd_mk o (by simp) (by simp) (fun e h => snd_lss o (lp_of ih.2) (sp_of ih.2) h) (fun e h => by cases e <;> first | rfl | simp [chk] at h), trivial⟩
  | enum a ih => exact ⟨fun X sc o => snd_no (by simp) (by simp) fun e h => by cases e <;> simp [chk] at h, ih.1⟩
  | star a ih => exact ⟨fun X sc o => snd_no (by simp) (by simp) fun e h => by cases e <;> simp [chk] at h, ih.1⟩
  | zip a b iha ihb => exact ⟨fun X sc o => snd_no (by simp) (by simp) fun e h => by cases e <;> simp [chk] at h, iha.1, ihb.1⟩
  | range l ih => exact ⟨fun X sc o => snd_no (by simp) (by simp) fun e h => by cases e <;> simp [chk] at h, ih.1⟩
  | itm a ih => exact ⟨fun X sc o => snd_no (by simp) (by simp) fun e h => by cases e <;> simp [chk] at h, ih.1⟩
end
end Mini

set_option Elab.async false
set_option linter.all false
set_option maxRecDepth 100000
set_option maxHeartbeats 8000000
/-! ## statements -/
namespace Mini
open PySem L2
structure PostS (W : Wd) (Mo : Zone) (σ : Fm) (σV : L2.St) (H : Hp) (σ' : Fm) (σV' : L2.St) (H' : Hp) : Prop where
  fr : Fr (wrt σ σV) H H'
  dm : ∀ a, H a ≠ none → H' a ≠ none
  mm : ∀ a, muts σ' σV' a → muts σ σV a ∨ H a = none
  wm : ∀ a, wrt σ' σV' a → wrt σ σV a ∨ H a = none
  ios : ∀ (i : Nat) (b : Bool), Pin σ i b → Pin σ' i b ∧ σV'[i]? = σV[i]?
  len : σV'.length = σV.length
  rel : Rel W Mo σ' σV' H'
section
variable {W : Wd} {H H' H1 H2 : Hp} {Mo : Zone} {σ σ1 σ2 σ' : Fm} {σV σV1 σV2 σV' : L2.St} {x : Opd} {o : Bool} {v : V} {d : D} {i : Nat} {s : Slot}
theorem PostS.refl (r : Rel W Mo σ σV H) : PostS W Mo σ σV H σ σV H := ⟨.refl, fun _ z => z, fun _ z => .inl z, fun _ z => .inl z, fun _ _ e => ⟨e, rfl⟩, rfl, r⟩
theorem Post.toS (p : Post W Mo σ σV H x o σ' v H') : PostS W Mo σ σV H σ' σV H' := ⟨p.fr, p.dm, fun a z => .inl (p.mm a z), fun a z => .inl (p.wm a z), fun i b e => ⟨p.ios i b e, rfl⟩, rfl, p.rel⟩
theorem PostT.toS {ts : List Nat} (p : PostT W Mo ts σ σV H σ' σV') : PostS W Mo σ σV H σ' σV' H := ⟨.refl, fun _ z => z, fun a z => .inl (p.mm a z), fun a z => .inl (p.wm a z), fun i b e => p.ios i b e, p.len, p.rel⟩
theorem PostS.trans (p : PostS W Mo σ σV H σ1 σV1 H1) (q : PostS W Mo σ1 σV1 H1 σ2 σV2 H2) : PostS W Mo σ σV H σ2 σV2 H2 :=
  ⟨p.fr.trans q.fr p.wm, fun a z => q.dm a (p.dm a z), fun a z => (q.mm a z).elim (p.mm a) fun e => .inr (none_back p.dm e), fun a z => (q.wm a z).elim (p.wm a) fun e => .inr (none_back p.dm e),
    fun i b e => let ⟨e1, e2⟩ := p.ios i b e; let ⟨h1, h2⟩ := q.ios i b e1; ⟨h1, h2.trans e2⟩, q.len.trans p.len, q.rel⟩
/-- slot i takes a new value as its own -/
theorem put_mu {p : Addr} (r : Rel W (Zp Mo p) σ σV H) (r0 : Rel W Mo σ σV H) (hs : σ[i]? = some s) (hio : s.pin = none) (np : ¬ Mu Mo σ σV p) (ow : Own W H (Zp (Mu Mo σ σV) p) p d) :
    Rel W Mo (σ.set i (.mu d)) (σV.set i (some (.ref p))) H ∧ (∀ a, muts (σ.set i (.mu d)) (σV.set i (some (.ref p))) a → muts σ σV a ∨ a = p) ∧ (∀ a, wrt (σ.set i (.mu d)) (σV.set i (some (.ref p))) a → wrt σ σV a ∨ a = p) ∧
    ∀ (j : Nat) (b : Bool), Pin σ j b → Pin (σ.set i (.mu d)) j b ∧ (σV.set i (some (.ref p)))[j]? = σV[j]? := by
  have hi := lt_of_some hs
  have hiV : i < σV.length := by rw [← r.len]; exact hi
  have hh : ∀ {j : Nat} {e : D}, Held (σ.set i (.mu d)) j e ↔ (j = i ∧ e = d) ∨ (j ≠ i ∧ Held σ j e) := fun {j e} => held_set rfl hi
  have hm : ∀ a, muts (σ.set i (.mu d)) (σV.set i (some (.ref p))) a → muts σ σV a ∨ a = p := fun a => by
    rintro ⟨j, e, hj, hv⟩
    rcases hh.mp hj with ⟨rfl, _⟩ | ⟨n, hj'⟩
    · rw [List.getElem?_set_self hiV] at hv
      cases hv
      exact .inr rfl
    · rw [List.getElem?_set_ne (Ne.symm n)] at hv
      exact .inl ⟨j, e, hj', hv⟩
  have hz : ∀ b, Mu Mo (σ.set i (.mu d)) (σV.set i (some (.ref p))) b → Mu (Zp Mo p) σ σV b ∨ H b = none := fun b z => by
    rcases z with z | z
    · exact .inl (.inl (.inl z))
    · rcases hm b z with z | z
      · exact .inl (.inr z)
      · exact .inl (.inl (.inr z))
  have hz2 : ∀ b, Mu Mo (σ.set i (.mu d)) (σV.set i (some (.ref p))) b → Zp (Mu Mo σ σV) p b ∨ H b = none := fun b z => by
    rcases z with z | z
    · exact .inl (.inl (.inl z))
    · rcases hm b z with z | z
      · exact .inl (.inl (.inr z))
      · exact .inl (.inr z)
  refine ⟨⟨by rw [List.length_set, List.length_set]; exact r.len, fun j e hj => ?_, fun j e hj => ?_, fun j k e e2 a hj hk h1 h2 => ?_, r0.tr⟩, hm, fun a => ?_, fun j e hj => ?_⟩
  · by_cases q : j = i
    · subst q
      rw [List.getElem?_set_self hi] at hj
      cases hj
    · rw [List.getElem?_set_ne (Ne.symm q)] at hj
      obtain ⟨u, h1, h2⟩ := r.im j e hj
      exact ⟨u, by rw [List.getElem?_set_ne (Ne.symm q)]; exact h1, h2.step (Mw := Z0) .refl (fun _ z => z.elim) hz⟩
  · rcases hh.mp hj with ⟨rfl, rfl⟩ | ⟨q, hj'⟩
    · exact ⟨p, List.getElem?_set_self hiV, fun z => np (.inl z), ow.step (Mw := Z0) .refl (fun z => z) (fun _ z => z.elim) hz2⟩
    · obtain ⟨a, h1, h2, h3⟩ := r.mu j e hj'
      exact ⟨a, by rw [List.getElem?_set_ne (Ne.symm q)]; exact h1, fun z => h2 (.inl z), h3.step (Mw := Z0) .refl (fun z => z) (fun _ z => z.elim) hz⟩
  · have pk : ∀ {j : Nat} {e : D} {a : Addr}, Held (σ.set i (.mu d)) j e → (σV.set i (some (.ref p)))[j]? = some (some (.ref a)) → (j = i ∧ a = p) ∨ (j ≠ i ∧ (∃ e', Held σ j e') ∧ σV[j]? = some (some (.ref a)) ∧ a ≠ p) := fun {j e a} hj hv => by
      rcases hh.mp hj with ⟨rfl, _⟩ | ⟨q, hj'⟩
      · rw [List.getElem?_set_self hiV] at hv
        cases hv
        exact .inl ⟨rfl, rfl⟩
      · rw [List.getElem?_set_ne (Ne.symm q)] at hv
        exact .inr ⟨q, ⟨e, hj'⟩, hv, fun z => np (by rw [← z]; exact .inr ⟨j, e, hj', hv⟩)⟩
    rcases pk hj h1 with ⟨e1, e2⟩ | ⟨n1, ⟨e1, q1⟩, q2, q3⟩
    · rcases pk hk h2 with ⟨e3, _⟩ | ⟨_, _, _, q3⟩
      · rw [e1, e3]
      · exact absurd e2 q3
    · rcases pk hk h2 with ⟨_, e4⟩ | ⟨n2, ⟨e3, q4⟩, q5, _⟩
      · exact absurd e4 q3
      · exact r0.ne j k _ _ a q1 q4 q2 q5
  · rintro ⟨j, t, e, hj, hw, hv⟩
    by_cases q : j = i
    · subst q
      rw [List.getElem?_set_self hiV] at hv
      cases hv
      exact .inr rfl
    · rw [List.getElem?_set_ne (Ne.symm q)] at hj hv
      exact .inl ⟨j, t, e, hj, hw, hv⟩
  · have q : j ≠ i := by
      rintro rfl
      obtain ⟨t, h1, h2⟩ := hj
      rw [hs] at h1
      cases h1
      rw [hio] at h2
      cases h2
    refine ⟨hj.set hs fun c z => ?_, by rw [List.getElem?_set_ne (Ne.symm q)]⟩
    rw [hio] at z
    cases z
theorem post_put (q : Post W Mo σ σV H (.v d) o σ1 v H1) (h : putS i d o σ1 = .ok σ2) : PostS W Mo σ σV H σ2 (σV.set i (some v)) H1 := by
  unfold putS at h
  cases e1 : σ1[i]? with
  | none => simp only [e1] at h; cases h
  | some s =>
    simp only [e1] at h
    have go : s.pin = none → (if o && isObj d then R.ok (σ1.set i (.mu d)) else R.ok (σ1.set i (.im d))) = R.ok σ2 → PostS W Mo σ σV H σ2 (σV.set i (some v)) H1 := fun hio h => by
      cases o with
      | false =>
        have h : R.ok (σ1.set i (.im d)) = R.ok σ2 := h
        cases h
        exact q.toS.trans (put_im q.rel e1 hio q.val).toS
      | true =>
        obtain ⟨p, rfl, np, ow, rp⟩ := q.val
        have h : (if true && isObj d then R.ok (σ1.set i (.mu d)) else R.ok (σ1.set i (.im d))) = R.ok σ2 := h
        rw [ow.isObj] at h
        have h : R.ok (σ1.set i (.mu d)) = R.ok σ2 := h
        cases h
        obtain ⟨r2, hm, hw, hi⟩ := put_mu rp q.rel e1 hio np ow
        have hp := q.nw rfl p rfl
        refine ⟨q.fr, q.dm, fun a z => (hm a z).elim (fun z => .inl (q.mm a z)) fun e => .inr (by rw [e]; exact hp), fun a z => (hw a z).elim (fun z => .inl (q.wm a z)) fun e => .inr (by rw [e]; exact hp), fun j e hj => ?_, by rw [List.length_set], r2⟩
        exact hi j e (q.ios j e hj)
    cases s with
    | io e => cases h
    | lk e => cases h
    | no => exact go rfl h
    | im e => exact go rfl h
    | mu e => exact go rfl h
end
/-- a slot that is not lent owns it -/
noncomputable def OwnAt (σ : Fm) (σV : L2.St) (p : Addr) : Prop := ∃ (i : Nat) (d : D) (s : Slot), σ[i]? = some s ∧ s.held = some d ∧ (∀ q, s ≠ .io q) ∧ σV[i]? = some (some (.ref p))
/-- what is wanted behind a statement -/
noncomputable def flS (W : Wd) (Mo : Zone) (σ : Fm) (σV : L2.St) (H : Hp) (De : Ends) : Fl → Prop
  | .nx σ' => ∀ σV' H', PostS W Mo σ σV H σ' σV' H' → De.nx σV' H'
  | .brk σ' => ∀ σV' H', PostS W Mo σ σV H σ' σV' H' → De.bk σV' H'
  | .ct σ' => ∀ σV' H', PostS W Mo σ σV H σ' σV' H' → De.ct σV' H'
  | .ret d o σ' => ∀ v σV' H', PostS W Mo σ σV H σ' σV' H' → VR W Mo σ' σV' H' (.v d) o v → (o = true → ∀ p, v = .ref p → H p = none ∨ OwnAt σ σV p) → De.rt v H'
noncomputable def tS (W : Wd) (r : Fm → R Fl) : TS := fun De σV H => ∃ Mo σ fl, Rel W Mo σ σV H ∧ r σ = .ok fl ∧ flS W Mo σ σV H De fl
theorem flS.back {W : Wd} {Mo : Zone} {σ σ1 : Fm} {σV σV1 : L2.St} {H H1 : Hp} {De : Ends} {fl : Fl} (h : flS W Mo σ σV H De fl) (p : PostS W Mo σ σV H σ1 σV1 H1) : flS W Mo σ1 σV1 H1 De fl := by
  cases fl with
  | nx σ' => exact fun σV' H' q => h σV' H' (p.trans q)
  | brk σ' => exact fun σV' H' q => h σV' H' (p.trans q)
  | ct σ' => exact fun σV' H' q => h σV' H' (p.trans q)
  | ret d o σ' =>
    refine fun v σV' H' q w n => h v σV' H' (p.trans q) w fun z a e => ?_
    rcases n z a e with n | ⟨i, d, s, h1, h2, h3, h4⟩
    · exact .inl (none_back p.dm n)
    · rcases p.mm a ⟨i, d, ⟨s, h1, h2⟩, h4⟩ with ⟨j, d', ⟨t, g1, g2⟩, g3⟩ | g
      · refine .inr ⟨j, d', t, g1, g2, fun q et => ?_, g3⟩
        subst et
        obtain ⟨⟨s2, g4, g6⟩, g5⟩ := p.ios j true ⟨_, g1, rfl⟩
        obtain ⟨d2, rfl⟩ : ∃ d2, s2 = .io d2 := by cases s2 <;> first | (cases g6; done) | exact ⟨_, rfl⟩
        have ej := p.rel.ne j i d2 d a ⟨_, g4, rfl⟩ ⟨s, h1, h2⟩ (by rw [g5]; exact g3) h4
        subst ej
        rw [g4] at h1
        exact h3 d2 (Option.some.inj h1).symm
      · exact .inl g
theorem flS.mono {W : Wd} {Mo : Zone} {σ : Fm} {σV : L2.St} {H : Hp} {De De' : Ends} {fl : Fl} (h : flS W Mo σ σV H De fl) (h1 : ∀ s H, De.nx s H → De'.nx s H) (h2 : ∀ s H, De.bk s H → De'.bk s H) (h3 : ∀ s H, De.ct s H → De'.ct s H) (h4 : ∀ v H, De.rt v H → De'.rt v H) : flS W Mo σ σV H De' fl := by
  cases fl with
  | nx σ' => exact fun σV' H' q => h1 _ _ (h σV' H' q)
  | brk σ' => exact fun σV' H' q => h2 _ _ (h σV' H' q)
  | ct σ' => exact fun σV' H' q => h3 _ _ (h σV' H' q)
  | ret d o σ' => exact fun v σV' H' q w n => h4 _ _ (h v σV' H' q w n)
end Mini

set_option Elab.async false
set_option linter.all false
set_option maxRecDepth 100000
set_option maxHeartbeats 8000000
/-! ## statements are sound -/
namespace Mini
open PySem L2
noncomputable def isLC : Expr → Bool | .ListComp _ _ _ _ => true | .SetComp _ _ _ _ => true | .DictComp _ _ _ _ _ => true | _ => false
noncomputable def locOk (sc : Scope) (x : Str) : Bool := match sc.names.lookup x with | some .local => true | some .cell => true | _ => false
/-- a comprehension given to a name on the same line -/
noncomputable def lcOk (sc : Scope) (x : Str) (p : Pos) : Expr → Bool
  | .ListComp _ _ cs pos => decide (sc.names.lookup x = some .local) && (p.line == pos.line) && !(cs.names.any fun (n, k) => n == x && (k == .local || k == .cell))
  | e => !isLC e
/-- the names of a target, all plain -/
noncomputable def namesT : List Expr → Option (List Str)
  | [] => some []
  | .Name x _ :: es => (namesT es).map (x :: ·)
  | _ :: _ => none
/-- a tuple of names takes a tuple of expressions: none, not told; some none, from the left; some names, from the right -/
noncomputable def swN (sc : Scope) (ts vs : List Expr) : Option (Option (List Str)) :=
  if (!(ts.length == 2 || ts.length == 3) || vs.length != ts.length) = true then some none
  else if (vs.any fun | .Starred .. => true | _ => false) = true then some none
  else
    let line := (ts.head?.map (·.pos.line)).getD 0
    let names := ts.filterMap fun
      | .Name id pos => if sc.names.lookup id == some .local && pos.line == line then some id else none
      | _ => none
    if (names.length != ts.length || names.eraseDups.length != names.length) = true then some none
    else if vs.all (foldedForSure 8) = true then some none
    else if vs.all (constantsAlone 8) = true then none
    else some (some names)
noncomputable def parN (T : Tb) (sc : Scope) : List Nat → List Str → Bool
  | [], [] => true
  | i :: is, x :: xs => decide (T.N[i]? = some x) && decide (sc.names.lookup x = some .local) && parN T sc is xs
  | _, _ => false
noncomputable def parC (T : Tb) (sc : Scope) : List Nat → List Str → Bool
  | [], [] => true
  | i :: is, x :: xs => decide (T.N[i]? = some x) && locOk sc x && parC T sc is xs
  | _, _ => false
noncomputable def parOk (T : Tb) (sc : Scope) (is : List Nat) (ts vals : List Expr) : Bool := match namesT ts with
  | some xs => decide (is.length ≤ 9) && decide is.Nodup && (match swN sc ts vals with | some none => parC T sc is xs | some (some ys) => parN T sc is xs && decide (ys = xs) | none => false)
  | none => false
/-- a target that is no name is among these -/
noncomputable def hasPat : List Expr → Bool
  | [] => false
  | .Name _ _ :: es => hasPat es
  | _ :: _ => true
mutual
noncomputable def chkS (T : Tb) (sc : Scope) : S → Stmt → Bool
  | .asg t e, ex => match ex with
    | .Assign [tg] v _ => (match t, tg with
      | .var i, .Name x p => decide (T.N[i]? = some x) && locOk sc x && chk T sc e v && lcOk sc x p v
      | .tup l, .Tuple es k p => chkT T true sc (.tup l) (.Tuple es k p) && chk T sc e v && !isLC v && (!isTupE v || hasPat es)
      | _, _ => false)
    | _ => false
  | .par is l, ex => match ex with
    | .Assign [.Tuple ts _ _] (.Tuple vals _ _) _ => parOk T sc is ts vals && chkL T sc l vals
    | _ => false
  | .ret e, ex => match ex with
    | .Return (some x) _ => chk T sc e x
    | _ => false
  | .retn, ex => match ex with
    | .Return none _ => true
    | _ => false
  | .ife t a b, ex => match ex with
    | .If c x y _ => chk T sc t c && chkB T sc a x && chkB T sc b y
    | _ => false
  | .whl t b, ex => match ex with
    | .While c x [] _ => chk T sc t c && chkB T sc b x
    | _ => false
  | .for t it b, ex => match ex with
    | .For tg iter x [] _ => chkT T true sc t tg && chkI T sc it tg iter && chkB T sc b x
    | _ => false
  | .expr e, ex => match ex with
    | .Expr v _ => chk T sc e v && !isLC v
    | _ => false
  | .app i e, ex => match ex with
    | .Expr (.Call (.Attribute (.Name x p) m ap) [y] [] cp) _ => decide (m = ("append" : Str)) && chk T sc (.var i) (.Name x p) && (ap.endLine == cp.line) && chk T sc e y
    | _ => false
  | .ext i e, ex => match ex with
    | .Expr (.Call (.Attribute (.Name x p) m ap) [y] [] cp) _ => decide (m = ("extend" : Str)) && chk T sc (.var i) (.Name x p) && (ap.endLine == cp.line) && chk T sc e y
    | _ => false
  | .seti i k e, ex => match ex with
    | .Assign [.Subscript (.Name x p) ix _] v _ => chk T sc (.var i) (.Name x p) && chk T sc k ix && chk T sc e v && !isLC v
    | _ => false
  | .setd i k e, ex => match ex with
    | .Assign [.Subscript (.Name x p) ix _] v _ => chk T sc (.var i) (.Name x p) && chk T sc k ix && chk T sc e v && !isLC v
    | _ => false
  | .augi i k op e, ex => match ex with
    | .AugAssign (.Subscript (.Name x p) ix _) op' v _ => decide (op = op') && chk T sc (.var i) (.Name x p) && chk T sc k ix && chk T sc e v
    | _ => false
  | .aug i op e, ex => match ex with
    | .AugAssign (.Name x _) op' v _ => decide (op = op') && decide (T.N[i]? = some x) && locOk sc x && chk T sc e v
    | _ => false
  | .seta i f e, ex => match ex with
    | .Assign [.Attribute (.Name x p) m _] v _ => decide (T.W.att f = m) && T.na f && chk T sc (.var i) (.Name x p) && chk T sc e v && !isLC v
    | _ => false
  | .raise _ _, ex => match ex with
    | .Raise _ _ _ => true
    | _ => false
  | .nope, _ => true
  | .pass, ex => match ex with
    | .Pass _ => true
    | .Expr (.Constant (.str _) _ _) _ => true
    | _ => false
  | .brk, ex => match ex with
    | .Break _ => true
    | _ => false
  | .ct, ex => match ex with
    | .Continue _ => true
    | _ => false
  | .done, _ => false
  | .seq _ _, _ => false
noncomputable def chkB (T : Tb) (sc : Scope) : S → List Stmt → Bool
  | .done, [] => true
  | .seq s t, x :: xs => chkS T sc s x && chkB T sc t xs
  | _, _ => false
end
theorem sw_plain {e : Expr} {t : Option Expr} {l : Nat} {env : PySem.Env} (h : isLC e = false) : swapsWith e t l env = pure false := by
  cases e <;> first | rfl | (simp [isLC] at h)
theorem swS_plain {e t : Expr} {l : Nat} {env : PySem.Env} (h : isLC e = false) : swapsWithSole [t] e l env = pure false := sw_plain h
theorem st_plain {t e : Expr} {env : PySem.Env} (h : isTupE e = false) : swappedStores [t] e env = pure none := by
  cases e <;> first | (simp [isTupE] at h; done) | (cases t <;> rfl)
theorem fm_le {α β : Type} (f : α → Option β) (l : List α) : (l.filterMap f).length ≤ l.length := List.length_filterMap_le f l
theorem pat_ne (f : Expr → Option Str) (hf : ∀ e, (∀ x p, e ≠ .Name x p) → f e = none) : ∀ es : List Expr, hasPat es = true → (es.filterMap f).length ≠ es.length
  | [], h => by cases h
  | e :: es, h => by
    have hle := fm_le f es
    by_cases hn : ∃ x p, e = .Name x p
    · obtain ⟨x, p, rfl⟩ := hn
      have h : hasPat es = true := h
      have ih := pat_ne f hf es h
      rw [List.filterMap_cons]
      split
      · simp only [List.length_cons]; omega
      · simp only [List.length_cons]; omega
    · have : f e = none := hf e fun x p c => hn ⟨x, p, c⟩
      rw [List.filterMap_cons, this]
      simp only [List.length_cons]; omega
theorem st_pat {es : List Expr} {k : Nat} {p : Pos} {v : Expr} {env : PySem.Env} (h : hasPat es = true) : swappedStores [.Tuple es k p] v env = pure none := by
  cases v <;> try rfl
  rename_i vs k2 p2
  have hne := pat_ne (fun | .Name id pos => if env.kindOf id == some .local && pos.line == (es.head?.map (·.pos.line)).getD 0 then some id else none | _ => none) (fun e he => by cases e <;> first | rfl | (exact absurd rfl (he _ _))) es h
  unfold swappedStores
  simp only [pure_bind]
  split
  · rfl
  · split
    · rfl
    · rw [if_pos]
      simp only [bne_iff_ne, ne_eq, Bool.or_eq_true]
      exact .inl hne
section
variable {T : Tb} {C : Cb} {n : Nat} {X : Cx} {sc : Scope}
theorem loc_of (o : Okay T C n X sc) {x : Str} (h : locOk sc x = true) : L2.Loc X.env.scope x := by
  rw [o.sc]
  unfold locOk at h
  unfold L2.Loc
  split at h <;> first | (rename_i e; simp [e]; done) | cases h
/-- what the body of a def wants of its context -/
structure Def (X : Cx) : Prop where
  fn : ∀ x, X.fn x = true
  own : PassesOwn (model X.prog X.w) X.A X.env X.xe
  kind : X.env.scope.kind = .function
theorem asg_read {i : Nat} {e : E} {De : Ends} {σV : L2.St} {H : Hp} (q : tS T.W (ex C (.asg (.var i) e)) De σV H) : tE T.W (ev C e) σV H fun v H1 => De.nx (σV.set i (some v)) H1 := by
  obtain ⟨Mo, σ, fl, r, hs, k⟩ := q
  have hs : ((ev C e σ).bind fun x => (fz x).bind fun x => (putS i x.1 x.2.1 x.2.2).bind fun σ' => .ok (.nx σ')) = R.ok fl := hs
  obtain ⟨⟨x, o, σ1⟩, h1, hs⟩ := bind_inv hs
  obtain ⟨⟨d, o', σ2⟩, h2, hs⟩ := bind_inv hs
  obtain ⟨σ3, h3, hs⟩ := bind_inv hs
  cases hs
  exact ⟨Mo, σ, x, o, σ1, r, h1, fun v H1 p => k _ _ (post_put (p.freeze h2) h3)⟩
theorem snd_asg (o : Okay T C n X sc) (df : Def X) {t e : E} {st : Stmt} (h : chkS T sc (.asg t e) st = true) : PS X st (tS T.W (ex C (.asg t e))) := by
  cases st with
  | Assign ts v pos =>
    cases ts with
    | nil => simp [chkS] at h
    | cons tg rest =>
    cases rest with
    | cons _ _ => simp [chkS] at h
    | nil =>
      have he := fun e' h' => ((sound_all (T := T) (C := C) (n := n) e).1 X sc o).e e' h'
      simp only [chkS] at h
      split at h <;> simp only [Bool.false_eq_true, Bool.and_eq_true, decide_eq_true_eq] at h
      · rename_i i x p
        obtain ⟨⟨⟨h1, h2⟩, h3⟩, h4⟩ := h
        have hN : X.N[i]? = some x := by rw [o.N]; exact h1
        by_cases lc : isLC v = true
        · cases v with
          | ListComp elt gens cs lpos =>
            simp only [lcOk, Bool.and_eq_true, decide_eq_true_eq, Bool.not_eq_true'] at h4
            obtain ⟨⟨h5, h6⟩, h7⟩ := h4
            cases e <;> try (simp [chk] at h3; done)
            rename_i e t it c vs
            match gens, h3 with
            | [⟨tg, iter, ifs, as⟩], h3 =>
              simp only [chk, Bool.and_eq_true, decide_eq_true_eq] at h3
              obtain ⟨⟨⟨⟨⟨⟨rfl, g1⟩, g2⟩, g3⟩, g4⟩, g5⟩, g6⟩ := h3
              have sub : ∀ j ∈ tgs t, j ∈ vs := fun j hj => by
                rw [List.all_eq_true] at g4
                have := g4 j hj
                simpa using this
              have eo : (ownL T.N vs).map (·.2) = vs := by simp [ownL, Function.comp_def]
              have hloc : X.env.scope.names.lookup x = some .local := by rw [o.sc]; exact h5
              have A := fun c X sc o => (sound_all (T := T) (C := C) (n := n) c).1 X sc o
              refine PS.weak (ps_setLc (own := ownL T.N vs) o.calm o.nd hN hloc (sw_true df.kind hloc h6 h7) (sound_it o (fun a e => A a X sc o) g2) (by rw [o.N, o.sc]; exact blkOk_by g1)
                (fun s H A cl fp => ((sound_tgt (dl := false) o.blk (fun z => nomatch z) t).1 tg g3)) (fun s H A' cl fp => sound_c (fun b e => A b _ _ o.blk) g5) (fun s H A' cl fp => (A e _ _ o.blk).e elt g6) (folded_plain (chkI_plain g2))) fun De σV H q => ?_
              rw [eo]
              exact comp_read sub (asg_read q)
            | [], h3 => simp [chk] at h3
            | _ :: _ :: _, h3 => simp [chk] at h3
          | _ => first | (simp [isLC] at lc; done) | (cases e <;> simp [chk] at h3)
        · have lc : isLC v = false := by simpa using lc
          exact PS.weak (ps_set (i := i) o.nd hN (loc_of o h2) (he v h3) (sw_plain lc) (.inl (df.fn x))) fun De σV H q => asg_read q
      · rename_i l es k p
        obtain ⟨⟨⟨h1, h2⟩, h3⟩, h4⟩ := h
        have h3 : isLC v = false := by simpa using h3
        have h4 : swappedStores [.Tuple es k p] v X.env = pure none := by
          rw [Bool.or_eq_true] at h4
          rcases h4 with h4 | h4
          · exact st_plain (by simpa using h4)
          · exact st_pat h4
        refine PS.weak (ps_asg (he v h2) ((sound_tgt (dl := true) o (fun _ => df.fn) (.tup l)).1 _ h1) (swS_plain h3) h4 rfl) fun De σV H q => ?_
        obtain ⟨Mo, σ, fl, r, hs, k⟩ := q
        have hs : ((ev C e σ).bind fun x => (fz x).bind fun x => (putT (.tup l) x.1 x.2.2).bind fun σ' => .ok (.nx σ')) = R.ok fl := hs
        obtain ⟨⟨x, ow, σ1⟩, g1, hs⟩ := bind_inv hs
        obtain ⟨⟨d, o', σ2⟩, g2, hs⟩ := bind_inv hs
        obtain ⟨σ3, g3, hs⟩ := bind_inv hs
        cases hs
        refine ⟨Mo, σ, x, ow, σ1, r, g1, fun v H1 p => ?_⟩
        have p2 := p.freeze g2
        exact ⟨Mo, σ2, d, σ3, p2.rel, p2.val.drop, g3, fun σV' pt => k _ _ (p2.toS.trans pt.toS)⟩
  | _ => simp [chkS] at h
end
end Mini

set_option Elab.async false
set_option linter.all false
set_option maxRecDepth 100000
set_option maxHeartbeats 8000000
namespace Mini
open PySem L2
section
variable {T : Tb} {C : Cb} {n : Nat} {X : Cx} {sc : Scope}
theorem sndE (o : Okay T C n X sc) (c : E) : Snd T C c n X sc := (sound_all (T := T) (C := C) (n := n) c).1 X sc o
theorem ps_no {st : Stmt} {r : Fm → R Fl} (h : ∀ σ fl, r σ ≠ .ok fl) : PS X st (tS T.W r) := PS.weak ps_never fun De σV H q => by
  obtain ⟨Mo, σ, fl, _, hs, _⟩ := q
  exact h σ fl hs
theorem snd_ret (o : Okay T C n X sc) {e : E} {st : Stmt} (h : chkS T sc (.ret e) st = true) : PS X st (tS T.W (ex C (.ret e))) := by
  cases st with
  | Return v pos =>
    cases v with
    | none => simp [chkS] at h
    | some v =>
      have h : chk T sc e v = true := by simpa [chkS] using h
      refine PS.weak (ps_ret ((sndE o e).e v h)) fun De σV H q => ?_
      obtain ⟨Mo, σ, fl, r, hs, k⟩ := q
      have gen : ((ev C e σ).bind fun x => (fz x).bind fun x => .ok (.ret x.1 x.2.1 x.2.2)) = R.ok fl → tE T.W (ev C e) σV H De.rt := fun hs => by
        obtain ⟨⟨x, ow, σ1⟩, g1, hs⟩ := bind_inv hs
        obtain ⟨⟨d, o', σ2⟩, g2, hs⟩ := bind_inv hs
        cases hs
        refine ⟨Mo, σ, x, ow, σ1, r, g1, fun v H1 p => ?_⟩
        have p2 := p.freeze g2
        exact k v σV H1 p2.toS p2.val fun z a e => .inl (p2.nw z a e)
      by_cases hv : ∃ i, e = .var i
      · obtain ⟨i, rfl⟩ := hv
        have hs : (match σ[i]? with
          | some (.mu d) => R.ok (Fl.ret d true (σ.set i .no))
          | some (.im d) => .ok (.ret d false σ)
          | _ => .bad) = R.ok fl := hs
        split at hs
        · rename_i d ei
          cases hs
          refine ⟨Mo, σ, .r i, false, σ, r, by unfold ev; simp only [ei], fun v H1 p => ?_⟩
          have hh : Held σ i d := ⟨_, ei, rfl⟩
          have hi := lt_of_some ei
          have hV : σV[i]? = some (some v) := p.val
          obtain ⟨a, rfl, na, ow⟩ := p.rel.mu_own hh hV
          have hm : ∀ b, muts (σ.set i .no) σV b → muts σ σV b ∧ b ≠ a := fun b => by
            rintro ⟨j, e, hj, hv⟩
            obtain ⟨q, hj'⟩ := (held_off rfl hi).mp hj
            exact ⟨⟨j, e, hj', hv⟩, fun z => q (p.rel.ne j i e d a hj' hh (by rw [← z]; exact hv) hV)⟩
          have hz : ∀ b, Mu (Zp Mo a) (σ.set i .no) σV b → Mu Mo σ σV b := fun b z => by
            rcases z with (z | z) | z
            · exact .inl z
            · rw [z]; exact .inr ⟨i, d, hh, hV⟩
            · exact .inr (hm b z).1
          have rel2 : ∀ (Mq : Zone), (∀ b, Mq b → Zp Mo a b) → (∀ b, Mq b → H1 b ≠ none) → Rel T.W Mq (σ.set i .no) σV H1 := fun Mq hq ht => by
            have hzq : ∀ b, Mu Mq (σ.set i .no) σV b → Mu Mo σ σV b ∨ H1 b = none := fun b z => .inl (hz b (z.elim (fun z => .inl (hq b z)) .inr))
            refine ⟨by rw [List.length_set]; exact r.len, fun j e hj => ?_, fun j e hj => ?_, fun j k e e2 b hj hk h1 h2 => ?_, ht⟩
            · by_cases q : j = i
              · subst q
                rw [List.getElem?_set_self hi] at hj
                cases hj
              · rw [List.getElem?_set_ne (Ne.symm q)] at hj
                obtain ⟨u, h1, h2⟩ := p.rel.im j e hj
                exact ⟨u, h1, h2.step (Mw := Z0) .refl (fun _ z => z.elim) hzq⟩
            · obtain ⟨q, hj'⟩ := (held_off rfl hi).mp hj
              obtain ⟨b, h1, h2, h3⟩ := p.rel.mu j e hj'
              refine ⟨b, h1, fun z => ?_, h3.step (Mw := Z0) .refl (fun z => z) (fun _ z => z.elim) hzq⟩
              rcases hq b z with z | z
              · exact h2 z
              · exact q (p.rel.ne j i e d a hj' hh (by rw [← z]; exact h1) hV)
            · exact p.rel.ne j k e e2 b ((held_off rfl hi).mp hj).2 ((held_off rfl hi).mp hk).2 h1 h2
          have ta : H1 a ≠ none := ow.some
          refine k (.ref a) σV H1 ⟨p.fr, p.dm, fun b z => .inl (p.mm b (hm b z).1), fun b z => .inl (p.wm b (wrt_off rfl hi z)), fun j e ej => ⟨ej.set ei (fun c z => nomatch z), rfl⟩, rfl, rel2 Mo (fun b z => .inl z) p.rel.tr⟩ ⟨a, rfl, ?_, ow.step (Mw := Z0) .refl (fun z => z) (fun _ z => z.elim) (fun b z => .inl ?_), rel2 (Zp Mo a) (fun b z => z) (fun b z => z.elim (p.rel.tr b) fun e => by rw [e]; exact ta)⟩ ?_
          · rintro (z | z)
            · exact na z
            · exact (hm a z).2 rfl
          · rcases z with (z | z) | z
            · exact .inl z
            · exact .inr (hm b z).1
            · rw [z]; exact .inr ⟨i, d, hh, hV⟩
          · intro _ q eq
            cases eq
            exact .inr ⟨i, d, _, ei, rfl, (by intro q e; cases e), hV⟩
        · rename_i d ei
          cases hs
          refine ⟨Mo, σ, .v d, false, σ, r, by unfold ev; simp only [ei], fun v H1 p => k v σV H1 p.toS p.val fun z a e => .inl (p.nw z a e)⟩
        · cases hs
      · have hs' : ex C (.ret e) σ = ((ev C e σ).bind fun x => (fz x).bind fun x => .ok (.ret x.1 x.2.1 x.2.2)) := by
          cases e <;> first | rfl | exact absurd ⟨_, rfl⟩ hv
        rw [hs'] at hs
        exact gen hs
  | _ => simp [chkS] at h
end
end Mini

set_option Elab.async false
set_option linter.all false
set_option maxRecDepth 100000
set_option maxHeartbeats 8000000
/-! ## if, while, for -/
namespace Mini
open PySem L2
section
variable {T : Tb} {C : Cb} {n : Nat} {X : Cx} {sc : Scope}
structure SndS (T : Tb) (C : Cb) (c : S) (X : Cx) (sc : Scope) : Prop where
  s : ∀ st, chkS T sc c st = true → PS X st (tS T.W (ex C c))
  b : ∀ sts, chkB T sc c sts = true → PSs X sts (tS T.W (ex C c))
theorem snd_retn (o : Okay T C n X sc) {st : Stmt} (h : chkS T sc .retn st = true) : PS X st (tS T.W (ex C .retn)) := by
  cases st with
  | Return v pos =>
    cases v with
    | some v => simp [chkS] at h
    | none =>
      refine PS.weak ps_retN fun De σV H q => ?_
      obtain ⟨Mo, σ, fl, r, hs, k⟩ := q
      cases hs
      exact k .non σV H (.refl r) .non fun z => nomatch z
  | _ => simp [chkS] at h
theorem nx_read {f : Fm → R Fl} (hf : ∀ σ, f σ = .ok (.nx σ)) {De : Ends} {σV : L2.St} {H : Hp} (q : tS T.W f De σV H) : tNext De σV H := by
  obtain ⟨Mo, σ, fl, r, hs, k⟩ := q
  rw [hf] at hs
  cases hs
  exact k σV H (.refl r)
theorem snd_pass (o : Okay T C n X sc) {st : Stmt} (h : chkS T sc .pass st = true) : PS X st (tS T.W (ex C .pass)) := by
  cases st with
  | Pass pos => exact PS.weak ps_pass fun De σV H q => nx_read (fun _ => rfl) q
  | Expr v pos =>
    cases v with
    | Constant c k p =>
      cases c with
      | str z => exact PS.weak ps_doc fun De σV H q => nx_read (fun _ => rfl) q
      | _ => simp [chkS] at h
    | _ => simp [chkS] at h
  | _ => simp [chkS] at h
theorem snd_brk (o : Okay T C n X sc) {st : Stmt} (h : chkS T sc .brk st = true) : PS X st (tS T.W (ex C .brk)) := by
  cases st with
  | Break pos =>
    refine PS.weak ps_break fun De σV H q => ?_
    obtain ⟨Mo, σ, fl, r, hs, k⟩ := q
    cases hs
    exact k σV H (.refl r)
  | _ => simp [chkS] at h
theorem snd_ct (o : Okay T C n X sc) {st : Stmt} (h : chkS T sc .ct st = true) : PS X st (tS T.W (ex C .ct)) := by
  cases st with
  | Continue pos =>
    refine PS.weak ps_continue fun De σV H q => ?_
    obtain ⟨Mo, σ, fl, r, hs, k⟩ := q
    cases hs
    exact k σV H (.refl r)
  | _ => simp [chkS] at h
theorem snd_expr (o : Okay T C n X sc) {e : E} {st : Stmt} (h : chkS T sc (.expr e) st = true) : PS X st (tS T.W (ex C (.expr e))) := by
  cases st with
  | Expr v pos =>
    simp only [chkS, Bool.and_eq_true, Bool.not_eq_true'] at h
    refine PS.weak (ps_expr ((sndE o e).e v h.1) (sw_plain h.2)) fun De σV H q => ?_
    obtain ⟨Mo, σ, fl, r, hs, k⟩ := q
    have hs : ((ev C e σ).bind fun x => .ok (.nx x.2.2)) = R.ok fl := hs
    obtain ⟨⟨x, ow, σ1⟩, g1, hs⟩ := bind_inv hs
    cases hs
    exact ⟨Mo, σ, x, ow, σ1, r, g1, fun v H1 p => k σV H1 p.toS⟩
  | _ => simp [chkS] at h
theorem snd_ifS (o : Okay T C n X sc) {t : E} {a b : S} (ha : SndS T C a X sc) (hb : SndS T C b X sc) {st : Stmt} (h : chkS T sc (.ife t a b) st = true) : PS X st (tS T.W (ex C (.ife t a b))) := by
  cases st with
  | If c x y pos =>
    simp only [chkS, Bool.and_eq_true] at h
    refine PS.weak (ps_if ((sndE o t).t c h.1.1) (ha.b x h.1.2) (hb.b y h.2)) fun De σV H q => ?_
    obtain ⟨Mo, σ, fl, r, hs, k⟩ := q
    have hs : ((tst (ev C t σ)).bind fun x => if x.1 then ex C a x.2 else ex C b x.2) = R.ok fl := hs
    obtain ⟨⟨d, σ1⟩, g1, hs⟩ := bind_inv hs
    refine ⟨Mo, σ, d, σ1, r, g1, fun H1 p => ?_⟩
    cases d with
    | true => exact ⟨Mo, σ1, fl, p.rel, hs, k.back p.toS⟩
    | false => exact ⟨Mo, σ1, fl, p.rel, hs, k.back p.toS⟩
  | _ => simp [chkS] at h
theorem snd_whl (o : Okay T C n X sc) (df : Def X) {t : E} {b : S} (hb : SndS T C b X sc) {st : Stmt} (h : chkS T sc (.whl t b) st = true) : PS X st (tS T.W (ex C (.whl t b))) := by
  cases st with
  | While c x y pos =>
    cases y with
    | cons _ _ => simp [chkS] at h
    | nil =>
    simp only [chkS, Bool.and_eq_true] at h
    refine PS.weak (ps_while df.own ((sndE o t).t c h.1) (hb.b x h.2)) fun De σV H q => ?_
    obtain ⟨Mo, σ, fl, r, hs, k⟩ := q
    have hs : whileLoop (fun σ => tst (ev C t σ)) (ex C b) C.lim σ = .ok fl := hs
    refine ⟨fun m σV H => ∃ σ, Rel T.W Mo σ σV H ∧ whileLoop (fun σ => tst (ev C t σ)) (ex C b) m σ = .ok fl ∧ flS T.W Mo σ σV H De fl, ⟨C.lim, σ, r, hs, k⟩, ?_⟩
    clear hs k r
    rintro m σV H ⟨σ, r, hs, k⟩
    cases m with
    | zero => cases hs
    | succ m =>
      have hs : ((tst (ev C t σ)).bind fun x => if x.1 then (ex C b x.2).bind fun
          | .nx σ' => whileLoop (fun σ => tst (ev C t σ)) (ex C b) m σ'
          | .ct σ' => whileLoop (fun σ => tst (ev C t σ)) (ex C b) m σ'
          | .brk σ' => .ok (.nx σ')
          | .ret d o σ' => .ok (.ret d o σ')
        else .ok (.nx x.2)) = R.ok fl := hs
      obtain ⟨⟨d, σ1⟩, g1, hs⟩ := bind_inv hs
      refine ⟨Mo, σ, d, σ1, r, g1, fun H1 p => ?_⟩
      have k1 := k.back p.toS
      cases d with
      | false =>
        cases hs
        exact iteF (k σV H1 p.toS)
      | true =>
        have hs : ((ex C b σ1).bind fun
          | .nx σ' => whileLoop (fun σ => tst (ev C t σ)) (ex C b) m σ'
          | .ct σ' => whileLoop (fun σ => tst (ev C t σ)) (ex C b) m σ'
          | .brk σ' => .ok (.nx σ')
          | .ret d o σ' => .ok (.ret d o σ')) = R.ok fl := hs
        obtain ⟨f1, g2, hs⟩ := bind_inv hs
        refine iteT ⟨fun σV H => ∃ σ, Rel T.W Mo σ σV H ∧ whileLoop (fun σ => tst (ev C t σ)) (ex C b) m σ = .ok fl ∧ flS T.W Mo σ σV H De fl, fun σ' H' q => ⟨m, by omega, q⟩, Mo, σ1, f1, p.rel, g2, ?_⟩
        cases f1 with
        | nx σ2 => exact fun σV' H' q => ⟨σ2, q.rel, hs, k1.back q⟩
        | ct σ2 => exact fun σV' H' q => ⟨σ2, q.rel, hs, k1.back q⟩
        | brk σ2 => cases hs; exact k1
        | ret d o σ2 => cases hs; exact k1
  | _ => simp [chkS] at h
end
end Mini

set_option Elab.async false
set_option linter.all false
set_option maxRecDepth 100000
set_option maxHeartbeats 8000000
namespace Mini
open PySem L2
theorem PostI.toS {W : Wd} {Mo : Zone} {σ σ1 : Fm} {σV : L2.St} {H H1 : Hp} {ds : List D} {lk : Opd} {J : It} (p : PostI W Mo σ σV H ds lk σ1 H1 J) : PostS W Mo σ σV H σ1 σV H1 :=
  ⟨p.fr, p.dm, fun a z => .inl (p.mm a z), fun a z => .inl (p.wm a z), fun i b e => ⟨p.ios i b e, rfl⟩, rfl, p.rel⟩
theorem unl_post {W : Wd} {Mo : Zone} {σ σ1 σ2 σ3 : Fm} {σV σV2 : L2.St} {H H1 Hc : Hp} {ds : List D} {lk : Opd} {J : It} (p : PostI W Mo σ σV H ds lk σ1 H1 J) (q : PostS W Mo σ1 σV H1 σ2 σV2 Hc) (h : unlock lk σ2 = .ok σ3) :
    PostS W Mo σ σV H σ3 σV2 Hc := by
  have P := p.toS.trans q
  cases lk with
  | v x =>
    cases h
    exact P
  | r i =>
    have h : (match σ2[i]? with | some (.lk d) => R.ok (σ2.set i (.mu d)) | _ => .bad) = .ok σ3 := h
    split at h
    · rename_i d eb
      cases h
      obtain ⟨d0, a0, q1, q2, q3, q4⟩ := p.un i rfl
      obtain ⟨_, q5⟩ := q.ios i false ⟨_, q1, rfl⟩
      have hh : Held σ2 i d := ⟨_, eb, rfl⟩
      have ea : σV2[i]? = some (some (.ref a0)) := by rw [q5]; exact q2
      obtain ⟨a, ea2, na, ow⟩ := q.rel.mu i d hh
      rw [ea] at ea2
      cases ea2
      refine ⟨P.fr, P.dm, fun b z => P.mm b ((muts_set hh rfl).mp z), fun b z => ?_, fun j b ej => ?_, P.len, q.rel.upd hh rfl ea .refl (fun b z => z) (fun b z => z) (fun b z => .inl z) q.rel.tr ow⟩
      · obtain ⟨j, s, e, ej, hw, hv⟩ := z
        by_cases e1 : j = i
        · subst e1
          rw [ea] at hv
          cases hv
          exact .inl q3
        · rw [List.getElem?_set_ne (Ne.symm e1)] at ej
          exact P.wm b ⟨j, s, e, ej, hw, hv⟩
      · have n : j ≠ i := fun z => q4 b (by rw [← z]; exact ej)
        obtain ⟨⟨s, h1, h2⟩, h3⟩ := P.ios j b ej
        exact ⟨⟨s, by rw [List.getElem?_set_ne (Ne.symm n)]; exact h1, h2⟩, h3⟩
    · cases h
section
variable {T : Tb} {C : Cb} {n : Nat} {X : Cx} {sc : Scope}
noncomputable def forF (C : Cb) (t : E) (b : S) : D → Fm → R Fl := fun d σ' => (putT t d σ').bind fun σ1 => ex C b σ1
theorem snd_for (o : Okay T C n X sc) (df : Def X) {t it : E} {b : S} (hb : SndS T C b X sc) {st : Stmt} (h : chkS T sc (.for t it b) st = true) : PS X st (tS T.W (ex C (.for t it b))) := by
  cases st with
  | For tg iter x y pos =>
    cases y with
    | cons _ _ => simp [chkS] at h
    | nil =>
    simp only [chkS, Bool.and_eq_true] at h
    obtain ⟨⟨h1, h2⟩, h3⟩ := h
    have A := fun c => sndE (C := C) (n := n) o c
    refine PS.weak (ps_for df.own o.calm (sound_it o (fun a e => A a) h2) ((sound_tgt (dl := true) o (fun _ => df.fn) t).1 tg h1) (hb.b x h3) (folded_plain (chkI_plain h2))) fun De σV H q => ?_
    obtain ⟨Mo, σ, fl, r, hs, k⟩ := q
    have hs : ((evI C it σ).bind fun x => (forLoop (forF C t b) x.1 x.2.2).bind fun
      | .nx σ' => (unlock x.2.1 σ').bind fun σ2 => .ok (.nx σ2)
      | f => .ok f) = R.ok fl := hs
    obtain ⟨⟨ds, lk, σ1⟩, g1, hs⟩ := bind_inv hs
    obtain ⟨fl1, g2, hs⟩ := bind_inv hs
    have hs : (match (generalizing := false) fl1 with
      | .nx σ' => (unlock lk σ').bind fun σ2 => .ok (.nx σ2)
      | f => .ok f) = R.ok fl := hs
    refine ⟨Mo, σ, ds, lk, σ1, r, g1, fun J H1 p => ?_⟩
    -- the end by a break or behind the last turn
    have fin : ∀ {σ2 : Fm} {σV2 : L2.St} {Hc : Hp}, fl1 = .nx σ2 → PostS T.W Mo σ1 σV H1 σ2 σV2 Hc → De.nx σV2 Hc := fun {σ2 σV2 Hc} e q => by
      subst e
      have hs : ((unlock lk σ2).bind fun σ2 => .ok (.nx σ2)) = R.ok fl := hs
      obtain ⟨σ3, g3, hs⟩ := bind_inv hs
      cases hs
      exact k σV2 Hc (unl_post p q g3)
    have g2 : forLoop (forF C t b) ds σ1 = .ok fl1 := g2
    refine ⟨fun i m σV2 Hc => m = ds.length - i ∧ i ≤ ds.length ∧ ∃ σ2, PostS T.W Mo σ1 σV H1 σ2 σV2 Hc ∧ forLoop (forF C t b) (ds.drop i) σ2 = .ok fl1, ⟨ds.length, by omega, Nat.zero_le _, σ1, .refl p.rel, g2⟩, ?_⟩
    rintro i m σV2 Hc ⟨rfl, hi, σ2, P, hl⟩
    obtain ⟨itGo, itStop, itYld⟩ := p.it Hc (P.fr.mono fun _ z => .inl z)
    by_cases hlt : i < ds.length
    · refine .inr ⟨itGo i hlt, fun σV3 H3 => i + 1 ≤ ds.length ∧ ∃ σ3, PostS T.W Mo σ1 σV H1 σ3 σV3 H3 ∧ forLoop (forF C t b) (ds.drop (i + 1)) σ3 = .ok fl1, fun σV3 H3 q => ⟨ds.length - (i + 1), by omega, rfl, q.1, q.2⟩, fun x H2 hy => ?_⟩
      obtain ⟨f2, d, hd, dn⟩ := itYld i x H2 (Mu Mo σ2 σV2) hlt hy (fun b z => z.elim (fun z => .inl (.inl z)) fun z => (P.mm b z).elim (fun z => .inl (.inr z)) .inr) (fun a z => P.rel.mu_tr z)
      have hdrop : ds.drop i = d :: ds.drop (i + 1) := by
        rw [List.drop_eq_getElem_cons hlt]
        rw [List.getElem?_eq_getElem hlt] at hd
        rw [Option.some.inj hd]
      rw [hdrop] at hl
      have hl : ((forF C t b d σ2).bind fun
        | .nx σ' => forLoop (forF C t b) (ds.drop (i + 1)) σ'
        | .ct σ' => forLoop (forF C t b) (ds.drop (i + 1)) σ'
        | .brk σ' => .ok (.nx σ')
        | .ret d o σ' => .ok (.ret d o σ')) = R.ok fl1 := hl
      obtain ⟨f1, g3, hl⟩ := bind_inv hl
      have g3 : ((putT t d σ2).bind fun σ1 => ex C b σ1) = R.ok f1 := g3
      obtain ⟨σ3, g4, g5⟩ := bind_inv g3
      have P2 : PostS T.W Mo σ1 σV H1 σ2 σV2 H2 := P.trans ⟨f2.mono fun _ z => z.elim, fun a z => f2.dom a z, fun a z => .inl z, fun a z => .inl z, fun _ _ e => ⟨e, rfl⟩, rfl, P.rel.grow f2⟩
      refine ⟨Mo, σ2, d, σ3, P2.rel, dn, g4, fun σV3 pT => ?_⟩
      have P3 := P2.trans pT.toS
      refine ⟨Mo, σ3, f1, pT.rel, g5, ?_⟩
      cases f1 with
      | nx σ4 => exact fun σV4 H4 q => ⟨hlt, σ4, P3.trans q, hl⟩
      | ct σ4 => exact fun σV4 H4 q => ⟨hlt, σ4, P3.trans q, hl⟩
      | brk σ4 =>
        have e : fl1 = .nx σ4 := by
          have hl : R.ok (Fl.nx σ4) = .ok fl1 := hl
          cases hl
          rfl
        exact fun σV4 H4 q => fin e (P3.trans q)
      | ret d' o' σ4 =>
        have e : fl1 = .ret d' o' σ4 := by
          have hl : R.ok (Fl.ret d' o' σ4) = .ok fl1 := hl
          cases hl
          rfl
        subst e
        have hs : R.ok (Fl.ret d' o' σ4) = .ok fl := hs
        cases hs
        exact k.back (p.toS.trans P3)
    · have ei : i = ds.length := by omega
      subst ei
      rw [List.drop_length] at hl
      have hl : R.ok (Fl.nx σ2) = .ok fl1 := hl
      cases hl
      exact .inl ⟨itStop _ (Nat.le_refl _), fin rfl P⟩
  | _ => simp [chkS] at h
end
end Mini

set_option Elab.async false
set_option linter.all false
set_option maxRecDepth 100000
set_option maxHeartbeats 8000000
/-! ## what a slot owns is changed -/
namespace Mini
open PySem L2
section
variable {W : Wd} {H H' H1 : Hp} {M Mo : Zone} {σ σ1 σ' : Fm} {σV : L2.St} {d d' : D} {i : Nat} {a : Addr} {s s' : Slot}
theorem post_up (r : Rel W Mo σ σV H) (hs : σ[i]? = some s) (hw : s.wr = some d) (hw' : s'.wr = some d') (hp : ∀ c, s.pin = some c → s'.pin = some c) (ha : σV[i]? = some (some (.ref a))) (f : Fr (fun b => b = a) H H') (dm : ∀ b, H b ≠ none → H' b ≠ none)
    (ow : Own W H' (Mu Mo σ σV) a d') : PostS W Mo σ σV H (σ.set i s') σV H' := by
  have hh : Held σ i d := ⟨s, hs, wr_held hw⟩
  have h' := wr_held hw'
  refine ⟨f.mono fun b e => by rw [show b = a from e]; exact ⟨i, s, d, hs, hw, ha⟩, dm, fun b z => .inl ((muts_set hh h').mp z), fun b z => .inl ((wrt_set hs hw hw').mp z), fun j b ej => ⟨ej.set hs hp, rfl⟩, rfl, ?_⟩
  exact r.upd hh h' ha f dm (fun b z => z) (fun b z => .inl z) (fun b z => dm b (r.tr b z)) ow
theorem upS_inv {f : D → R D} (h : upS i f σ = .ok σ') : ∃ s d d' s', σ[i]? = some s ∧ s.wr = some d ∧ f d = .ok d' ∧ σ' = σ.set i s' ∧ s'.wr = some d' ∧ ∀ c, s.pin = some c → s'.pin = some c := by
  unfold upS at h
  split at h
  · rename_i d e
    obtain ⟨d', h1, h2⟩ := bind_inv h
    cases h2
    exact ⟨_, d, d', .mu d', e, rfl, h1, rfl, rfl, fun c z => z⟩
  · rename_i d e
    obtain ⟨d', h1, h2⟩ := bind_inv h
    cases h2
    exact ⟨_, d, d', .io d', e, rfl, h1, rfl, rfl, fun c z => z⟩
  · cases h
/-- the list that slot i owns takes other elements -/
theorem post_list {ds' : List D} {vs' : List V} (r : Rel W Mo σ σV H) (hs : σ[i]? = some s) (hw : s.wr = some d) (hw' : s'.wr = some (.lst ds')) (hp : ∀ c, s.pin = some c → s'.pin = some c) (ha : σV[i]? = some (some (.ref a)))
    (l : DenL W H (Mu Mo σ σV) ds' vs') : PostS W Mo σ σV H (σ.set i s') σV (upd H a (.lst vs')) := by
  have fu : Fr (fun b => b = a) H (upd H a (.lst vs')) := fr_upd fun xs z => r.nt z ⟨i, s, d, hs, hw, ha⟩
  refine post_up r hs hw hw' hp ha fu (fun b z => dm_upd b z) (.lst upd_same (l.step fu (fun b e => ?_) fun b z => .inl z))
  rw [show b = a from e]
  exact .inr ⟨i, d, ⟨s, hs, wr_held hw⟩, ha⟩
end
section
variable {T : Tb} {C : Cb} {n : Nat} {X : Cx} {sc : Scope}
theorem snd_app (o : Okay T C n X sc) {i : Nat} {e : E} {st : Stmt} (h : chkS T sc (.app i e) st = true) : PS X st (tS T.W (ex C (.app i e))) := by
  unfold chkS at h
  split at h <;> first | (rename_i h0; cases h0; done) | skip
  all_goals first | (cases h; done) | skip
  rename_i x p m ap y cp pos
  simp only [Bool.and_eq_true, decide_eq_true_eq] at h
  obtain ⟨⟨⟨rfl, h1⟩, h2⟩, h3⟩ := h
  have hv := snd_var o (i := i) h1
  have pl : starEach [y] X.env = [(false, eval y X.env)] := star_plain (chk_plain h3)
  refine PS.weak (ps_expr (pe_bm PySem.F.plainAttrs_list PySem.F.slot_list_append PySem.F.type_list_append mt_append hv (pa_cons ((sndE o e).e y h3) pa_nil (by rw [pl]; rfl)) rfl (by rw [pl]; rfl) h2 (by rw [pl]; rfl) rfl) rfl) fun De σV H q => ?_
  obtain ⟨Mo, σ, fl, r, hs, k⟩ := q
  have hs : ((isL i σ).bind fun _ => (ev C e σ).bind fun x => (fz x).bind fun x => (upS i (appD x.1) x.2.2).bind fun σ' => .ok (.nx σ')) = R.ok fl := hs
  obtain ⟨_, g0, hs⟩ := bind_inv hs
  obtain ⟨⟨x, ow, σ1⟩, g1, hs⟩ := bind_inv hs
  obtain ⟨⟨d, o', σ2⟩, g2, hs⟩ := bind_inv hs
  obtain ⟨σ3, g3, hs⟩ := bind_inv hs
  cases hs
  obtain ⟨s0, ds0, e0, w0⟩ := isL_inv g0
  obtain ⟨s, dd, d', s', f1, f2, f3, f4, f5, f6⟩ := upS_inv g3
  refine ⟨Mo, σ, .r i, false, σ, r, (ev_own C e0 w0).1, fun v0 H0 p0 => ?_⟩
  obtain ⟨a, vs0, rfl, ea, ha0, _⟩ := p0.rel.own_lst e0 w0 (show σV[i]? = some (some v0) from p0.val)
  refine ⟨.inl ⟨rfl, vs0, .of ha0⟩, Mo, σ, x, ow, σ1, p0.rel, g1, fun v H1 p1 => ?_⟩
  have p2 := p1.freeze g2
  unfold appD at f3
  split at f3
  · rename_i ds
    obtain ⟨f7, f3⟩ := guard_inv f3
    have f7 := of_decide_eq_true f7
    cases f3
    obtain ⟨a', vs, e1, _, ha, la⟩ := p2.rel.own_lst f1 f2 ea
    cases e1
    refine ⟨a, vs, v, rfl, rfl, ha, by rw [← la.length, sizeLine_eq]; exact f7, ?_⟩
    have P := post_list p2.rel f1 f2 f5 f6 ea (la.append (.cons p2.val.drop .nil))
    rw [f4] at k
    exact k σV _ ((p0.toS.trans p2.toS).trans P)
  · cases f3
end
end Mini

set_option Elab.async false
set_option linter.all false
set_option maxRecDepth 100000
set_option maxHeartbeats 8000000
namespace Mini
open PySem L2
section
variable {T : Tb} {C : Cb} {n : Nat} {X : Cx} {sc : Scope}
theorem extD_inv {y x d' : D} (h : extD y x = .ok d') : ∃ ds ms, x = .lst ds ∧ y = .lst ms ∧ ds.length + ms.length ≤ sizeLine ∧ d' = .lst (ds ++ ms) := by
  unfold extD at h
  split at h
  · obtain ⟨h1, h⟩ := guard_inv h
    cases h
    exact ⟨_, _, rfl, rfl, size_ok h1, rfl⟩
  · cases h
theorem setD_inv {k y x d' : D} (h : setD k y x = .ok d') : ∃ ds kk, x = .lst ds ∧ k = .int kk ∧ (0 ≤ kk ∧ kk < (ds.length : Int)) ∧ d' = .lst (ds.set kk.toNat y) := by
  unfold setD at h
  split at h
  · by_cases hk : 0 ≤ ‹Int› ∧ ‹Int› < ((‹List D› : List D).length : Int)
    · rw [if_pos hk] at h
      cases h
      exact ⟨_, _, rfl, rfl, hk, rfl⟩
    · rw [if_neg hk] at h
      cases h
  · cases h
theorem snd_ext (o : Okay T C n X sc) {i : Nat} {e : E} {st : Stmt} (h : chkS T sc (.ext i e) st = true) : PS X st (tS T.W (ex C (.ext i e))) := by
  unfold chkS at h
  split at h <;> first | (rename_i h0; cases h0; done) | skip
  all_goals first | (cases h; done) | skip
  rename_i x p m ap y cp pos
  simp only [Bool.and_eq_true, decide_eq_true_eq] at h
  obtain ⟨⟨⟨rfl, h1⟩, h2⟩, h3⟩ := h
  have hv := snd_var o (i := i) h1
  have pl : starEach [y] X.env = [(false, eval y X.env)] := star_plain (chk_plain h3)
  refine PS.weak (ps_expr (pe_bm PySem.F.plainAttrs_list PySem.F.slot_list_extend PySem.F.type_list_extend mt_extend hv (pa_cons ((sndE o e).e y h3) pa_nil (by rw [pl]; rfl)) rfl (by rw [pl]; rfl) h2 (by rw [pl]; rfl) rfl) rfl) fun De σV H q => ?_
  obtain ⟨Mo, σ, fl, r, hs, k⟩ := q
  have hs : ((isL i σ).bind fun _ => (val (ev C e σ)).bind fun x => (upS i (extD x.1) x.2).bind fun σ' => .ok (.nx σ')) = R.ok fl := hs
  obtain ⟨_, g0, hs⟩ := bind_inv hs
  obtain ⟨⟨d, σ1⟩, g1, hs⟩ := bind_inv hs
  obtain ⟨x, ow, g1, g2⟩ := val_inv g1
  obtain ⟨σ3, g3, hs⟩ := bind_inv hs
  cases hs
  obtain ⟨s0, ds0, e0, w0⟩ := isL_inv g0
  obtain ⟨s, dd, d', s', f1, f2, f3, f4, f5, f6⟩ := upS_inv g3
  refine ⟨Mo, σ, .r i, false, σ, r, (ev_own C e0 w0).1, fun v0 H0 p0 => ?_⟩
  obtain ⟨a, vs0, rfl, ea, ha0, _⟩ := p0.rel.own_lst e0 w0 (show σV[i]? = some (some v0) from p0.val)
  refine ⟨.inl ⟨rfl, vs0, .of ha0⟩, Mo, σ, x, ow, σ1, p0.rel, g1, fun v H1 p1 => ?_⟩
  have dv := p1.val.rd p1.rel g2
  obtain ⟨ds, ms, rfl, rfl, f7, rfl⟩ := extD_inv f3
  obtain ⟨a', vs, e1, _, ha, la⟩ := p1.rel.own_lst f1 f2 ea
  cases e1
  obtain ⟨b, zs, rfl, hb, lb⟩ := dv.lst
  refine ⟨a, b, vs, zs, rfl, rfl, ha, hb, by rw [← la.length, ← lb.length]; exact f7, ?_⟩
  have P := post_list (ds' := ds ++ ms) p1.rel f1 f2 f5 f6 ea (la.append lb)
  rw [f4] at k
  exact k σV _ ((p0.toS.trans p1.toS).trans P)
theorem sub_plain {o i : Expr} {p : Pos} {env : PySem.Env} (h : plainE i = true) (v : Value) : assign (.Subscript o i p) env v = (do
      let ov ← holding [v] (eval o env)
      let iv ← holding [v, ov] (eval i env)
      standAt p
      holding [v, ov, iv] (setItem ov iv v)
      release [v, ov, iv] []) := by
  cases i <;> first | rfl | (simp [plainE] at h)
theorem aug_plain {i : Expr} (h : plainE i = true) (ov iv new : Value) : augStore i ov iv new = (do holding [new, ov, iv] (setItem ov iv new); release [new, ov, iv] []; pure .next) := by
  cases i <;> first | rfl | (simp [plainE] at h)
theorem ixN_pos {k : Int} {l : Nat} (h : 0 ≤ k ∧ k < (l : Int)) : ixN l k = some k.toNat := by
  unfold ixN
  rw [if_pos h.1, if_pos h.2]
theorem snd_seti (o : Okay T C n X sc) {i : Nat} {kx e : E} {st : Stmt} (h : chkS T sc (.seti i kx e) st = true) : PS X st (tS T.W (ex C (.seti i kx e))) := by
  unfold chkS at h
  split at h <;> first | (rename_i h0; cases h0; done) | skip
  all_goals first | (cases h; done) | skip
  rename_i x p ix sp v pos
  simp only [Bool.and_eq_true, Bool.not_eq_true'] at h
  obtain ⟨⟨⟨h1, h2⟩, h3⟩, h4⟩ := h
  have hv := snd_var o (i := i) h1
  refine PS.weak (ps_asg ((sndE o e).e v h3) (pg_sub hv ((sndE o kx).e ix h2) set_list (sub_plain (chk_plain h2))) (swS_plain h4) rfl rfl) fun De σV H q => ?_
  obtain ⟨Mo, σ, fl, r, hs, k⟩ := q
  have hs : ((ev C e σ).bind fun x => (fz x).bind fun x => (isL i x.2.2).bind fun _ => (val (ev C kx x.2.2)).bind fun y => (upS i (setD y.1 x.1) y.2).bind fun σ' => .ok (.nx σ')) = R.ok fl := hs
  obtain ⟨⟨x1, ow, σ1⟩, g1, hs⟩ := bind_inv hs
  obtain ⟨⟨d, o', σ2⟩, g2, hs⟩ := bind_inv hs
  obtain ⟨_, g0, hs⟩ := bind_inv hs
  obtain ⟨⟨dk, σ3⟩, g3, hs⟩ := bind_inv hs
  obtain ⟨x2, ow2, g3, g4⟩ := val_inv g3
  obtain ⟨σ4, g5, hs⟩ := bind_inv hs
  cases hs
  obtain ⟨s0, ds0, e0, w0⟩ := isL_inv g0
  obtain ⟨s, dd, d', s', f1, f2, f3, f4, f5, f6⟩ := upS_inv g5
  refine ⟨Mo, σ, x1, ow, σ1, r, g1, fun v1 H1 p1 => ?_⟩
  have p2 := p1.freeze g2
  refine ⟨Mo, σ2, .r i, false, σ2, p2.rel, (ev_own C e0 w0).1, fun v0 H0 p0 => ?_⟩
  obtain ⟨a, vs0, rfl, ea, ha0, _⟩ := p0.rel.own_lst e0 w0 (show σV[i]? = some (some v0) from p0.val)
  refine ⟨Mo, σ2, x2, ow2, σ3, p0.rel, g3, fun vk H2 p3 => ?_⟩
  have dk' := p3.val.rd p3.rel g4
  have dv : Den T.W H2 (Mu Mo σ3 σV) d v1 := VR.step (VR.step p2.val p0) p3
  obtain ⟨ds, kk, rfl, rfl, hk, rfl⟩ := setD_inv f3
  cases dk'.int
  obtain ⟨a', vs, e1, _, ha, la⟩ := p3.rel.own_lst f1 f2 ea
  cases e1
  refine ⟨a, vs, kk, kk.toNat, rfl, rfl, ha, ixN_pos (by rw [← la.length]; exact hk), ?_⟩
  have P := post_list (ds' := ds.set kk.toNat d) p3.rel f1 f2 f5 f6 ea (la.set kk.toNat dv)
  rw [f4] at k
  exact k σV _ (((p2.toS.trans p0.toS).trans p3.toS).trans P)
/-! ### d[k] = e -/
theorem isDc_inv {i : Nat} {σ : Fm} {u : Unit} (h : isDc i σ = .ok u) : ∃ s d, σ[i]? = some s ∧ s.wr = some d := by
  unfold isDc at h
  split at h
  · exact ⟨_, _, by assumption, rfl⟩
  · exact ⟨_, _, by assumption, rfl⟩
  · exact ⟨_, _, by assumption, rfl⟩
  · exact ⟨_, _, by assumption, rfl⟩
  · cases h
theorem snd_setd (o : Okay T C n X sc) {i : Nat} {kx e : E} {st : Stmt} (h : chkS T sc (.setd i kx e) st = true) : PS X st (tS T.W (ex C (.setd i kx e))) := by
  unfold chkS at h
  split at h <;> first | (rename_i h0; cases h0; done) | skip
  all_goals first | (cases h; done) | skip
  rename_i x p ix sp v pos
  simp only [Bool.and_eq_true, Bool.not_eq_true'] at h
  obtain ⟨⟨⟨h1, h2⟩, h3⟩, h4⟩ := h
  have hv := snd_var o (i := i) h1
  refine PS.weak (ps_asg ((sndE o e).e v h3) (pg_sub hv ((sndE o kx).e ix h2) (set_dict (by have := o.hu; omega)) (sub_plain (chk_plain h2))) (swS_plain h4) rfl rfl) fun De σV H q => ?_
  obtain ⟨Mo, σ, fl, r, hs, k⟩ := q
  have hs : ((ev C e σ).bind fun x => (fz x).bind fun x => (isDc i x.2.2).bind fun _ => (val (ev C kx x.2.2)).bind fun y => (upS i (setK y.1 x.1) y.2).bind fun σ' => .ok (.nx σ')) = R.ok fl := hs
  obtain ⟨⟨x1, ow, σ1⟩, g1, hs⟩ := bind_inv hs
  obtain ⟨⟨d, o', σ2⟩, g2, hs⟩ := bind_inv hs
  obtain ⟨_, g0, hs⟩ := bind_inv hs
  obtain ⟨⟨dk, σ3⟩, g3, hs⟩ := bind_inv hs
  obtain ⟨x2, ow2, g3, g4⟩ := val_inv g3
  obtain ⟨σ4, g5, hs⟩ := bind_inv hs
  cases hs
  obtain ⟨s0, ds0, e0, w0⟩ := isDc_inv g0
  obtain ⟨s, dd, d', s', f1, f2, f3, f4, f5, f6⟩ := upS_inv g5
  refine ⟨Mo, σ, x1, ow, σ1, r, g1, fun v1 H1 p1 => ?_⟩
  have p2 := p1.freeze g2
  refine ⟨Mo, σ2, .r i, false, σ2, p2.rel, (ev_own C e0 w0).1, fun v0 H0 p0 => ?_⟩
  obtain ⟨a, rfl, _, _⟩ := p0.rel.mu_own ⟨s0, e0, wr_held w0⟩ (show σV[i]? = some (some v0) from p0.val)
  have ea : σV[i]? = some (some (.ref a)) := p0.val
  refine ⟨Mo, σ2, x2, ow2, σ3, p0.rel, g3, fun vk H2 p3 => ?_⟩
  have dk' := p3.val.rd p3.rel g4
  have dv : Den T.W H2 (Mu Mo σ3 σV) d v1 := VR.step (VR.step p2.val p0) p3
  obtain ⟨a', e1, _, own⟩ := p3.rel.mu_own ⟨s, f1, wr_held f2⟩ ea
  cases e1
  rw [f4] at k
  have ma : ∀ b, (fun b => b = a) b → Mu Mo σ3 σV b := fun b e => by rw [show b = a from e]; exact .inr ⟨i, dd, ⟨s, f1, wr_held f2⟩, ea⟩
  have nt : ∀ xs, H2 a ≠ Option.some (HO.tup xs) := fun xs z => p3.rel.nt z ⟨i, s, dd, f1, f2, ea⟩
  have f3 : setK dk d dd = .ok d' := f3
  unfold setK at f3
  split at f3
  · obtain ⟨kk, t1, f3⟩ := of_inv f3
    obtain ⟨t2, f3⟩ := guard_inv f3
    cases f3
    have t2 := of_decide_eq_true t2
    cases keyD_den dk' t1
    cases own with
    | @dik ds1 kvs hb la =>
      have hz : kvs.length < sizeLine := by
        have q := t2.2
        rw [List.length_map] at q
        rw [sizeLine_eq]
        omega
      refine ⟨a, _, rfl, .k hb hz, ?_⟩
      have ow' : Own T.W (upd H2 a (.dK (putK kvs kk v1))) (Mu Mo σ3 σV) a (.dic ((putK kvs kk v1).map (·.1)) (putVs kk d (kvs.map (·.1)) _)) := .dik upd_same ((putV_den dv la).step (fr_upd nt) ma fun b z => .inl z)
      rw [putK_keys] at ow'
      exact k σV _ (((p2.toS.trans p0.toS).trans p3.toS).trans (post_up p3.rel f1 f2 f5 f6 ea (fr_upd nt) (fun b z => dm_upd b z) ow'))
  · split at f3
    · obtain ⟨kk, t1, f3⟩ := of_inv f3
      obtain ⟨t2, f3⟩ := guard_inv f3
      cases f3
      have t2 := of_decide_eq_true t2
      obtain ⟨c, ys, rfl, hc, mc, lc⟩ := dk'.tup
      cases keysD_den lc t1
      cases own with
      | @dit ds1 kvs hb la =>
        have hz : kvs.length < sizeLine := by
          have q := t2.2
          rw [List.length_map] at q
          rw [sizeLine_eq]
          omega
        refine ⟨a, _, rfl, .t hb hc hz, ?_⟩
        have ow' : Own T.W (upd H2 a (.dT (putK kvs kk v1))) (Mu Mo σ3 σV) a (.dit ((putK kvs kk v1).map (·.1)) (putVs kk d (kvs.map (·.1)) _)) := .dit upd_same ((putV_den dv la).step (fr_upd nt) ma fun b z => .inl z)
        rw [putK_keys] at ow'
        exact k σV _ (((p2.toS.trans p0.toS).trans p3.toS).trans (post_up p3.rel f1 f2 f5 f6 ea (fr_upd nt) (fun b z => dm_upd b z) ow'))
    · cases f3
  · cases f3
noncomputable def rGetL : V → V → Hp → VK → Prop := fun x y H Q => ∃ p ys k w, x = .ref p ∧ y = .int k ∧ H p = some (.lst ys) ∧ 0 ≤ k ∧ k < (ys.length : Int) ∧ ys[k.toNat]? = some w ∧ Q w H
theorem get_list : PGet X rGetL := by
  intro pins s σ H x y v u Q I rx ry h
  obtain ⟨p, xs, k, w, rfl, rfl, hp, h0, h1, hw, q⟩ := h
  cases rx
  obtain ⟨t, rfl⟩ := ry
  obtain ⟨its, r, pl, hz⟩ := I.list (.of hp)
  obtain ⟨w', ew, rw'⟩ := r.get hw
  have hn := line63
  exact PySem.wpAny_getItem_list pl.isList h0 (by omega) (by simpa using ew) ⟨w, H, I, rw', q⟩
noncomputable def rIp (op : Operator) : TIp := fun x y H Q => ∃ (i j : Int) (z : Int), x = .int i ∧ y = .int j ∧ ipD op (.int i) (.int j) = .ok (.int z) ∧ Q (.int z) H
theorem ip_of (op : Operator) : PIp X op (rIp op) := by
  intro pins s σ H x y v u Q I rx ry h
  obtain ⟨i, j, z, rfl, rfl, e, q⟩ := h
  cases op <;> first | (cases e; done) | skip
  · cases e
    exact ip_add pins s σ H _ _ v u Q I rx ry ⟨i, j, rfl, rfl, q⟩
  · cases e
    exact ip_sub pins s σ H _ _ v u Q I rx ry ⟨i, j, rfl, rfl, q⟩
theorem ipD_inv {op : Operator} {d e z : D} (h : ipD op d e = .ok z) : ∃ i j k : Int, d = .int i ∧ e = .int j ∧ z = .int k := by
  unfold ipD at h
  split at h <;> first | (cases h; exact ⟨_, _, _, rfl, rfl, rfl⟩) | cases h
theorem snd_aug (o : Okay T C n X sc) (df : Def X) {i : Nat} {op : Operator} {e : E} {st : Stmt} (h : chkS T sc (.aug i op e) st = true) : PS X st (tS T.W (ex C (.aug i op e))) := by
  cases st with
  | AugAssign tg op' v pos =>
    cases tg with
    | Name x p =>
      simp only [chkS, Bool.and_eq_true, decide_eq_true_eq] at h
      obtain ⟨⟨⟨rfl, h1⟩, h2⟩, h3⟩ := h
      refine PS.weak (ps_aug (i := i) o.nd (by rw [o.N]; exact h1) (loc_of o h2) ((sndE o e).e v h3) (ip_of op) (.inl (df.fn x))) fun De σV H q => ?_
      obtain ⟨Mo, σ, fl, r, hs, k⟩ := q
      have hs : (match σ[i]? with
        | some (.im d) => (val (ev C e σ)).bind fun y => (ipD op d y.1).bind fun z => (putS i z false y.2).bind fun σ' => .ok (.nx σ')
        | _ => .bad) = R.ok fl := hs
      split at hs
      · rename_i d ei
        obtain ⟨⟨y, σ1⟩, gv, hs⟩ := bind_inv hs
        obtain ⟨x1, ow, g1, g2⟩ := val_inv gv
        clear gv
        obtain ⟨z, g3, hs⟩ := bind_inv hs
        obtain ⟨σ2, g4, hs⟩ := bind_inv hs
        cases hs
        obtain ⟨ii, jj, kk, rfl, rfl, rfl⟩ := ipD_inv g3
        obtain ⟨v0, ev0, dv0⟩ := r.im i _ ei
        cases dv0
        refine ⟨_, ev0, Mo, σ, x1, ow, σ1, r, g1, fun v1 H1 p1 => ?_⟩
        cases (p1.val.rd p1.rel g2).int
        exact ⟨ii, jj, kk, rfl, rfl, g3, k _ _ (post_put (p1.new (.same (.int kk))) g4)⟩
      · cases hs
    | _ => simp [chkS] at h
  | _ => simp [chkS] at h
theorem snd_augi (o : Okay T C n X sc) {i : Nat} {kx e : E} {op : Operator} {st : Stmt} (h : chkS T sc (.augi i kx op e) st = true) : PS X st (tS T.W (ex C (.augi i kx op e))) := by
  unfold chkS at h
  split at h <;> first | (rename_i h0; cases h0; done) | skip
  all_goals first | (cases h; done) | skip
  rename_i x p ix sp op2 v pos
  simp only [Bool.and_eq_true, decide_eq_true_eq] at h
  obtain ⟨⟨⟨rfl, h1⟩, h2⟩, h3⟩ := h
  have hv := snd_var o (i := i) h1
  have pi := chk_plain h2
  refine PS.weak (ps_augS hv ((sndE o kx).e ix h2) get_list ((sndE o e).e v h3) (ip_of op) set_list (aug_plain pi)) fun De σV H q => ?_
  obtain ⟨Mo, σ, fl, r, hs, k⟩ := q
  have hs : ((isL i σ).bind fun _ => (val (ev C kx σ)).bind fun x => (rd x.2 (.r i)).bind fun l => (itemP l x.1).bind fun d => (val (ev C e x.2)).bind fun y => (ipD op d y.1).bind fun z => (upS i (setD x.1 z) y.2).bind fun σ' => .ok (.nx σ')) = R.ok fl := hs
  obtain ⟨_, g0, hs⟩ := bind_inv hs
  obtain ⟨⟨dk, σ1⟩, gv, hs⟩ := bind_inv hs
  obtain ⟨x1, ow1, g1, g2⟩ := val_inv gv
  clear gv
  obtain ⟨l, g3, hs⟩ := bind_inv hs
  obtain ⟨d, g4, hs⟩ := bind_inv hs
  obtain ⟨⟨de, σ2⟩, gv, hs⟩ := bind_inv hs
  obtain ⟨x2, ow2, g5, g6⟩ := val_inv gv
  clear gv
  obtain ⟨z, g7, hs⟩ := bind_inv hs
  obtain ⟨σ3, g8, hs⟩ := bind_inv hs
  cases hs
  obtain ⟨s0, ds0, e0, w0⟩ := isL_inv g0
  obtain ⟨s, dd, d', s', f1, f2, f3, f4, f5, f6⟩ := upS_inv g8
  obtain ⟨ii, jj, kk, rfl, rfl, rfl⟩ := ipD_inv g7
  refine ⟨Mo, σ, .r i, false, σ, r, (ev_own C e0 w0).1, fun v0 H0 p0 => ?_⟩
  obtain ⟨a, vs0, rfl, ea, ha0, _⟩ := p0.rel.own_lst e0 w0 (show σV[i]? = some (some v0) from p0.val)
  refine ⟨Mo, σ, x1, ow1, σ1, p0.rel, g1, fun vk H1 p1 => ?_⟩
  have dk' := p1.val.rd p1.rel g2
  obtain ⟨ds, kz, rfl, rfl, hk, rfl⟩ := setD_inv f3
  cases dk'.int
  obtain ⟨dl, rfl, h0, h1', h2'⟩ : ∃ dl, l = .lst dl ∧ 0 ≤ kz ∧ kz < (dl.length : Int) ∧ dl[kz.toNat]? = some (.int ii) := by
    unfold itemP at g4
    split at g4
    · rename_i dl kz' ez
      cases ez
      split at g4
      · rename_i hh
        cases e1 : dl[kz.toNat]? with
        | none => rw [e1] at g4; cases g4
        | some z =>
          rw [e1] at g4
          cases g4
          exact ⟨dl, rfl, hh.1, hh.2, e1⟩
      · cases g4
    · cases g4
  obtain ⟨sl, esl, wsl⟩ := rd_held g3
  obtain ⟨a1, vs1, e1, ha1, la1⟩ : ∃ a1 vs1, V.ref a = .ref a1 ∧ H1 a1 = some (.lst vs1) ∧ DenL T.W H1 (Mu Mo σ1 σV) dl vs1 := by
    obtain ⟨a1, e1, _, ow⟩ := p1.rel.mu_own ⟨sl, esl, wsl⟩ ea
    cases ow with
    | lst h l => exact ⟨a1, _, e1, h, l⟩
  cases e1
  obtain ⟨w, hw, dw⟩ := la1.get h2'
  cases dw
  refine ⟨a, vs1, kz, _, rfl, rfl, ha1, h0, by rw [← la1.length]; exact h1', hw, ?_⟩
  refine ⟨Mo, σ1, x2, ow2, σ2, p1.rel, g5, fun ve H2 p2 => ?_⟩
  cases (p2.val.rd p2.rel g6).int
  refine ⟨ii, jj, kk, rfl, rfl, g7, ?_⟩
  obtain ⟨a', vs, e1, _, ha, la⟩ := p2.rel.own_lst f1 f2 ea
  cases e1
  refine ⟨a, vs, kz, kz.toNat, rfl, rfl, ha, ixN_pos (by rw [← la.length]; exact hk), ?_⟩
  have P := post_list (ds' := ds.set kz.toNat (.int kk)) p2.rel f1 f2 f5 f6 ea (la.set kz.toNat (.int kk))
  rw [f4] at k
  exact k σV _ (((p0.toS.trans p1.toS).trans p2.toS).trans P)
end
end Mini

set_option Elab.async false
set_option linter.all false
set_option maxRecDepth 100000
set_option maxHeartbeats 8000000
/-! ## a, b = x, y -/
namespace Mini
open PySem L2 PySem.Spec PyProof.Rows
noncomputable def setAll : List Nat → List V → L2.St → L2.St
  | i :: is, v :: vs, σ => setAll is vs (σ.set i (some v))
  | _, _, σ => σ
theorem setAll_comm {i : Nat} {v : V} : ∀ {is : List Nat} {vs : List V} {σ : L2.St}, i ∉ is → setAll is vs (σ.set i (some v)) = (setAll is vs σ).set i (some v)
  | [], _, _, _ => rfl
  | _ :: _, [], _, _ => rfl
  | j :: is, w :: vs, σ, h => by
    have hj : i ≠ j := fun e => h (by rw [e]; exact List.mem_cons_self)
    have h' : i ∉ is := fun z => h (List.mem_cons_of_mem _ z)
    show setAll is vs ((σ.set i (some v)).set j (some w)) = (setAll is vs (σ.set j (some w))).set i (some v)
    rw [List.set_comm _ _ hj]
    exact setAll_comm h'
theorem setAll_snoc {i : Nat} {v : V} : ∀ {is : List Nat} {vs : List V} {σ : L2.St}, is.length = vs.length → setAll (is ++ [i]) (vs ++ [v]) σ = (setAll is vs σ).set i (some v)
  | [], [], _, _ => rfl
  | _ :: _, [], _, h => nomatch h
  | [], _ :: _, _, h => nomatch h
  | j :: is, w :: vs, σ, h => setAll_snoc (is := is) (vs := vs) (by simpa using h)
theorem setAll_rev : ∀ {is : List Nat} {vs : List V} {σ : L2.St}, is.Nodup → is.length = vs.length → setAll is.reverse vs.reverse σ = setAll is vs σ
  | [], [], _, _, _ => rfl
  | _ :: _, [], _, _, h => nomatch h
  | [], _ :: _, _, _, h => nomatch h
  | j :: is, w :: vs, σ, nd, h => by
    have hl : is.length = vs.length := by simpa using h
    obtain ⟨n1, n2⟩ := List.nodup_cons.mp nd
    rw [List.reverse_cons, List.reverse_cons, setAll_snoc (by simp [hl]), setAll_rev n2 hl]
    show _ = setAll is vs (σ.set j (some w))
    rw [setAll_comm n1]
theorem swN_eq {sc : Scope} {ts vs : List Expr} {env : PySem.Env} {r : Option (List Str)} {k : Nat} {p p2 : Pos} {k2 : Nat} (h : swN sc ts vs = some r) (e : env.scope = sc) (hk : env.blockKind = .function) : swappedStores [.Tuple ts k p] (.Tuple vs k2 p2) env = pure r := by
  have e1 : ∀ id, env.kindOf id = sc.names.lookup id := fun id => by unfold Env.kindOf; rw [e]
  unfold swappedStores
  simp only [e1, hk]
  unfold swN at h
  split at h
  · rename_i c
    cases h
    exact if_pos (by rw [c]; rfl)
  rename_i c1
  refine Eq.trans (if_neg (by simpa using c1)) ?_
  split at h
  · rename_i c
    cases h
    exact if_pos c
  rename_i c2
  refine Eq.trans (if_neg c2) ?_
  dsimp only at h
  split at h
  · rename_i c
    cases h
    exact if_pos c
  rename_i c3
  refine Eq.trans (if_neg c3) ?_
  split at h
  · rename_i c
    cases h
    exact if_pos c
  rename_i c4
  refine Eq.trans (if_neg c4) ?_
  split at h
  · cases h
  rename_i c5
  cases h
  exact Eq.trans (if_neg c5) rfl

section
variable {X : Cx}
/-- names, one behind the other, take values -/
noncomputable def NmOk (X : Cx) (is : List Nat) (xs : List Str) : Prop := All2 (fun i x => X.N[i]? = some x ∧ X.env.scope.names.lookup x = some .local) is xs
theorem store_all (hN : X.N.Nodup) {M : Model} {A : Around} {E : Value → Shared → Prop} {pins : List (Addr × Obj)} {H : Hp} {Q : Unit → Shared → Prop} : ∀ {is : List Nat} {xs : List Str} {vs : List V} {us : List Value} {σ : L2.St} {s : Shared}, NmOk X is xs → Vals vs us → vs.length = is.length →
    Inv X pins σ H s → (∀ s', Inv X pins (setAll is vs σ) H s' → Q () s') → wpAny M A (assignInOrder (xs.map fun n => bindName X.env n) us) Q E s
  | [], [], [], us, σ, s, _, r, _, I, k => by
    cases r
    exact assignInOrder_nil (k s I)
  | i :: is, x :: xs, v :: vs, us, σ, s, h, r, hl, I, k => by
    cases r with
    | cons r rr =>
      obtain ⟨⟨h1, h2⟩, h3⟩ := h
      exact assignInOrder_cons (wpAny_bindName (store_ok I hN h1 (.inl h2) r (fun s2 I2 => store_all hN h3 rr (by simpa using hl) I2 k) (.inr h2)))
  | [], [], _ :: _, us, _, _, _, _, hl, _, _ => nomatch hl
  | [], _ :: _, _, us, _, _, h, _, _, _, _ => h.elim
  | _ :: _, [], _, us, _, _, h, _, _, _, _ => h.elim
  | _ :: _, _ :: _, [], us, _, _, _, _, hl, _, _ => nomatch hl
noncomputable def tParN (is : List Nat) (ta : TA) : TS := fun D σ H => tTup ta σ H fun v H2 => ∃ p vs, v = .ref p ∧ H2 p = some (.tup vs) ∧ vs.length = is.length ∧ D.nx (setAll is vs σ) H2
theorem NmOk.rev {is : List Nat} {xs : List Str} (h : NmOk X is xs) : NmOk X is.reverse xs.reverse := by
  have snoc : ∀ {is : List Nat} {xs : List Str} {i : Nat} {x : Str}, NmOk X is xs → (X.N[i]? = some x ∧ X.env.scope.names.lookup x = some .local) → NmOk X (is ++ [i]) (xs ++ [x]) := by
    intro is
    induction is with
    | nil => intro xs i x h q; cases xs with | nil => exact ⟨q, trivial⟩ | cons _ _ => exact h.elim
    | cons j is ih => intro xs i x h q; cases xs with | nil => exact h.elim | cons y xs => exact ⟨h.1, ih h.2 q⟩
  induction is generalizing xs with
  | nil => cases xs with | nil => trivial | cons _ _ => exact h.elim
  | cons i is ih =>
    cases xs with
    | nil => exact h.elim
    | cons x xs =>
      rw [List.reverse_cons, List.reverse_cons]
      exact snoc (ih h.2) h.1
theorem vals_rev {vs : List V} {us : List Value} (h : Vals vs us) : Vals vs.reverse us.reverse := by
  induction vs generalizing us with
  | nil => cases h; exact .nil
  | cons v vs ih =>
    cases h with
    | cons r rr =>
      rw [List.reverse_cons, List.reverse_cons]
      exact (ih rr).append (.cons r .nil)
theorem ps_parN {ts vals : List Expr} {kt k2 : Nat} {pt pt2 pos : Pos} {is : List Nat} {xs : List Str} {ta : TA} (hc : X.calm = true) (hN : X.N.Nodup) (hi : NmOk X is xs) (nd : is.Nodup) (ha : PA X vals ta)
    (hw : swappedStores [.Tuple ts kt pt] (.Tuple vals k2 pt2) X.env = pure (some xs)) : PS X (.Assign [.Tuple ts kt pt] (.Tuple vals k2 pt2) pos) (tParN is ta) := by
  refine ⟨fun pins s σ H D I h => ?_⟩
  rw [exec_Assign_arm]
  refine wpAny_bind (wpAny_standAt ?_)
  rw [show swapsWithSole [.Tuple ts kt pt] (.Tuple vals k2 pt2) pos.line X.env = pure false from rfl]
  refine wpAny_bind (wpAny_pure ?_)
  rw [if_neg (by decide)]
  refine wpAny_bind (thn ((pe_tup ha).run pins s σ H _ I h) fun u s1 ⟨v, H2, I2, rv, p, vs, e1, hp, hl, q⟩ => ?_)
  · subst e1
    cases rv
    obtain ⟨its, r, pl, hz⟩ := I2.tuple (.of hp)
    rw [hw]
    refine wpAny_bind (wpAny_pure ?_)
    show wpAny (model X.prog X.w) X.A (do rule "assign.swapped-stores"; let items ← unpackItems (.ref p) xs.length none; assignInOrder (xs.reverse.map fun n => bindName X.env n) items.reverse; pure Flow.next) _ _ _
    have hx : xs.length = its.toArray.size := by rw [← All2.length hi, List.size_toArray, ← r.length, hl]
    rw [hx]
    refine wpAny_bind (wpAny_rule (wpAny_bind (unpackItems_tuple (items := its.toArray) (I2.ok.hd hc) pl fun h' hx' => ?_)))
    have I3 := I2.kept (h' := h') (t' := s1.toks) fun b o e => hx' b o (Nat.ne_of_lt (Heap.lt_size e)) e
    refine wpAny_bind (store_all hN hi.rev (vals_rev r) (by simp [hl]) I3 fun s' I4 => wpAny_pure ?_)
    rw [setAll_rev nd hl.symm] at I4
    exact ⟨_, H2, I4, q⟩
end
end Mini

set_option Elab.async false
set_option linter.all false
set_option maxRecDepth 100000
set_option maxHeartbeats 8000000
namespace Mini
open PySem L2
noncomputable abbrev PV (W : Wd) (H : Hp) (M : Zone) (x : D × Bool) (v : V) : Prop := match x.2 with
    | false => Den W H M x.1 v
    | true => ∃ p, v = .ref p ∧ Own W H M p x.1
theorem PV.step {W : Wd} {H H' : Hp} {M M' : Zone} {x : D × Bool} {v : V} (h : PV W H M x v) (f : Fr Z0 H H') (hm : ∀ b, M' b → M b ∨ H b = none) : PV W H' M' x v := by
  obtain ⟨d, o⟩ := x
  cases o with
  | false => exact Den.step (h : Den W H M d v) f (fun _ z => z.elim) hm
  | true =>
    obtain ⟨p, e, ow⟩ := h
    exact ⟨p, e, ow.step f (fun z => z) (fun _ z => z.elim) hm⟩
structure Pend (W : Wd) (Mo : Zone) (σ : Fm) (σV : L2.St) (H : Hp) (xs : List (D × Bool)) (vs : List V) : Prop where
  rel : Rel W (Zl Mo (ownsOf xs vs)) σ σV H
  nd : (ownsOf xs vs).Nodup
  out : ∀ p ∈ ownsOf xs vs, ¬ Mu Mo σ σV p
  val : All2 (PV W H (Zl (Mu Mo σ σV) (ownsOf xs vs))) xs vs
theorem putSs_post {W : Wd} {Mo : Zone} {H : Hp} : ∀ {is : List Nat} {xs : List (D × Bool)} {vs : List V} {σ σ' : Fm} {σV : L2.St}, Pend W Mo σ σV H xs vs → putSs is xs σ = .ok σ' →
    vs.length = is.length ∧ (∀ a, muts σ' (setAll is vs σV) a → muts σ σV a ∨ a ∈ ownsOf xs vs) ∧ (∀ a, wrt σ' (setAll is vs σV) a → wrt σ σV a ∨ a ∈ ownsOf xs vs) ∧
    (∀ (j : Nat) (b : Bool), Pin σ j b → Pin σ' j b ∧ (setAll is vs σV)[j]? = σV[j]?) ∧ (setAll is vs σV).length = σV.length ∧ Rel W Mo σ' (setAll is vs σV) H
  | [], [], vs, σ, σ', σV, P, h => by
    cases vs with
    | cons _ _ => exact P.val.elim
    | nil =>
      cases h
      refine ⟨rfl, fun a z => .inl z, fun a z => .inl z, fun j b e => ⟨e, rfl⟩, rfl, ?_⟩
      have e : Zl Mo (ownsOf [] []) = Mo := funext fun b => propext ⟨fun z => z.elim (fun z => z) (fun z => by simp [ownsOf] at z), .inl⟩
      have r := P.rel
      rw [e] at r
      exact r
  | [], _ :: _, _, _, _, _, _, h => by cases h
  | _ :: _, [], _, _, _, _, _, h => by cases h
  | i :: is, x :: xs, vs, σ, σ', σV, P, h => by
    cases vs with
    | nil => exact P.val.elim
    | cons v vs =>
    have h : ((putS i x.1 x.2 σ).bind fun σ' => putSs is xs σ') = .ok σ' := h
    obtain ⟨σ1, h1, h⟩ := bind_inv h
    obtain ⟨d, o⟩ := x
    obtain ⟨s, hs, hp, h1⟩ : ∃ s, σ[i]? = some s ∧ s.pin = none ∧ (if o && isObj d then R.ok (σ.set i (.mu d)) else R.ok (σ.set i (.im d))) = R.ok σ1 := by
      have h1 : (match σ[i]? with
        | some (.io _) => R.bad | some (.lk _) => .bad | none => .bad
        | some _ => if o && isObj d then .ok (σ.set i (.mu d)) else .ok (σ.set i (.im d))) = .ok σ1 := h1
      split at h1 <;> first | (cases h1; done) | skip
      rename_i s n1 n2 e
      refine ⟨s, e, ?_, h1⟩
      cases s with
      | io d => exact absurd rfl (n1 d)
      | lk d => exact absurd rfl (n2 d)
      | _ => rfl
    obtain ⟨hv, hrest⟩ := P.val
    cases o with
    | false =>
      have eo : ownsOf ((d, false) :: xs) (v :: vs) = ownsOf xs vs := by simp only [ownsOf]
      have rel := P.rel
      have nd := P.nd
      have out := P.out
      rw [eo] at rel nd out hv hrest
      have h1 : R.ok (σ.set i (.im d)) = R.ok σ1 := h1
      cases h1
      have hd : Den W H (Mu (Zl Mo (ownsOf xs vs)) σ σV) d v := Den.step (Mw := Z0) (hv : Den W H _ d v) .refl (fun _ z => z.elim) fun b z => .inl (by
        rcases z with (z | z) | z
        · exact .inl (.inl z)
        · exact .inr z
        · exact .inl (.inr z))
      have pT := put_im rel hs hp hd
      have hz : ∀ b, Mu Mo (σ.set i (.im d)) (σV.set i (some v)) b → Mu Mo σ σV b := fun b z => z.elim .inl fun z => .inr (pT.mm b z)
      obtain ⟨k1, k2, k3, k4, k5, k6⟩ := putSs_post (is := is) (vs := vs) (σV := σV.set i (some v)) ⟨pT.rel, nd, fun p hp z => out p hp (hz p z), hrest.imp fun x v q => PV.step q .refl fun b z => .inl (z.elim (fun z => .inl (hz b z)) .inr)⟩ h
      rw [eo]
      exact ⟨by simp [k1], fun a z => (k2 a z).elim (fun z => .inl (pT.mm a z)) .inr, fun a z => (k3 a z).elim (fun z => .inl (pT.wm a z)) .inr, fun j b e => let ⟨e1, e2⟩ := pT.ios j b e; let ⟨e3, e4⟩ := k4 j b e1; ⟨e3, e4.trans e2⟩, k5.trans pT.len, k6⟩
    | true =>
      obtain ⟨p, rfl, ow⟩ := hv
      have eo : ownsOf ((d, true) :: xs) (.ref p :: vs) = p :: ownsOf xs vs := by simp only [ownsOf]
      have rel := P.rel
      have nd := P.nd
      have out := P.out
      have ow : Own W H (Zl (Mu Mo σ σV) (ownsOf ((d, true) :: xs) (.ref p :: vs))) p d := ow
      rw [eo] at rel nd out ow hrest
      have h1 : (if true && isObj d then R.ok (σ.set i (.mu d)) else R.ok (σ.set i (.im d))) = R.ok σ1 := h1
      rw [ow.isObj] at h1
      have h1 : R.ok (σ.set i (.mu d)) = R.ok σ1 := h1
      cases h1
      obtain ⟨np, nd'⟩ := List.nodup_cons.mp nd
      have ez : Zp (Zl Mo (ownsOf xs vs)) p = Zl Mo (p :: ownsOf xs vs) := funext fun b => propext (by
        unfold Zp Zl
        simp only [List.mem_cons]
        constructor
        · rintro ((z | z) | z)
          · exact .inl z
          · exact .inr (.inr z)
          · exact .inr (.inl z)
        · rintro (z | z | z)
          · exact .inl (.inl z)
          · exact .inr z
          · exact .inl (.inr z))
      have r1 : Rel W (Zp (Zl Mo (ownsOf xs vs)) p) σ σV H := by rw [ez]; exact rel
      have npm : ¬ Mu (Zl Mo (ownsOf xs vs)) σ σV p := fun z => by
        rcases z with (z | z) | z
        · exact out p List.mem_cons_self (.inl z)
        · exact np z
        · exact out p List.mem_cons_self (.inr z)
      have ow2 : Own W H (Zp (Mu (Zl Mo (ownsOf xs vs)) σ σV) p) p d := ow.step (Mw := Z0) .refl (fun z => z) (fun _ z => z.elim) fun b z => .inl (by
        rcases z with ((z | z) | z) | z
        · exact .inl (.inl z)
        · exact .inr (List.mem_cons_of_mem _ z)
        · exact .inl (.inr z)
        · rw [z]; exact .inr List.mem_cons_self)
      obtain ⟨r2, hm, hw, hi⟩ := put_mu r1 r1.drop hs hp npm ow2
      have hz : ∀ b, Mu Mo (σ.set i (.mu d)) (σV.set i (some (.ref p))) b → Mu Mo σ σV b ∨ b = p := fun b z => z.elim (fun z => .inl (.inl z)) fun z => (hm b z).elim (fun z => .inl (.inr z)) .inr
      obtain ⟨k1, k2, k3, k4, k5, k6⟩ := putSs_post (is := is) (vs := vs) (σV := σV.set i (some (.ref p))) ⟨r2, nd', fun q hq z => (hz q z).elim (fun z => out q (List.mem_cons_of_mem _ hq) z) (fun e => np (by rw [← e]; exact hq)), hrest.imp fun x v q => PV.step q .refl fun b z => .inl (by
        rcases z with z | z
        · exact (hz b z).elim .inl fun e => .inr (by rw [e]; exact List.mem_cons_self)
        · exact .inr (List.mem_cons_of_mem _ z))⟩ h
      rw [eo]
      refine ⟨by simp [k1], fun a z => ?_, fun a z => ?_, fun j b e => let ⟨e1, e2⟩ := hi j b e; let ⟨e3, e4⟩ := k4 j b e1; ⟨e3, e4.trans e2⟩, k5.trans (by rw [List.length_set]), k6⟩
      · rcases k2 a z with z | z
        · exact (hm a z).elim .inl fun e => .inr (by rw [e]; exact List.mem_cons_self)
        · exact .inr (List.mem_cons_of_mem _ z)
      · rcases k3 a z with z | z
        · exact (hw a z).elim .inl fun e => .inr (by rw [e]; exact List.mem_cons_self)
        · exact .inr (List.mem_cons_of_mem _ z)
theorem putSs_len : ∀ {is : List Nat} {xs : List (D × Bool)} {σ σ' : Fm}, putSs is xs σ = .ok σ' → is.length = xs.length
  | [], [], _, _, _ => rfl
  | [], _ :: _, _, _, h => by cases h
  | _ :: _, [], _, _, h => by cases h
  | i :: is, x :: xs, σ, σ', h => by
    have h : ((putS i x.1 x.2 σ).bind fun σ' => putSs is xs σ') = .ok σ' := h
    obtain ⟨σ1, _, h⟩ := bind_inv h
    simp [putSs_len h]
section
variable {T : Tb} {C : Cb} {n : Nat} {X : Cx} {sc : Scope}
theorem par_read {is : List Nat} {l : E} (hn : is.length ≤ 9) {De : Ends} {σV : L2.St} {H : Hp} {Q : VK} (hQ : ∀ v H2, (∃ p vs, v = .ref p ∧ H2 p = some (.tup vs) ∧ vs.length = is.length ∧ De.nx (setAll is vs σV) H2) → Q v H2)
    (q : tS T.W (ex C (.par is l)) De σV H) : tTup (tW T.W (evW C l)) σV H Q := by
  obtain ⟨Mo, σ, fl, r, hs, k⟩ := q
  have hs : ((evW C l σ).bind fun x => (putSs is x.1 x.2).bind fun σ' => .ok (.nx σ')) = R.ok fl := hs
  obtain ⟨⟨xs, σ1⟩, g1, hs⟩ := bind_inv hs
  obtain ⟨σ2, g2, hs⟩ := bind_inv hs
  cases hs
  refine ⟨Mo, σ, xs, σ1, r, g1, fun vs H1 p => ?_⟩
  have hl : xs.length = vs.length := All2.length p.val
  have hl2 := putSs_len g2
  refine ⟨by rw [← hl, ← hl2, sizeLine_eq]; omega, fun a ha => hQ _ _ ⟨a, vs, rfl, upd_same, by rw [← hl, hl2], ?_⟩⟩
  have f : Fr Z0 H1 (upd H1 a (.tup vs)) := .new ha
  obtain ⟨k1, k2, k3, k4, k5, k6⟩ := putSs_post (is := is) (vs := vs) (σV := σV) (H := upd H1 a (.tup vs)) ⟨p.rel.grow f, p.nd, fun q hq => (p.out q hq).1, p.val.imp fun x v q => PV.step q f fun b z => .inl z⟩ g2
  refine k _ _ ⟨p.fr.trans f fun _ z => z.elim, fun b z => f.dom b (p.dm b z), fun b z => ?_, fun b z => ?_, fun j b e => k4 j b (p.ios j b e), k5, k6⟩
  · exact (k2 b z).elim (fun z => .inl (p.mm b z)) fun z => .inr (p.out b z).2
  · exact (k3 b z).elim (fun z => .inl (p.wm b z)) fun z => .inr (p.out b z).2
noncomputable def gNames (is : List Nat) : TGs := fun vs σ H Q => vs.length = is.length ∧ Q (setAll is vs σ) H
theorem names_each {env : PySem.Env} : ∀ {ts : List Expr} {xs : List Str}, namesT ts = some xs → (assignEach ts env).length = xs.length ∧ (assignEach ts env).findIdx? (·.1) = none
  | [], xs, h => by cases h; exact ⟨rfl, rfl⟩
  | e :: ts, xs, h => by
    cases e <;> simp only [namesT, reduceCtorEq] at h
    rw [Option.map_eq_some_iff] at h
    obtain ⟨ys, h1, rfl⟩ := h
    obtain ⟨k1, k2⟩ := names_each (env := env) h1
    refine ⟨?_, ?_⟩
    · show ((false, _) :: assignEach ts env).length = _
      simp [k1]
    · show ((false, _) :: assignEach ts env).findIdx? (·.1) = none
      rw [List.findIdx?_cons]
      simp [k2]
noncomputable def NmC (X : Cx) (is : List Nat) (xs : List Str) : Prop := All2 (fun i x => X.N[i]? = some x ∧ L2.Loc X.env.scope x) is xs
theorem pgs_names (hN : X.N.Nodup) (hfn : ∀ x, X.fn x = true) : ∀ {ts : List Expr} {xs : List Str} {is : List Nat}, namesT ts = some xs → NmC X is xs → PGs X ts (gNames is)
  | [], xs, is, h, hi => by
    cases h
    cases is with
    | cons _ _ => exact hi.elim
    | nil =>
      refine PGs.weak pgs_nil fun vs σ H Q q => ?_
      obtain ⟨q1, q2⟩ := q
      have : vs = [] := List.length_eq_zero_iff.mp q1
      subst this
      exact ⟨rfl, q2⟩
  | e :: ts, xs, is, h, hi => by
    cases e <;> simp only [namesT, reduceCtorEq] at h
    rw [Option.map_eq_some_iff] at h
    obtain ⟨ys, h1, rfl⟩ := h
    cases is with
    | nil => exact hi.elim
    | cons i is =>
      obtain ⟨⟨h2, h3⟩, h4⟩ := hi
      refine PGs.weak (pgs_cons (pg_name (i := i) hN h2 h3 (.inl (hfn _))) (pgs_names hN hfn h1 h4) rfl) fun vs σ H Q q => ?_
      obtain ⟨q1, q2⟩ := q
      cases vs with
      | nil => cases q1
      | cons v vs => exact ⟨v, vs, rfl, by simpa using q1, q2⟩
theorem parN_ok (o : Okay T C n X sc) : ∀ {is : List Nat} {xs : List Str}, parN T sc is xs = true → NmOk X is xs
  | [], [], _ => trivial
  | [], _ :: _, h => by cases h
  | _ :: _, [], h => by cases h
  | i :: is, x :: xs, h => by
    simp only [parN, Bool.and_eq_true, decide_eq_true_eq] at h
    exact ⟨⟨by rw [o.N]; exact h.1.1, by rw [o.sc]; exact h.1.2⟩, parN_ok o h.2⟩
theorem parC_ok (o : Okay T C n X sc) : ∀ {is : List Nat} {xs : List Str}, parC T sc is xs = true → NmC X is xs
  | [], [], _ => trivial
  | [], _ :: _, h => by cases h
  | _ :: _, [], h => by cases h
  | i :: is, x :: xs, h => by
    simp only [parC, Bool.and_eq_true, decide_eq_true_eq] at h
    exact ⟨⟨by rw [o.N]; exact h.1.1, loc_of o h.1.2⟩, parC_ok o h.2⟩
theorem NmC.len {X : Cx} {is : List Nat} {xs : List Str} (h : NmC X is xs) : is.length = xs.length := All2.length h
theorem snd_par (o : Okay T C n X sc) (df : Def X) {is : List Nat} {l : E} {st : Stmt} (h : chkS T sc (.par is l) st = true) : PS X st (tS T.W (ex C (.par is l))) := by
  unfold chkS at h
  split at h <;> first | (rename_i h0; cases h0; done) | skip
  all_goals first | (cases h; done) | skip
  rename_i ts k1 p1 vals k2 p2 pos
  simp only [Bool.and_eq_true, decide_eq_true_eq] at h
  obtain ⟨h1, h2⟩ := h
  unfold parOk at h1
  cases hx : namesT ts with
  | none => rw [hx] at h1; cases h1
  | some xs =>
    rw [hx] at h1
    simp only [Bool.and_eq_true, decide_eq_true_eq] at h1
    obtain ⟨⟨h0, h4⟩, h5⟩ := h1
    have hw := (sndE o l).w _ h2
    have bk : X.env.blockKind = .function := by unfold Env.blockKind; rw [df.kind]; rfl
    cases hs : swN sc ts vals with
    | none => rw [hs] at h5; cases h5
    | some r =>
      rw [hs] at h5
      cases r with
      | some ys =>
        simp only [Bool.and_eq_true, decide_eq_true_eq] at h5
        have nm := parN_ok o h5.1
        have e : ys = xs := h5.2
        subst e
        exact PS.weak (ps_parN o.calm o.nd nm h4 hw (swN_eq hs o.sc bk)) fun De σV H q => par_read h0 (fun v H2 z => z) q
      | none =>
        have nm := parC_ok o h5
        obtain ⟨e1, e2⟩ := names_each (env := X.env) hx
        refine PS.weak (ps_asg (pe_tup hw) (pg_tup o.calm (pgs_names o.nd df.fn hx nm) e1 e2) rfl (swN_eq hs o.sc bk) rfl) fun De σV H q => par_read h0 (fun v H2 z => ?_) q
        obtain ⟨p, vs, rfl, hp, hl, q⟩ := z
        exact ⟨p, vs, rfl, .of hp, by rw [hl]; exact NmC.len nm, hl, q⟩
end
end Mini

set_option Elab.async false
set_option linter.all false
set_option maxRecDepth 100000
set_option maxHeartbeats 8000000
namespace Mini
open PySem L2
theorem putF_den {W : Wd} {H : Hp} {M : Zone} {f : Nat} {d : D} {v : V} (inj : ∀ b, W.att b = W.att f → b = f) (dv : Den W H M d v) : ∀ {ns : List Nat} {ds : List D} {fs : List (Str × V)}, fs.map (·.1) = ns.map W.att → DenL W H M ds (fs.map (·.2)) →
    (L2.putF (W.att f) v fs).map (·.1) = (putF f d ns ds).1.map W.att ∧ DenL W H M (putF f d ns ds).2 ((L2.putF (W.att f) v fs).map (·.2))
  | [], ds, fs, h, l => by
    cases fs with
    | cons _ _ => simp at h
    | nil =>
      cases l
      exact ⟨rfl, .cons dv .nil⟩
  | g :: ns, ds, fs, h, l => by
    cases fs with
    | nil => simp at h
    | cons q fs =>
      obtain ⟨a, x⟩ := q
      simp only [List.map_cons, List.cons.injEq] at h
      obtain ⟨h1, h2⟩ := h
      cases l with
      | cons l0 l =>
        subst h1
        unfold putF L2.putF
        by_cases e : g = f
        · subst e
          rw [if_pos rfl, if_pos rfl]
          exact ⟨by simp [h2], .cons dv l⟩
        · rw [if_neg e, if_neg (fun z => e (inj g z))]
          obtain ⟨k1, k2⟩ := putF_den inj dv h2 l
          exact ⟨by simp [k1], .cons l0 k2⟩
theorem setA_inv {f : Nat} {y d d' : D} (h : setA f y d = .ok d') : ∃ c ns vs, d = .ins c ns vs ∧ ns.length < 900 ∧ d' = .ins c (putF f y ns vs).1 (putF f y ns vs).2 := by
  unfold setA at h
  split at h
  · split at h
    · cases h
      exact ⟨_, _, _, rfl, by assumption, rfl⟩
    · cases h
  · cases h
section
variable {T : Tb} {C : Cb} {n : Nat} {X : Cx} {sc : Scope}
theorem snd_seta (o : Okay T C n X sc) {i f : Nat} {e : E} {st : Stmt} (h : chkS T sc (.seta i f e) st = true) : PS X st (tS T.W (ex C (.seta i f e))) := by
  unfold chkS at h
  split at h <;> first | (rename_i h0; cases h0; done) | skip
  all_goals first | (cases h; done) | skip
  rename_i x p m ap v pos
  simp only [Bool.and_eq_true, decide_eq_true_eq, Bool.not_eq_true'] at h
  obtain ⟨⟨⟨⟨rfl, h1⟩, h2⟩, h3⟩, h4⟩ := h
  have hv := snd_var o (i := i) h2
  obtain ⟨inj, cls⟩ := o.att f h1
  refine PS.weak (ps_fld hv ((sndE o e).e v h3) (sw_plain h4)) fun De σV H q => ?_
  obtain ⟨Mo, σ, fl, r, hs, k⟩ := q
  have hs : ((ev C e σ).bind fun x => (fz x).bind fun x => (upS i (setA f x.1) x.2.2).bind fun σ' => .ok (.nx σ')) = R.ok fl := hs
  obtain ⟨⟨x1, ow, σ1⟩, g1, hs⟩ := bind_inv hs
  obtain ⟨⟨d, o', σ2⟩, g2, hs⟩ := bind_inv hs
  obtain ⟨σ3, g3, hs⟩ := bind_inv hs
  cases hs
  obtain ⟨s, dd, d', s', f1, f2, f3, f4, f5, f6⟩ := upS_inv g3
  refine ⟨Mo, σ, x1, ow, σ1, r, g1, fun v1 H1 p1 => ?_⟩
  have p2 := p1.freeze g2
  refine ⟨Mo, σ2, .r i, false, σ2, p2.rel, (ev_own C f1 f2).1, fun v0 H0 p0 => ?_⟩
  obtain ⟨c, ns, vs, rfl, hlen, rfl⟩ := setA_inv f3
  have dv : Den T.W H0 (Mu Mo σ2 σV) d v1 := VR.step p2.val p0
  have ea : σV[i]? = some (some v0) := p0.val
  obtain ⟨a, rfl, na, ow2⟩ := p0.rel.mu_own ⟨s, f1, wr_held f2⟩ ea
  cases ow2 with
  | ins ha hc hn l =>
    rename_i A dx fs
    obtain ⟨cl, nat⟩ := cls c _ hc
    refine ⟨a, _, _, fs, rfl, ha, cl, nat, ?_, ?_⟩
    · have : fs.length = ns.length := by simpa using congrArg List.length hn
      omega
    · obtain ⟨k1, k2⟩ := putF_den inj dv hn l
      have own' : Own T.W (upd H0 a (.ins A dx (L2.putF (T.W.att f) v1 fs))) (Mu Mo σ2 σV) a (.ins c (putF f d ns vs).1 (putF f d ns vs).2) := by
        refine .ins upd_same hc k1 (k2.step (fr_upd fun xs z => p0.rel.nt z ⟨i, s, _, f1, f2, ea⟩) (fun b e => ?_) fun b z => .inl z)
        rw [show b = a from e]
        exact .inr ⟨i, _, ⟨s, f1, wr_held f2⟩, ea⟩
      have P := post_up p0.rel f1 f2 f5 f6 ea (fr_upd fun xs z => p0.rel.nt z ⟨i, s, _, f1, f2, ea⟩) (fun b z => dm_upd b z) own'
      rw [f4] at k
      exact k σV _ ((p2.toS.trans p0.toS).trans P)
theorem snd_raise (o : Okay T C n X sc) {c : Nat} {e : E} {st : Stmt} : PS X st (tS T.W (ex C (.raise c e))) := ps_no fun σ fl h => by
  have h : ((ev C e σ).bind fun x => (fz x).bind fun x => .err c x.1) = R.ok fl := h
  obtain ⟨_, _, h⟩ := bind_inv h
  obtain ⟨_, _, h⟩ := bind_inv h
  cases h
theorem pss_done (o : Okay T C n X sc) : PSs X [] (tS T.W (ex C .done)) := PSs.weak pss_nil fun De σV H q => nx_read (fun _ => rfl) q
/-- all statements -/
theorem sound_stmts (o : Okay T C n X sc) (df : Def X) : ∀ c : S, SndS T C c X sc := by
  intro c
  induction c with
  | done =>
    refine ⟨fun st h => by simp [chkS] at h, fun sts h => ?_⟩
    cases sts with
    | nil => exact pss_done o
    | cons _ _ => simp [chkB] at h
  | seq s t ihs iht =>
    refine ⟨fun st h => by simp [chkS] at h, fun sts h => ?_⟩
    cases sts with
    | nil => simp [chkB] at h
    | cons x xs =>
      simp only [chkB, Bool.and_eq_true] at h
      refine PSs.weak (pss_cons (ihs.s x h.1) (iht.b xs h.2)) fun De σV H q => ?_
      obtain ⟨Mo, σ, fl, r, hs, k⟩ := q
      have hs : ((ex C s σ).bind fun
        | .nx σ' => ex C t σ'
        | f => .ok f) = R.ok fl := hs
      obtain ⟨f1, g1, hs⟩ := bind_inv hs
      refine ⟨Mo, σ, f1, r, g1, ?_⟩
      cases f1 with
      | nx σ1 => exact fun σV' H' p => ⟨Mo, σ1, fl, p.rel, hs, k.back p⟩
      | brk σ1 => cases hs; exact k
      | ct σ1 => cases hs; exact k
      | ret d o σ1 => cases hs; exact k
  | asg t e => exact ⟨fun st h => snd_asg o df h, fun sts h => by cases sts <;> simp [chkB] at h⟩
  | par is l => exact ⟨fun st h => snd_par o df h, fun sts h => by cases sts <;> simp [chkB] at h⟩
  | ret e => exact ⟨fun st h => snd_ret o h, fun sts h => by cases sts <;> simp [chkB] at h⟩
  | retn => exact ⟨fun st h => snd_retn o h, fun sts h => by cases sts <;> simp [chkB] at h⟩
  | ife t a b iha ihb => exact ⟨fun st h => snd_ifS o iha ihb h, fun sts h => by cases sts <;> simp [chkB] at h⟩
  | whl t b ih => exact ⟨fun st h => snd_whl o df ih h, fun sts h => by cases sts <;> simp [chkB] at h⟩
  | «for» t it b ih => exact ⟨fun st h => snd_for o df ih h, fun sts h => by cases sts <;> simp [chkB] at h⟩
  | expr e => exact ⟨fun st h => snd_expr o h, fun sts h => by cases sts <;> simp [chkB] at h⟩
  | app i e => exact ⟨fun st h => snd_app o h, fun sts h => by cases sts <;> simp [chkB] at h⟩
  | ext i e => exact ⟨fun st h => snd_ext o h, fun sts h => by cases sts <;> simp [chkB] at h⟩
  | seti i k e => exact ⟨fun st h => snd_seti o h, fun sts h => by cases sts <;> simp [chkB] at h⟩
  | setd i k e => exact ⟨fun st h => snd_setd o h, fun sts h => by cases sts <;> simp [chkB] at h⟩
  | augi i k op e => exact ⟨fun st h => snd_augi o h, fun sts h => by cases sts <;> simp [chkB] at h⟩
  | aug i op e => exact ⟨fun st h => snd_aug o df h, fun sts h => by cases sts <;> simp [chkB] at h⟩
  | seta i f e => exact ⟨fun st h => snd_seta o h, fun sts h => by cases sts <;> simp [chkB] at h⟩
  | raise c e => exact ⟨fun st h => snd_raise o, fun sts h => by cases sts <;> simp [chkB] at h⟩
  | nope => exact ⟨fun st h => ps_no fun σ fl h => (nomatch (show R.bad = R.ok fl from h)), fun sts h => by cases sts <;> simp [chkB] at h⟩
  | pass => exact ⟨fun st h => snd_pass o h, fun sts h => by cases sts <;> simp [chkB] at h⟩
  | brk => exact ⟨fun st h => snd_brk o h, fun sts h => by cases sts <;> simp [chkB] at h⟩
  | ct => exact ⟨fun st h => snd_ct o h, fun sts h => by cases sts <;> simp [chkB] at h⟩
end
end Mini

set_option Elab.async false
set_option linter.all false
set_option maxRecDepth 100000
set_option maxHeartbeats 8000000
/-! ## a def is sound -/
namespace Mini
open PySem L2
theorem back_get : ∀ {as : List Slot} {σ : Fm} {i : Nat}, (back as σ)[i]? = (match as[i]?, σ[i]? with
    | some (.io d), some (.io d') => some (Slot.io d')
    | a, _ => a) := by
  intro as
  induction as with
  | nil => intro σ i; cases σ <;> simp [back]
  | cons s as ih =>
    intro σ i
    cases σ with
    | nil => cases s <;> simp only [back] <;> cases i <;> simp <;> (cases as[_]? <;> simp; rename_i s'; cases s' <;> simp)
    | cons t σ =>
      cases i with
      | zero => cases s <;> cases t <;> simp [back]
      | succ i => cases s <;> cases t <;> simp only [back, List.getElem?_cons_succ] <;> exact ih
theorem back_len : ∀ {as : List Slot} {σ : Fm}, (back as σ).length = as.length := by
  intro as
  induction as with
  | nil => intro σ; cases σ <;> rfl
  | cons s as ih =>
    intro σ
    cases σ with
    | nil => cases s <;> rfl
    | cons t σ => cases s <;> cases t <;> simp only [back, List.length_cons, ih]
section
variable {W : Wd} {Mo : Zone} {as : List Slot} {vs : List V} {N : List Str} {k : Nat} {H : Hp} {σ' : Fm} {σV' : L2.St} {H' : Hp}
noncomputable abbrev ext (as : List Slot) (k : Nat) : Fm := as ++ List.replicate k .no
theorem ext_get {i : Nat} {s : Slot} (h : (ext as k)[i]? = some s) : as[i]? = some s ∨ s = .no := by
  unfold ext at h
  by_cases hi : i < as.length
  · rw [List.getElem?_append_left hi] at h
    exact .inl h
  · rw [List.getElem?_append_right (by omega), List.getElem?_replicate] at h
    split at h
    · cases h; exact .inr rfl
    · cases h
theorem ext_lt {i : Nat} {s : Slot} (h : as[i]? = some s) : (ext as k)[i]? = some s := by
  unfold ext
  rw [List.getElem?_append_left (lt_of_some h)]
  exact h
theorem start_lt {i : Nat} (hi : i < vs.length) : (L2.start N vs)[i]? = (vs.map some)[i]? := by
  unfold L2.start
  rw [List.getElem?_append_left (by simpa using hi)]
theorem muts_ext (hl : as.length = vs.length) {a : Addr} : muts (ext as k) (L2.start N vs) a ↔ muts as (vs.map some) a := by
  constructor
  · rintro ⟨i, d, ⟨s, e, hd⟩, hv⟩
    rcases ext_get e with e | rfl
    · exact ⟨i, d, ⟨s, e, hd⟩, by rw [← start_lt (N := N) (by rw [← hl]; exact lt_of_some e)]; exact hv⟩
    · cases hd
  · rintro ⟨i, d, ⟨s, e, hd⟩, hv⟩
    exact ⟨i, d, ⟨s, ext_lt e, hd⟩, by rw [start_lt (by rw [← hl]; exact lt_of_some e)]; exact hv⟩
theorem wrt_ext (hl : as.length = vs.length) {a : Addr} (z : wrt (ext as k) (L2.start N vs) a) : wrt as (vs.map some) a := by
  obtain ⟨i, s, d, e, hd, hv⟩ := z
  rcases ext_get e with e | rfl
  · exact ⟨i, s, d, e, hd, by rw [← start_lt (N := N) (by rw [← hl]; exact lt_of_some e)]; exact hv⟩
  · cases hd
theorem Rel.len_args (r : Rel W Mo as (vs.map some) H) : as.length = vs.length := by
  have := r.len
  rwa [List.length_map] at this
theorem rel_start (r : Rel W Mo as (vs.map some) H) (hn : vs.length + k = N.length) : Rel W Mo (ext as k) (L2.start N vs) H := by
  have hl := r.len_args
  have hz : ∀ b, Mu Mo (ext as k) (L2.start N vs) b → Mu Mo as (vs.map some) b ∨ H b = none := fun b z => .inl (z.elim .inl fun z => .inr ((muts_ext hl).mp z))
  have held : ∀ {i : Nat} {d : D}, Held (ext as k) i d → Held as i d := fun {i d} h => by
    obtain ⟨s, e, hd⟩ := h
    rcases ext_get e with e | rfl
    · exact ⟨s, e, hd⟩
    · cases hd
  have hlt : ∀ {i : Nat} {d : D}, Held as i d → i < vs.length := fun {i d} h => by
    obtain ⟨s, e, _⟩ := h
    rw [← hl]
    exact lt_of_some e
  refine ⟨?_, fun i d e => ?_, fun i d e => ?_, fun i j d e a hi hj h1 h2 => ?_, r.tr⟩
  · unfold ext L2.start
    simp only [List.length_append, List.length_map, List.length_replicate]
    omega
  · rcases ext_get e with e | e
    · obtain ⟨v, h1, h2⟩ := r.im i d e
      exact ⟨v, by rw [start_lt (by rw [← hl]; exact lt_of_some e)]; exact h1, h2.step (Mw := Z0) .refl (fun _ z => z.elim) hz⟩
    · cases e
  · have h := held e
    obtain ⟨a, h1, h2, h3⟩ := r.mu i d h
    exact ⟨a, by rw [start_lt (hlt h)]; exact h1, h2, h3.step (Mw := Z0) .refl (fun z => z) (fun _ z => z.elim) hz⟩
  · have hi := held hi
    have hj := held hj
    rw [start_lt (hlt hi)] at h1
    rw [start_lt (hlt hj)] at h2
    exact r.ne i j d e a hi hj h1 h2
/-- what stands in the caller's arguments behind -/
theorem back_held (pa : plainA as) {i : Nat} {d : D} (h : Held (back as σ') i d) (ios : ∀ (i : Nat) (b : Bool), Pin (ext as k) i b → Pin σ' i b ∧ σV'[i]? = (L2.start N vs)[i]?) :
    (∃ d0, as[i]? = some (.io d0)) ∧ σ'[i]? = some (.io d) ∧ σV'[i]? = (L2.start N vs)[i]? := by
  obtain ⟨s, e, hd⟩ := h
  rw [back_get] at e
  cases e1 : as[i]? with
  | none => rw [e1] at e; cases e
  | some t =>
    rcases pa i t e1 with ⟨d0, rfl⟩ | ⟨d0, rfl⟩
    · rw [e1] at e
      cases e
      cases hd
    · obtain ⟨⟨u, h1, h2⟩, h3⟩ := ios i true ⟨_, ext_lt e1, rfl⟩
      cases u <;> first | (cases h2; done) | skip
      rw [e1, h1] at e
      cases e
      cases hd
      exact ⟨⟨d0, rfl⟩, h1, h3⟩
theorem rel_back (pa : plainA as) (r : Rel W Mo as (vs.map some) H) (P : PostS W Mo (ext as k) (L2.start N vs) H σ' σV' H') {Mq : Zone} (hq : ∀ b, Mq b → Mo b ∨ H b = none) (rq : Rel W Mq σ' σV' H') :
    Rel W Mq (back as σ') (vs.map some) H' ∧ (∀ a, muts (back as σ') (vs.map some) a → muts as (vs.map some) a ∧ muts σ' σV' a) ∧ (∀ a, wrt (back as σ') (vs.map some) a → wrt as (vs.map some) a) ∧ ∀ (i : Nat) (b : Bool), Pin as i b → Pin (back as σ') i b := by
  have hl := r.len_args
  have hm : ∀ a, muts (back as σ') (vs.map some) a → muts as (vs.map some) a ∧ muts σ' σV' a := fun a => by
    rintro ⟨i, d, hh, hv⟩
    obtain ⟨⟨d0, e0⟩, h1, h2⟩ := back_held pa hh P.ios
    refine ⟨⟨i, d0, ⟨_, e0, rfl⟩, hv⟩, i, d, ⟨_, h1, rfl⟩, ?_⟩
    rw [h2, start_lt (by rw [← hl]; exact lt_of_some e0)]
    exact hv
  have fr' : Fr (wrt as (vs.map some)) H H' := P.fr.mono fun a z => wrt_ext hl z
  refine ⟨⟨by rw [back_len]; exact r.len, fun i d e => ?_, fun i d e => ?_, fun i j d e a hi hj h1 h2 => ?_, rq.tr⟩, hm, fun a => ?_, fun i b e => ?_⟩
  · rw [back_get] at e
    cases e1 : as[i]? with
    | none => rw [e1] at e; cases e
    | some t =>
      rcases pa i t e1 with ⟨d0, rfl⟩ | ⟨d0, rfl⟩
      · rw [e1] at e
        cases e
        obtain ⟨v, h1, h2⟩ := r.im i _ e1
        refine ⟨v, h1, h2.step fr' (fun b z => .inr (wrt_le z)) fun b z => ?_⟩
        rcases z with z | z
        · exact (hq b z).elim (fun z => .inl (.inl z)) .inr
        · exact .inl (.inr (hm b z).1)
      · obtain ⟨⟨u, h1, h2⟩, h3⟩ := P.ios i true ⟨_, ext_lt e1, rfl⟩
        cases u <;> first | (cases h2; done) | skip
        rw [e1, h1] at e
        cases e
  · obtain ⟨⟨d0, e0⟩, h1, h2⟩ := back_held pa e P.ios
    obtain ⟨a, g1, g2, g3⟩ := rq.mu i d ⟨_, h1, rfl⟩
    refine ⟨a, ?_, g2, g3.step (Mw := Z0) .refl (fun z => z) (fun _ z => z.elim) fun b z => .inl (z.elim .inl fun z => .inr (hm b z).2)⟩
    rw [h2, start_lt (by rw [← hl]; exact lt_of_some e0)] at g1
    exact g1
  · obtain ⟨⟨d0, e0⟩, k1, k2⟩ := back_held pa hi P.ios
    obtain ⟨⟨d1, e1⟩, k3, k4⟩ := back_held pa hj P.ios
    refine rq.ne i j d e a ⟨_, k1, rfl⟩ ⟨_, k3, rfl⟩ ?_ ?_
    · rw [k2, start_lt (by rw [← hl]; exact lt_of_some e0)]
      exact h1
    · rw [k4, start_lt (by rw [← hl]; exact lt_of_some e1)]
      exact h2
  · rintro ⟨i, s, d, e, hw, hv⟩
    obtain ⟨⟨d0, e0⟩, _, _⟩ := back_held pa ⟨s, e, wr_held hw⟩ P.ios
    exact ⟨i, _, d0, e0, rfl, hv⟩
  · obtain ⟨s, e1, e2⟩ := e
    rcases pa i s e1 with ⟨d0, rfl⟩ | ⟨d0, rfl⟩
    · cases e2
    · obtain ⟨⟨u, h1, h2⟩, h3⟩ := P.ios i true ⟨_, ext_lt e1, rfl⟩
      cases u <;> first | (cases h2; done) | skip
      cases e2
      exact ⟨_, by rw [back_get, e1, h1], rfl⟩
/-- the end of a call -/
theorem post_end (pa : plainA as) (r : Rel W Mo as (vs.map some) H) (P : PostS W Mo (ext as k) (L2.start N vs) H σ' σV' H') {d : D} {o : Bool} {v : V} (w : VR W Mo σ' σV' H' (.v d) o v)
    (nw : o = true → ∀ p, v = .ref p → H p = none ∨ OwnAt (ext as k) (L2.start N vs) p) : Post W Mo as (vs.map some) H (.v d) o (back as σ') v H' := by
  have hl := r.len_args
  obtain ⟨r2, hm, hw, hp⟩ := rel_back pa r P (fun b z => .inl z) P.rel
  have nw' : o = true → ∀ p, v = .ref p → H p = none := fun ho p e => by
    rcases nw ho p e with z | ⟨i, d, s, e1, h1, h2, _⟩
    · exact z
    · rcases ext_get e1 with e1 | rfl
      · rcases pa i s e1 with ⟨d0, rfl⟩ | ⟨d0, rfl⟩
        · cases h1
        · exact absurd rfl (h2 d0)
      · cases h1
  refine ⟨P.fr.mono fun a z => wrt_ext hl z, P.dm, fun a z => (hm a z).1, hw, hp, r2, ?_, nw'⟩
  cases o with
  | false => exact Den.step (Mw := Z0) (w : Den W H' _ d v) .refl (fun _ z => z.elim) fun b z => .inl (z.elim .inl fun z => .inr (hm b z).2)
  | true =>
    obtain ⟨p, rfl, np, ow, rp⟩ := w
    have hpn := nw' rfl p rfl
    refine ⟨p, rfl, fun z => np (z.elim .inl fun z => .inr (hm p z).2), ow.step (Mw := Z0) .refl (fun z => z) (fun _ z => z.elim) fun b z => .inl ?_, (rel_back pa r P (fun b z => z.elim .inl fun e => .inr (by rw [e]; exact hpn)) rp).1⟩
    rcases z with (z | z) | z
    · exact .inl (.inl z)
    · exact .inl (.inr (hm b z).2)
    · exact .inr z
end
end Mini

set_option Elab.async false
set_option linter.all false
set_option maxRecDepth 100000
set_option maxHeartbeats 8000000
/-! ## a program is sound -/
namespace Mini
open PySem L2
theorem funD_of {K : PySem.W.Frag} {x q : Str} {st : Stmt} {a : Addr} {fd : FuncData} (F : Fun K x q st a fd) : FunD K x q (defArgs st) (defBody st) (defScope st) [] [] a fd := by
  obtain ⟨⟨oc, od, kV, doc, pm, an, cdv, ct, osl, rfl, lk, hcd⟩, kp⟩ := F
  exact ⟨⟨oc, od, .none, kV, doc, pm, an, cdv, ct, osl, rfl, lk, hcd, .inl ⟨rfl, rfl⟩, .inl rfl⟩, kp⟩
theorem funD_ok {P : Program} {w : World} {K : PySem.W.Frag} {mg : Str → Option Value} {base : Heap} {x qual : Str} {st : Stmt} {dvs : List V} {f : Addr} {fd : FuncData} {N ps : List Str} {k : Nat} {sp : Sp}
    (F : FunD K x qual (defArgs st) (defBody st) (defScope st) dvs [] f fd) (S : FnScope N ps (defScope st)) (len : ∀ vs H Q E, sp vs H Q E → vs.length = ps.length)
    (hbody : ∀ (cdv : Value) (A : Around) (outer : List PySem.Env) (s : Shared) (H : Hp) (vs : List V) (Q : VK) (E : XK), A.guards = some [] → Room k (A.deeper (PyProof.Rows.envOfC qual (defScope st) s.heap.objs.size f cdv)) → sp vs H Q E →
      ∃ t, PSs (cxOf CX0 P w K mg base N qual (defScope st) f cdv A outer s H E).nox (defBody st) t ∧ t { nx := fun _ H' => Q .non H', rt := Q } (start N vs) H) : FnG P w K mg base CX0 (k + 1) f fd ps sp := by
  obtain ⟨oc, od, dV, kV, doc, pm, an, cdv, ct, osl, rfl, lk, hcd, _, _⟩ := F.ex
  refine ⟨len, fun hg hr e0 hb r hsp => LamX.run_ofS lk hcd S hr e0 hb r (len _ _ _ _ hsp) fun hr' => ?_⟩
  obtain ⟨t, h, q⟩ := hbody cdv _ _ _ _ _ _ _ hg hr' hsp
  exact ⟨t, h.nox, q⟩
/-- what is told of a def of the text; x: its own name, q: the name with its class -/
structure DefAt (T0 : Tb) (P : Pr) (K : PySem.W.Frag) (x q : Str) (f : Nat) (a : Addr) (fd : FuncData) (ps : List Str) : Prop where
  b : Binds K fd ps []
  ex : ∃ st N F dvs, FunD K x q (defArgs st) (defBody st) (defScope st) dvs [] a fd ∧ FnScope N ps (defScope st) ∧ P.fn f = some F ∧ F.ps = ps.length ∧ F.n = N.length ∧ chkB { T0 with N := N } (defScope st) F.body (defBody st) = true
structure Top (T0 : Tb) (P : Pr) (K : PySem.W.Frag) (mg : Str → Option Value) : Prop where
  frag : K = T0.W.K
  blt : ∀ x, T0.blt.contains x = true → mg x = none
  gcd : T0.gcd = true → mg "gcd" = some (.builtin "math.gcd")
  kon : ∀ x d, T0.kon x = some d → ∃ u v, mg x = some u ∧ RelV v u ∧ ∀ H M, Den T0.W H M d v
  att : ∀ f, T0.na f = true → (∀ b, T0.W.att b = T0.W.att f → b = f) ∧ ∀ c A, T0.W.cls c = some A → Cls K A ∧ NoAttr K A (T0.W.att f)
  defs : ∀ x f, T0.fn x = some f → ∃ a fd ps, mg x = some (.ref a) ∧ PySem.W.keepIn K (.ref a) = true ∧ DefAt T0 P K x x f a fd ps
  make : ∀ x c f, T0.cl x = some c → P.init c = some f → ∃ A a fd ps q, T0.W.cls c = some A ∧ Mk K A a ∧ mg x = some (.ref A) ∧ DefAt T0 P K "__init__" q f a fd ps
  isown : ∀ x c, T0.cl x = some c → ∃ A, mg x = some (.ref A) ∧ (∀ t ∈ ["NoneType", "bool", "int", "str", "list", "tuple"], PySem.W.kitOne K (.type t) (.ref A) = some false) ∧ ∀ c' A', T0.W.cls c' = some A' → Cls K A' ∧ PySem.W.findIn K (.ref A') "__class__" = some (some (.builtin "object.__class__")) ∧
    PySem.W.specialIn K (.builtin "object.__class__") "__get__" = some (some (.builtin "getset_descriptor.__get__")) ∧ PySem.W.takesIn K (.builtin "object.__class__") = some true ∧ PySem.W.mroIn K A' (.type "object") = some true ∧ PySem.W.kitOne K (.ref A') (.ref A) = some (P.isa c' c)
  speq : ∀ c f, P.sp c 0 = some f → ∃ A a fd ps q, T0.W.cls c = some A ∧ PySem.W.findIn K (.ref A) "__eq__" = some (some (.ref a)) ∧ PySem.W.isFn K (.ref a) = true ∧ PySem.W.findIn K (.ref A) "__ne__" = some (some (.builtin "object.__ne__")) ∧ PySem.W.mroIn K A (.type "object") = some true ∧ DefAt T0 P K "__eq__" q f a fd ps
  meth : ∀ m c f, T0.nm m = true → P.meth m = some (c, f) → (∀ b, b < 500 → 500 ≤ m → T0.W.att b ≠ T0.W.att m) ∧ ∃ A a fd ps q, T0.W.cls c = some A ∧ Cls K A ∧ Meth K A (T0.W.att m) a ∧ DefAt T0 P K (T0.W.att m) q f a fd ps
  dfn : ∀ x f, T0.dfn x = some f → ∃ a fd ps, mg x = some (.ref a) ∧ PySem.W.keepIn K (.ref a) = true ∧ DefAt T0 P K x x f a fd ps ∧ Binds K fd ps [.none]
noncomputable def cbOf (P : Pr) (n : Nat) : Cb := ⟨evF P n, fun g => ((P.fn g).map (·.io)).getD false, P.init, P.meth, P.lim, P.isa, P.sp⟩
theorem evF_succ {P : Pr} {n f : Nat} {as : List Slot} {F : Fn} (h : P.fn f = some F) : evF P (n + 1) f as = if as.length = F.ps then (ex (cbOf P n) F.body (as ++ List.replicate (F.n - F.ps) .no)).bind (ends as) else .bad := by
  show (match P.fn f with | some F => _ | none => _) = _
  rw [h]
  rfl
section
variable {T0 : Tb} {P : Pr} {prog : Program} {w : World} {K : PySem.W.Frag} {mg : Str → Option Value} {base : Heap}
/-- all defs keep what the evaluator tells, at depth n -/
structure CallsOk (T0 : Tb) (P : Pr) (prog : Program) (w : World) (K : PySem.W.Frag) (mg : Str → Option Value) (base : Heap) (n : Nat) : Prop where
  at_ : ∀ x q f a fd ps, DefAt T0 P K x q f a fd ps → FnG prog w K mg base CX0 (2 * n) a fd ps (spF T0.W (evF P n f))
theorem def_sound (tp : Top T0 P K mg) {n : Nat} (ih : CallsOk T0 P prog w K mg base n) {x q : Str} {f : Nat} {a : Addr} {fd : FuncData} {ps : List Str} (dd : DefAt T0 P K x q f a fd ps) : FnG prog w K mg base CX0 (2 * n + 1 + 1) a fd ps (spF T0.W (evF P (n + 1) f)) := by
  obtain ⟨h3, st, N, F, dvs, hF, S, hP, p1, p2, hc⟩ := dd
  refine funD_ok hF S (fun vs H Q E h => ?_) (fun cdv A outer s H vs Q E hgu hr h => ?_)
  · obtain ⟨Mo, as, d, o, as', _, r, h, _⟩ := h
    rw [evF_succ hP] at h
    split at h
    · rename_i e
      rw [← r.len_args, e, p1]
    · cases h
  · obtain ⟨Mo, as, d, o, as', pa, r, he, k⟩ := h
    rw [evF_succ hP] at he
    split at he
    · rename_i e
      obtain ⟨fl, hs, he⟩ := bind_inv he
      have hpl : ps.length ≤ N.length := by have := congrArg List.length S.pre; rw [List.length_take] at this; omega
      have o0 : Okay { T0 with N := N } (cbOf P n) (2 * n) (cxOf CX0 prog w K mg base N q (defScope st) a cdv A outer s H E).nox (defScope st) :=
        ⟨rfl, S.nd, rfl, rfl, tp.frag, hr, hgu, tp.blt, tp.gcd, tp.kon, tp.att,
          fun x f hf => let ⟨a, fd, ps, h1, h2, h3⟩ := tp.defs x f hf; ⟨a, fd, ps, h1, h2, h3.b, ih.at_ _ _ _ _ _ _ h3⟩,
          fun x c f h1 h2 => let ⟨A, a, fd, ps, q, g1, g2, g3, g4⟩ := tp.make x c f h1 h2; ⟨A, a, fd, ps, g1, g2, g3, g4.b, ih.at_ _ _ _ _ _ _ g4⟩,
          tp.isown, fun c f h1 => let ⟨A, a, fd, ps, q, g1, g2, g3, g4, g5, g6⟩ := tp.speq c f h1; ⟨A, a, fd, ps, g1, g2, g3, g4, g5, g6.b, ih.at_ _ _ _ _ _ _ g6⟩,
          fun m c f h1 h2 => let ⟨g0, A, a, fd, ps, q, g1, g2, g3, g4⟩ := tp.meth m c f h1 h2; ⟨g0, A, a, fd, ps, g1, g2, g3, g4.b, ih.at_ _ _ _ _ _ _ g4⟩,
          fun x f hf => let ⟨a, fd, ps, h1, h2, h3, h4⟩ := tp.dfn x f hf; ⟨a, fd, ps, h1, h2, h4, ih.at_ _ _ _ _ _ _ h3⟩⟩
      have d0 : Def (cxOf CX0 prog w K mg base N q (defScope st) a cdv A outer s H E).nox := ⟨fun _ => rfl, PassesOwn.never, S.kind⟩
      refine ⟨_, (sound_stmts o0 d0 F.body).b _ hc, Mo, _, fl, rel_start r (k := F.n - F.ps) (by rw [← r.len_args, e, p1, p2]; omega), hs, ?_⟩
      cases fl with
      | nx σ' =>
        have he : R.ok (D.non, false, back as σ') = .ok (d, o, as') := he
        cases he
        exact fun σV' H' P => k .non H' (post_end pa r P .non fun z => nomatch z)
      | ret d1 o1 σ' =>
        have he : R.ok (d1, o1, back as σ') = .ok (d, o, as') := he
        cases he
        exact fun v σV' H' P w nw => k v H' (post_end pa r P w nw)
      | brk σ' => cases he
      | ct σ' => cases he
    · cases he
theorem prog_sound (tp : Top T0 P K mg) : ∀ (n : Nat), CallsOk T0 P prog w K mg base n := by
  intro n
  induction n with
  | zero =>
    refine ⟨fun x q f a fd ps dd => ?_⟩
    have no : ∀ {vs : List V} {H : Hp} {Q : VK} {E : XK}, ¬ spF T0.W (evF P 0 f) vs H Q E := fun {vs H Q E} ⟨Mo, as, d, o, as', _, _, h, _⟩ => nomatch h
    exact ⟨fun vs H Q E h => absurd h no, fun _ _ _ _ _ h => absurd h no⟩
  | succ n ih => exact ⟨fun x q f a fd ps dd => def_sound tp ih dd⟩
end
/-! ### the law's end -/
noncomputable def spTop (K : PySem.W.Frag) : Sp := fun vs H Q _ => ∃ (a : Addr) (ns : List Int), vs = [.ref a] ∧ Only H ∧ SqL K H a (ns.map V.int) ∧ ns.length ≤ 63 ∧ (∀ z ∈ ns, Builtin.Int.intBits z ≤ 1048576) ∧ ∀ H', Q (.bl true) H'
theorem den_ints {W : Wd} {M : Zone} {H : Hp} : ∀ ns : List Int, DenL W H M (ns.map D.int) (ns.map V.int)
  | [] => .nil
  | n :: ns => .cons (.int n) (den_ints ns)
theorem den_script {W : Wd} {M : Zone} {H : Hp} {a : Addr} {ns : List Int} (hO : Only H) (nm : ∀ b, ¬ M b) (h : SqL W.K H a (ns.map V.int)) : Den W H M (.frz (ns.map D.int)) (.ref a) := by
  have l := den_ints (W := W) (H := H) (M := M) ns
  rcases h with (h | ⟨o, h⟩) | h
  · rcases hO a with z | ⟨o, xs, z⟩
    · rw [h] at z; cases z
    · rw [h] at z; cases z
  · exact .frz h (nm a) l
  · exact .lsw h l
theorem law_sound {T0 : Tb} {P : Pr} {prog : Program} {w : World} {K : PySem.W.Frag} {mg : Str → Option Value} {base : Heap} (tp : Top T0 P K mg) (n : Nat) {x q : Str} {f : Nat} {a : Addr} {fd : FuncData} {ps : List Str} (dd : DefAt T0 P K x q f a fd ps)
    (main : ∀ ns : List Int, ns.length ≤ 63 → (∀ z ∈ ns, Builtin.Int.intBits z ≤ 1048576) → ∃ o as', evF P (n + 1) f [.im (.frz (ns.map D.int))] = .ok (.bl true, o, as')) : FnG prog w K mg base CX0 (2 * n + 1 + 1) a fd ps (spTop K) := by
  refine (def_sound tp (prog_sound tp n) dd).imp fun vs H Q E h => ?_
  obtain ⟨b, ns, rfl, hO, hS, hl, hb, k⟩ := h
  obtain ⟨o, as', e⟩ := main ns hl hb
  have hS : SqL T0.W.K H b (ns.map V.int) := by rw [← tp.frag]; exact hS
  refine ⟨Z0, _, _, o, as', plain_im (ds := [.frz (ns.map D.int)]), rel_args (fun _ z => z.elim) (.cons (den_script hO (fun _ z => z) hS) .nil), e, fun v H' p => ?_⟩
  have hv := p.val.drop
  have hv : Den T0.W H' _ (.bl true) v := hv
  cases hv
  exact k H'
end Mini

set_option Elab.async false
set_option linter.all false
set_option maxRecDepth 100000
set_option maxHeartbeats 4000000
/-! ## what is found in a text's own top -/
namespace Mini
open PySem L2
/-- a def's object, as the top has made it -/
noncomputable def FactD (K : PySem.W.Frag) (x q : Str) (st : Stmt) (a : Addr) : Prop := ∃ (oc : Value) (od : Option Addr) (kV dc pm : Value) (an : Option Addr) (cd ct : Value) (sl : Array (Option Value)),
  K.lookup a = some ⟨oc, od, .func (PySem.W.fnOf x q (defArgs st) (defBody st) (defScope st) .none kV dc pm an cd ct), sl⟩ ∧ PySem.W.codeIn K cd q = true ∧ PySem.W.keepIn K (.ref a) = true
theorem FactD.fn {K : PySem.W.Frag} {x q : Str} {st : Stmt} {a : Addr} (h : FactD K x q st a) : ∃ fd, Fun K x q st a fd := by
  obtain ⟨oc, od, kV, dc, pm, an, cd, ct, sl, h1, h2, h3⟩ := h
  exact ⟨_, fun_mk h1 h2 h3⟩
/-- .. under its name among the module's -/
noncomputable def FactG (K : PySem.W.Frag) (x : Str) (st : Stmt) : Prop := ∃ a, PySem.W.nsIn K mainGlobals x = some (some (.ref a)) ∧ FactD K x x st a
theorem FactG.mk {K : PySem.W.Frag} {x : Str} {st : Stmt} {a : Addr} {oc : Value} {od : Option Addr} {kV dc pm : Value} {an : Option Addr} {cd ct : Value} {sl : Array (Option Value)} (n : PySem.W.nsIn K mainGlobals x = some (some (.ref a)))
    (l : K.lookup a = some ⟨oc, od, .func (PySem.W.fnOf x x (defArgs st) (defBody st) (defScope st) .none kV dc pm an cd ct), sl⟩) (c : PySem.W.codeIn K cd x = true) (k : PySem.W.keepIn K (.ref a) = true) : FactG K x st := ⟨a, n, oc, od, kV, dc, pm, an, cd, ct, sl, l, c, k⟩
/-- .. under its name among the module's, with the one default None -/
noncomputable def FactGD (K : PySem.W.Frag) (x : Str) (st : Stmt) : Prop := ∃ a fd, PySem.W.nsIn K mainGlobals x = some (some (.ref a)) ∧ FunD K x x (defArgs st) (defBody st) (defScope st) [.non] [] a fd
theorem FactGD.mk {K : PySem.W.Frag} {x : Str} {st : Stmt} {a T : Addr} {oc oc2 : Value} {od od2 : Option Addr} {kV dc pm : Value} {an : Option Addr} {cd ct : Value} {sl sl2 : Array (Option Value)} {m : Nat} (n : PySem.W.nsIn K mainGlobals x = some (some (.ref a)))
    (l : K.lookup a = some ⟨oc, od, .func (PySem.W.fnOf x x (defArgs st) (defBody st) (defScope st) (.ref T) kV dc pm an cd ct), sl⟩) (t : K.lookup T = some ⟨oc2, od2, .seq #[.none] m, sl2⟩) (c : PySem.W.codeIn K cd x = true) (k : PySem.W.keepIn K (.ref a) = true) : FactGD K x st :=
  ⟨a, _, n, ⟨⟨oc, od, .ref T, kV, dc, pm, an, cd, ct, sl, rfl, l, c, .inr ⟨by simp, T, _, [.none], m, rfl, t, rfl, .cons rfl .nil⟩, .inl rfl⟩, k⟩⟩
theorem FactGD.defs {T0 : Tb} {P : Pr} {K : PySem.W.Frag} {h : Heap} {mg : Str → Option Value} (X : K.In h) (G : h.Ns mainGlobals mg) {x : Str} {st : Stmt} (g : FactGD K x st) {f : Nat} {ps : List Str}
    (d : ∀ a fd, FunD K x x (defArgs st) (defBody st) (defScope st) [.non] [] a fd → DefAt T0 P K x x f a fd ps) : ∃ a fd ps, mg x = some (.ref a) ∧ PySem.W.keepIn K (.ref a) = true ∧ DefAt T0 P K x x f a fd ps := by
  obtain ⟨a, fd, h1, h2⟩ := g
  exact ⟨a, fd, ps, PySem.W.mg_of X G h1, h2.kp, d a fd h2⟩
theorem FactGD.dfn {T0 : Tb} {P : Pr} {K : PySem.W.Frag} {h : Heap} {mg : Str → Option Value} (X : K.In h) (G : h.Ns mainGlobals mg) {x : Str} {st : Stmt} (g : FactGD K x st) {f : Nat} {ps : List Str}
    (d : ∀ a fd, FunD K x x (defArgs st) (defBody st) (defScope st) [.non] [] a fd → DefAt T0 P K x x f a fd ps) (b : ∀ a fd, FunD K x x (defArgs st) (defBody st) (defScope st) [.non] [] a fd → Binds K fd ps [.none]) :
    ∃ a fd ps, mg x = some (.ref a) ∧ PySem.W.keepIn K (.ref a) = true ∧ DefAt T0 P K x x f a fd ps ∧ Binds K fd ps [.none] := by
  obtain ⟨a, fd, h1, h2⟩ := g
  exact ⟨a, fd, ps, PySem.W.mg_of X G h1, h2.kp, d a fd h2, b a fd h2⟩
/-- .. as a method -/
noncomputable def FactM (K : PySem.W.Frag) (C : Addr) (x q : Str) (st : Stmt) : Prop := ∃ a, PySem.W.findIn K (.ref C) x = some (some (.ref a)) ∧ PySem.W.isFn K (.ref a) = true ∧ FactD K x q st a
theorem FactM.mk {K : PySem.W.Frag} {C : Addr} {x q : Str} {st : Stmt} {a : Addr} {oc : Value} {od : Option Addr} {kV dc pm : Value} {an : Option Addr} {cd ct : Value} {sl : Array (Option Value)} (n : PySem.W.findIn K (.ref C) x = some (some (.ref a))) (f : PySem.W.isFn K (.ref a) = true)
    (l : K.lookup a = some ⟨oc, od, .func (PySem.W.fnOf x q (defArgs st) (defBody st) (defScope st) .none kV dc pm an cd ct), sl⟩) (c : PySem.W.codeIn K cd q = true) (k : PySem.W.keepIn K (.ref a) = true) : FactM K C x q st := ⟨a, n, f, oc, od, kV, dc, pm, an, cd, ct, sl, l, c, k⟩
/-- a constant of the module -/
noncomputable def FactK (K : PySem.W.Frag) (x : Str) (v : V) : Prop := ∃ u, PySem.W.nsIn K mainGlobals x = some (some u) ∧ RelV v u
theorem FactK.mk {K : PySem.W.Frag} {x : Str} {v : V} {u : Value} (n : PySem.W.nsIn K mainGlobals x = some (some u)) (r : RelV v u) : FactK K x v := ⟨u, n, r⟩
/-- isinstance(x, C), by C's facts -/
theorem kit_ref {K : PySem.W.Frag} {C : Addr} {t : Value} {b : Bool} (mk : PySem.W.makesIn K C = true) (ty : PySem.W.typeIn K (.ref C) = some (.type "type")) (sb : PySem.W.subIn K t (.ref C) = some b) (ne : (t == .ref C) = false) : PySem.W.kitOne K t (.ref C) = some b := by
  unfold PySem.W.kitOne
  rw [if_neg (by rw [ne]; exact Bool.false_ne_true)]
  unfold PySem.W.kitCls
  have hc : (PySem.W.clsIn K C).isSome = true := by
    unfold PySem.W.makesIn at mk
    split at mk
    · rename_i h
      unfold PySem.W.clsIn
      rw [h]
      rfl
    · cases mk
  show (if ((PySem.W.clsIn K C).isSome && PySem.W.typeIn K (.ref C) == some (.type "type")) = true then PySem.W.subIn K t (.ref C) else none) = some b
  rw [if_pos (by rw [hc, ty]; rfl)]
  exact sb
theorem kit_plain {K : PySem.W.Frag} {C : Addr} (mk : PySem.W.makesIn K C = true) (ty : PySem.W.typeIn K (.ref C) = some (.type "type")) : ∀ t ∈ ["NoneType", "bool", "int", "str", "list", "tuple"], PySem.W.kitOne K (.type t) (.ref C) = some false := by
  intro t ht
  refine kit_ref mk ty ?_ rfl
  simp only [List.mem_cons, List.not_mem_nil, or_false] at ht
  rcases ht with rfl | rfl | rfl | rfl | rfl | rfl <;> kernel_rfl
theorem kit_self {K : PySem.W.Frag} {C : Addr} : PySem.W.kitOne K (.ref C) (.ref C) = some true := by
  unfold PySem.W.kitOne
  rw [if_pos (beq_self_eq_true _)]
theorem FactM.meth {K : PySem.W.Frag} {C : Addr} {x q : Str} {st : Stmt} (h : FactM K C x q st) : ∃ a fd, Meth K C x a ∧ Fun K x q st a fd := by
  obtain ⟨a, h1, h2, h3⟩ := h
  obtain ⟨fd, hf⟩ := h3.fn
  obtain ⟨_, _, _, _, _, _, _, _, _, _, _, k⟩ := h3
  exact ⟨a, fd, ⟨h1, h2, k⟩, hf⟩
theorem FactG.defs {T0 : Tb} {P : Pr} {K : PySem.W.Frag} {h : Heap} {mg : Str → Option Value} (X : K.In h) (G : h.Ns mainGlobals mg) {x : Str} {st : Stmt} (g : FactG K x st) {f : Nat} {ps : List Str}
    (d : ∀ a fd, Fun K x x st a fd → DefAt T0 P K x x f a fd ps) : ∃ a fd ps, mg x = some (.ref a) ∧ PySem.W.keepIn K (.ref a) = true ∧ DefAt T0 P K x x f a fd ps := by
  obtain ⟨a, h1, h2⟩ := g
  obtain ⟨fd, hf⟩ := h2.fn
  obtain ⟨_, _, _, _, _, _, _, _, _, _, _, k⟩ := h2
  exact ⟨a, fd, ps, PySem.W.mg_of X G h1, k, d a fd hf⟩
theorem mem_of_lookup {α β : Type} [BEq α] [LawfulBEq α] : ∀ {l : List (α × β)} {a : α} {b : β}, l.lookup a = some b → (a, b) ∈ l
  | (k, v) :: l, a, b, h => by
    rw [List.lookup_cons] at h
    cases e : a == k with
    | true =>
      rw [e] at h
      cases h
      rw [eq_of_beq e]
      exact List.mem_cons_self
    | false =>
      rw [e] at h
      exact List.mem_cons_of_mem _ (mem_of_lookup h)
/-- the names of attributes and methods: A below 500, B from there on -/
noncomputable def attOf (A B : List Str) (i : Nat) : Str := if i < 500 then A.getD i (Str.ofString "?") else B.getD (i - 500) (Str.ofString "?")
theorem attOf_inj {A B : List Str} (h : (A.all fun x => !(B.contains x) && !(x == Str.ofString "?")) = true) (nd : A.Nodup) (hl : A.length ≤ 500) {f : Nat} (hf : f < A.length) (b : Nat) (e : attOf A B b = attOf A B f) : b = f := by
  have e1 : attOf A B f = A[f] := by
    unfold attOf
    rw [if_pos (by omega), List.getD_eq_getElem?_getD, List.getElem?_eq_getElem hf]
    rfl
  rw [e1] at e
  have hm := List.all_eq_true.mp h A[f] (List.getElem_mem hf)
  simp only [Bool.and_eq_true, Bool.not_eq_true', beq_eq_false_iff_ne, ne_eq] at hm
  unfold attOf at e
  split at e
  · by_cases hb : b < A.length
    · rw [List.getD_eq_getElem?_getD, List.getElem?_eq_getElem hb] at e
      exact (List.getElem_inj nd).mp e
    · rw [List.getD_eq_getElem?_getD, List.getElem?_eq_none (by omega)] at e
      exact absurd e.symm hm.2
  · by_cases hb : b - 500 < B.length
    · rw [List.getD_eq_getElem?_getD, List.getElem?_eq_getElem hb] at e
      have : A[f] ∈ B := by rw [← (show B[b - 500] = A[f] from e)]; exact List.getElem_mem hb
      have h2 := hm.1
      rw [List.contains_eq_mem, decide_eq_false_iff_not] at h2
      exact absurd this h2
    · rw [List.getD_eq_getElem?_getD, List.getElem?_eq_none (by omega)] at e
      exact absurd e.symm hm.2
theorem attOf_ne {A B : List Str} (h : (B.all fun x => !(A.contains x) && !(x == Str.ofString "?")) = true) {m : Nat} (hm : 500 ≤ m) (hB : m - 500 < B.length) {b : Nat} (hb : b < 500) : attOf A B b ≠ attOf A B m := by
  intro e
  unfold attOf at e
  rw [if_pos hb, if_neg (by omega), List.getD_eq_getElem?_getD, List.getD_eq_getElem?_getD, List.getElem?_eq_getElem hB] at e
  have hx := List.all_eq_true.mp h B[m - 500] (List.getElem_mem hB)
  simp only [Bool.and_eq_true, Bool.not_eq_true', beq_eq_false_iff_ne, ne_eq, List.contains_eq_mem, decide_eq_false_iff_not] at hx
  by_cases hl : b < A.length
  · rw [List.getElem?_eq_getElem hl] at e
    exact hx.1 ((show A[b] = B[m - 500] from e) ▸ List.getElem_mem hl)
  · rw [List.getElem?_eq_none (by omega)] at e
    exact hx.2 e.symm
end Mini

set_option Elab.async false
set_option linter.all false
set_option maxRecDepth 100000
set_option maxHeartbeats 2000000
/-! ## the evaluator step by step: equations without matches, for simp -/
namespace Mini
open PySem
section
variable {C : Cb} {σ : Fm}
noncomputable def atS (i : Nat) (σ : Fm) : Option Slot → Res
  | some (.im d) => .ok (.v d, false, σ)
  | some (.mu _) => .ok (.r i, false, σ)
  | some (.lk _) => .ok (.r i, false, σ)
  | some (.io _) => .ok (.r i, false, σ)
  | _ => .bad
theorem q_var (i : Nat) : ev C (.var i) σ = atS i σ σ[i]? := by
  unfold ev
  cases h : σ[i]? with
  | none => rfl
  | some s => cases s <;> rfl
theorem atS_im {i : Nat} {d : D} : atS i σ (some (.im d)) = .ok (.v d, false, σ) := rfl
theorem atS_mu {i : Nat} {d : D} : atS i σ (some (.mu d)) = .ok (.r i, false, σ) := rfl
theorem atS_lk {i : Nat} {d : D} : atS i σ (some (.lk d)) = .ok (.r i, false, σ) := rfl
theorem atS_io {i : Nat} {d : D} : atS i σ (some (.io d)) = .ok (.r i, false, σ) := rfl
theorem q_lit (d : D) : ev C (.lit d) σ = .ok (.v d, false, σ) := rfl
theorem q_bin (op : Operator) (a b : E) : ev C (.bin op a b) σ = (ev C a σ).bind fun x => (ev C b x.2.2).bind fun y => (rd y.2.2 x.1).bind fun d => (rd y.2.2 y.1).bind fun e => asD y.2.2 (binop op d e) := rfl
noncomputable def negD : D → R D | .int i => .ok (.int (-i)) | _ => .bad
theorem q_neg (a : E) : ev C (.neg a) σ = (ev C a σ).bind fun x => (rd x.2.2 x.1).bind fun d => (negD d).bind fun e => .ok (.v e, false, x.2.2) := by
  show ((ev C a σ).bind fun x => (rd x.2.2 x.1).bind fun d => match d with | .int i => R.ok (Opd.v (.int (-i)), false, x.2.2) | _ => .bad) = _
  congr 1; funext x; congr 1; funext d
  cases d <;> rfl
theorem q_not (a : E) : ev C (.not a) σ = (tst (ev C a σ)).bind fun x => .ok (.v (.bl (!x.1)), false, x.2) := rfl
theorem q_cmp (op : CmpOp) (a b : E) : ev C (.cmp op a b) σ = (ev C a σ).bind fun x => (ev C b x.2.2).bind fun y => (rd y.2.2 x.1).bind fun d => (rd y.2.2 y.1).bind fun e => asB y.2.2 (cmpop op d e) := rfl
theorem q_cmp2 (op op' : CmpOp) (a b c : E) : ev C (.cmp2 op op' a b c) σ = (ev C a σ).bind fun x => (ev C b x.2.2).bind fun y => (rd y.2.2 x.1).bind fun d => (rd y.2.2 y.1).bind fun e => (cmpop op d e).bind fun k =>
      if k then (ev C c y.2.2).bind fun z => (rd z.2.2 y.1).bind fun e' => (rd z.2.2 z.1).bind fun g => asB z.2.2 (cmpop op' e' g) else .ok (.v (.bl false), false, y.2.2) := rfl
theorem q_and (l : E) : ev C (.and l) σ = evAnd C l σ := rfl
theorem q_or (l : E) : ev C (.or l) σ = evOr C l σ := rfl
theorem q_ife (t a b : E) : ev C (.ife t a b) σ = (tst (ev C t σ)).bind fun x => if x.1 then ev C a x.2 else ev C b x.2 := rfl
theorem q_tup (l : E) : ev C (.tup l) σ = (evW C l σ).bind fun x => (R.guard (sizeOk x.1.length)).bind fun _ => .ok (.v (.tup (x.1.map (·.1))), false, x.2) := rfl
theorem q_lst (l : E) : ev C (.lst l) σ = (evW C l σ).bind fun x => (R.guard (sizeOk x.1.length)).bind fun _ => .ok (.v (.lst (x.1.map (·.1))), true, x.2) := rfl
theorem q_idx (a b : E) : ev C (.idx a b) σ = (ev C a σ).bind fun x => (ev C b x.2.2).bind fun y => (rd y.2.2 x.1).bind fun d => (rd y.2.2 y.1).bind fun e => (item d e).bind fun g => .ok (.v g, false, y.2.2) := rfl
theorem q_slc (a lo hi : E) : ev C (.slc a lo hi) σ = (ev C a σ).bind fun x => (evP C lo x.2.2).bind fun y => (evP C hi y.2).bind fun z => (rd z.2 x.1).bind fun d => asD z.2 (slice d y.1 z.1) := rfl
noncomputable def attrD (f : Nat) : D → R D | .ins _ ns vs => find f ns vs | _ => .bad
theorem attrD_ins (f c : Nat) (ns : List Nat) (vs : List D) : attrD f (.ins c ns vs) = find f ns vs := rfl
theorem q_attr (a : E) (f : Nat) : ev C (.attr a f) σ = (ev C a σ).bind fun x => (rd x.2.2 x.1).bind fun d => (attrD f d).bind fun g => .ok (.v g, false, x.2.2) := by
  show ((ev C a σ).bind fun x => (rd x.2.2 x.1).bind fun d => match d with | .ins _ ns vs => (find f ns vs).bind fun g => R.ok (Opd.v g, false, x.2.2) | _ => .bad) = _
  congr 1; funext x; congr 1; funext d
  cases d <;> rfl
theorem q_bi (b : Bi) (l : E) : ev C (.bi b l) σ = (evO C l σ).bind fun x => (rds x.2 x.1).bind fun ds => asD x.2 (builtin b ds) := rfl
theorem q_lrg (l : E) : ev C (.lrg l) σ = (evO C l σ).bind fun x => (rds x.2 x.1).bind fun ds => (ranged ds).bind fun is => (R.guard (sizeOk is.length)).bind fun _ => .ok (.v (.lst is), true, x.2) := rfl
noncomputable def strD : D → R Str | .str z => .ok z | _ => .bad
theorem strD_str (z : Str) : strD (.str z) = .ok z := rfl
theorem q_bm (b : Bm) (a l : E) : ev C (.bm b a l) σ = (val (ev C a σ)).bind fun x => (strD x.1).bind fun z => (evO C l x.2).bind fun y => (rds y.2 y.1).bind fun ds => asD y.2 (bmth b z ds) := by
  show ((val (ev C a σ)).bind fun x => match x.1 with
    | .str z => (evO C l x.2).bind fun y => (rds y.2 y.1).bind fun ds => asD y.2 (bmth b z ds)
    | _ => .bad) = _
  congr 1; funext x
  obtain ⟨d, σ'⟩ := x
  cases d <;> rfl
theorem q_isi (k : Nat) (a : E) : ev C (.isi k a) σ = (ev C a σ).bind fun x => (rd x.2.2 x.1).bind fun d => asB x.2.2 (isInst k d) := rfl
theorem q_isc (k : Nat) (a : E) : ev C (.isc k a) σ = (ev C a σ).bind fun x => (rd x.2.2 x.1).bind fun d => asB x.2.2 (isOwn C.isa k d) := rfl
theorem q_tyi (a : E) : ev C (.tyi a) σ = (ev C a σ).bind fun x => (rd x.2.2 x.1).bind fun d => asB x.2.2 (isIntT d) := rfl
theorem q_fstr (l : E) : ev C (.fstr l) σ = (evJ C l Str.empty σ).bind fun x => .ok (.v (.str x.1), false, x.2) := rfl
theorem q_dcall {f : Nat} (l : E) (h : C.io f = false) : ev C (.dcall f l) σ = asV ((evW C l σ).bind fun x => callD C f (x.1.map (·.1) ++ [D.non]) x.2) := by
  show (if C.io f then R.bad else _) = _
  rw [h]
  rfl
theorem q_call {f : Nat} (l : E) (h : C.io f = false) : ev C (.call f l) σ = asV ((evW C l σ).bind fun x => callD C f (x.1.map (·.1)) x.2) := by
  unfold ev
  rw [h]
  rfl
theorem q_callio {f : Nat} (a m : E) (h : C.io f = true) : ev C (.call f (.cons a m)) σ = (ev C a σ).bind fun x => (evW C m x.2.2).bind fun y => asV (callX C f x.1 x.2.1 (y.1.map (·.1)) y.2) := by
  rw [ev.eq_def]
  show (if C.io f = true then _ else _) = _
  rw [h]
  rfl
theorem q_callD {f : Nat} {ds : List D} : callD C f ds σ = (C.call f (ds.map .im)).bind fun x => .ok (x.1, x.2.1, σ) := rfl
/-- a method of an own object -/
noncomputable def methX (C : Cb) (m : Nat) (l : E) : D × Bool × Fm → Res := fun x => match x.1 with
    | .ins c ns vs => match C.meth m with
      | some (c', f) => if c' = c ∧ C.io f = false ∧ 500 ≤ m ∧ ns.all (· < 500) = true then (evW C l x.2.2).bind fun y => asV (callD C f (.ins c ns vs :: y.1.map (·.1)) y.2) else .bad
      | none => .bad
    | _ => .bad
theorem q_meth (a : E) (m : Nat) (l : E) : ev C (.meth a m l) σ = (ev C a σ).bind fun x => (fz x).bind (methX C m l) := rfl
noncomputable def oeqX (C : Cb) (neg : Bool) : D → D → Fm → Res
  | .ins c ns vs, .ins c' ns' vs', σ => match C.sp c 0 with
      | some f => if c' = c ∧ C.io f = false then (C.call f [.im (.ins c ns vs), .im (.ins c' ns' vs')]).bind fun r => match r.1 with
        | .bl k => .ok (.v (.bl (k != neg)), false, σ)
        | _ => .bad
        else .bad
      | none => .bad
  | _, _, _ => .bad
theorem q_oeq (neg : Bool) (a b : E) : ev C (.oeq neg a b) σ = (ev C a σ).bind fun x => (fz x).bind fun x => (ev C b x.2.2).bind fun y => (fz y).bind fun y => oeqX C neg x.1 y.1 y.2.2 := by
  show ((ev C a σ).bind fun x => (fz x).bind fun x => (ev C b x.2.2).bind fun y => (fz y).bind fun y => match x.1, y.1 with
    | .ins c ns vs, .ins c' ns' vs' => match C.sp c 0 with
      | some f => if c' = c ∧ C.io f = false then (C.call f [.im (.ins c ns vs), .im (.ins c' ns' vs')]).bind fun r => match r.1 with
        | .bl k => R.ok (Opd.v (.bl (k != neg)), false, y.2.2)
        | _ => .bad
        else .bad
      | none => .bad
    | _, _ => .bad) = _
  congr 1; funext x; congr 1; funext x; congr 1; funext y; congr 1; funext y
  obtain ⟨d, o, σ1⟩ := x
  obtain ⟨e, o', σ2⟩ := y
  cases d <;> first | rfl | (cases e <;> rfl)
/-- one turn of a comprehension -/
theorem q_comp (e t it c : E) (vs : List Nat) : ev C (.comp e t it c vs) σ = (evI C it σ).bind fun x => (R.guard (freeS x.2.2 vs)).bind fun _ => (compLoop (compF C e t c vs) x.1 (wipeS x.2.2 vs) []).bind fun y =>
    (unlock x.2.1 (backS x.2.2 y.2 vs)).bind fun σ' => .ok (.v (.lst y.1), true, σ') := rfl
theorem q_lset (e t it c : E) (vs : List Nat) : ev C (.lset e t it c vs) σ = (evI C it σ).bind fun x => (R.guard (freeS x.2.2 vs)).bind fun _ => (compLoop (compF C e t c vs) x.1 (wipeS x.2.2 vs) []).bind fun y =>
    (unlock x.2.1 (backS x.2.2 y.2 vs)).bind fun σ' => (lenSet y.1).bind fun n => .ok (.v (.int n), false, σ') := rfl
theorem q_compF (e t c : E) (vs : List Nat) (d : D) : compF C e t c vs d σ = (putT t d σ).bind fun σ1 => (evC C c σ1).bind fun y =>
  if y.1 then (ev C e y.2).bind fun z => (fz z).bind fun w => (R.guard (freeS w.2.2 vs)).bind fun _ => .ok (some w.1, wipeS w.2.2 vs) else (R.guard (freeS y.2 vs)).bind fun _ => .ok (none, wipeS y.2 vs) := rfl
theorem q_nilW : evW C .nil σ = .ok ([], σ) := rfl
theorem q_consW (a l : E) : evW C (.cons a l) σ = (ev C a σ).bind fun x => (fz x).bind fun x => (evW C l x.2.2).bind fun y => .ok ((x.1, x.2.1) :: y.1, y.2) := rfl
theorem q_nilO : evO C .nil σ = .ok ([], σ) := rfl
theorem q_consO (a l : E) : evO C (.cons a l) σ = (ev C a σ).bind fun x => (evO C l x.2.2).bind fun y => .ok (x.1 :: y.1, y.2) := rfl
theorem q_nilP : evP C .nil σ = .ok (none, σ) := rfl
noncomputable def intD : D → R Int | .int i => .ok i | _ => .bad
theorem intD_int (i : Int) : intD (.int i) = .ok i := rfl
theorem q_oneP (a : E) : evP C (.cons a .nil) σ = (val (ev C a σ)).bind fun x => (intD x.1).bind fun i => .ok (some i, x.2) := by
  show ((val (ev C a σ)).bind fun x => match x.1 with | .int i => .ok (some i, x.2) | _ => .bad) = _
  congr 1; funext x
  obtain ⟨d, σ'⟩ := x
  cases d <;> rfl
theorem q_and1 (a : E) : evAnd C (.cons a .nil) σ = ev C a σ := rfl
theorem q_and2 (a b l : E) : evAnd C (.cons a (.cons b l)) σ = (ev C a σ).bind fun x => (rd x.2.2 x.1).bind fun d => (truth d).bind fun k => if k then evAnd C (.cons b l) x.2.2 else .ok (x.1, false, x.2.2) := rfl
theorem q_or1 (a : E) : evOr C (.cons a .nil) σ = ev C a σ := rfl
theorem q_or2 (a b l : E) : evOr C (.cons a (.cons b l)) σ = (ev C a σ).bind fun x => (rd x.2.2 x.1).bind fun d => (truth d).bind fun k => if k then .ok (x.1, false, x.2.2) else evOr C (.cons b l) x.2.2 := rfl
theorem q_nilC : evC C .nil σ = .ok (true, σ) := rfl
theorem q_consC (a l : E) : evC C (.cons a l) σ = (tst (ev C a σ)).bind fun x => if x.1 then evC C l x.2 else .ok (false, x.2) := rfl
theorem q_range (l : E) : evI C (.range l) σ = (evO C l σ).bind fun x => (rds x.2 x.1).bind fun ds => (ranged ds).bind fun is => .ok (is, .v .non, x.2) := rfl
theorem q_itm (a : E) : evI C (.itm a) σ = (ev C a σ).bind fun x => (walked x.1 x.2.2).bind fun y => .ok (y.1, x.1, y.2) := rfl
theorem q_nilJ (acc : Str) : evJ C .nil acc σ = .ok (acc, σ) := rfl
theorem q_fmtJ (a l : E) (acc : Str) : evJ C (.cons (.fmt a) l) acc σ = (ev C a σ).bind fun x => (rd x.2.2 x.1).bind fun d => (fmtD d).bind fun y => (R.guard (sizeOk (acc ++ y).length)).bind fun _ => evJ C l (acc ++ y) x.2.2 := rfl
theorem q_litJ (y : Str) (l : E) (acc : Str) : evJ C (.cons (.lit (.str y)) l) acc σ = (R.guard (sizeOk (acc ++ y).length)).bind fun _ => evJ C l (acc ++ y) σ := rfl
theorem tst_ok (x : Opd) (o : Bool) (σ : Fm) : tst (.ok (x, o, σ)) = (rd σ x).bind fun d => (truth d).bind fun b => .ok (b, σ) := rfl
theorem tst_bad : tst .bad = .bad := rfl
theorem val_ok (x : Opd) (o : Bool) (σ : Fm) : val (.ok (x, o, σ)) = (rd σ x).bind fun d => .ok (d, σ) := rfl
theorem val_bad : val .bad = .bad := rfl
theorem rd_v (d : D) : rd σ (.v d) = .ok d := rfl
noncomputable def slotD : Option Slot → R D | some (.mu d) => .ok d | some (.lk d) => .ok d | some (.io d) => .ok d | _ => .bad
theorem rd_r (i : Nat) : rd σ (.r i) = slotD σ[i]? := by
  show (match σ[i]? with | some (.mu d) => R.ok d | some (.lk d) => .ok d | some (.io d) => .ok d | _ => .bad) = _
  cases h : σ[i]? with
  | none => rfl
  | some s => cases s <;> rfl
theorem slotD_mu (d : D) : slotD (some (.mu d)) = .ok d := rfl
theorem slotD_lk (d : D) : slotD (some (.lk d)) = .ok d := rfl
theorem slotD_io (d : D) : slotD (some (.io d)) = .ok d := rfl
theorem fz_v (d : D) (o : Bool) : fz (.v d, o, σ) = .ok (d, o, σ) := rfl
noncomputable def fzS (i : Nat) (σ : Fm) : Option Slot → R (D × Bool × Fm) | some (.mu d) => .ok (d, false, σ.set i (.im d)) | _ => .bad
theorem fz_r (i : Nat) (o : Bool) : fz (.r i, o, σ) = fzS i σ σ[i]? := by
  show (match σ[i]? with | some (.mu d) => R.ok (d, false, σ.set i (.im d)) | _ => .bad) = _
  cases h : σ[i]? with
  | none => rfl
  | some s => cases s <;> rfl
theorem fzS_mu {i : Nat} {d : D} : fzS i σ (some (.mu d)) = .ok (d, false, σ.set i (.im d)) := rfl
theorem asD_ok (d : D) (o : Bool) : asD σ (.ok (d, o)) = .ok (.v d, o, σ) := rfl
theorem asB_ok (b : Bool) : asB σ (.ok b) = .ok (.v (.bl b), false, σ) := rfl
theorem asV_ok (d : D) (o : Bool) : asV (.ok (d, o, σ)) = .ok (.v d, o, σ) := rfl
theorem asD_bad : asD σ .bad = .bad := rfl
theorem asB_bad : asB σ .bad = .bad := rfl
theorem asV_bad : asV .bad = .bad := rfl
theorem rds_nil : rds σ [] = .ok [] := rfl
theorem rds_cons (x : Opd) (xs : List Opd) : rds σ (x :: xs) = (rd σ x).bind fun d => (rds σ xs).bind fun ds => .ok (d :: ds) := rfl
/-! calls whose first argument is lent -/
noncomputable def lendS (C : Cb) (f i : Nat) (ds : List D) (σ : Fm) : Option Slot → R (D × Bool × Fm)
  | some (.mu p) => (C.call f (.io p :: ds.map .im)).bind fun x => match x.2.2 with
    | .io p' :: _ => .ok (x.1, x.2.1, σ.set i (.mu p'))
    | _ => .bad
  | some (.io p) => (C.call f (.io p :: ds.map .im)).bind fun x => match x.2.2 with
    | .io p' :: _ => .ok (x.1, x.2.1, σ.set i (.io p'))
    | _ => .bad
  | _ => .bad
theorem callX_r (f i : Nat) (o : Bool) (ds : List D) : callX C f (.r i) o ds σ = lendS C f i ds σ σ[i]? := by
  show callI C f i ds σ = _
  unfold callI
  cases h : σ[i]? with
  | none => rfl
  | some s => cases s <;> rfl
theorem lendS_io {f i : Nat} {ds : List D} {p p' d : D} {o : Bool} {as' : List Slot} (h : C.call f (.io p :: ds.map .im) = .ok (d, o, .io p' :: as')) : lendS C f i ds σ (some (.io p)) = .ok (d, o, σ.set i (.io p')) := by
  show (C.call f (.io p :: ds.map .im)).bind _ = _
  rw [h]
  rfl
theorem callX_new {f : Nat} {ds : List D} {p : D} : callX C f (.v p) true ds σ = (C.call f (.io p :: ds.map .im)).bind fun x => .ok (x.1, x.2.1, σ) := rfl
/-! statements -/
noncomputable def thenS (C : Cb) (t : S) : Fl → R Fl
  | .nx σ' => ex C t σ'
  | f => .ok f
theorem x_seq (s t : S) : ex C (.seq s t) σ = (ex C s σ).bind (thenS C t) := by
  show ((ex C s σ).bind fun
    | .nx σ' => ex C t σ'
    | f => .ok f) = _
  congr 1
theorem thenS_nx (t : S) (σ : Fm) : thenS C t (.nx σ) = ex C t σ := rfl
theorem thenS_ret (t : S) (d : D) (o : Bool) (σ : Fm) : thenS C t (.ret d o σ) = .ok (.ret d o σ) := rfl
theorem thenS_brk (t : S) (σ : Fm) : thenS C t (.brk σ) = .ok (.brk σ) := rfl
theorem thenS_ct (t : S) (σ : Fm) : thenS C t (.ct σ) = .ok (.ct σ) := rfl
theorem x_done : ex C .done σ = .ok (.nx σ) := rfl
theorem x_pass : ex C .pass σ = .ok (.nx σ) := rfl
theorem x_brk : ex C .brk σ = .ok (.brk σ) := rfl
theorem x_ct : ex C .ct σ = .ok (.ct σ) := rfl
theorem x_retn : ex C .retn σ = .ok (.ret .non false σ) := rfl
theorem x_asg (i : Nat) (e : E) : ex C (.asg (.var i) e) σ = (ev C e σ).bind fun x => (fz x).bind fun x => (putS i x.1 x.2.1 x.2.2).bind fun σ' => .ok (.nx σ') := rfl
theorem x_asgT (l e : E) : ex C (.asg (.tup l) e) σ = (ev C e σ).bind fun x => (fz x).bind fun x => (putT (.tup l) x.1 x.2.2).bind fun σ' => .ok (.nx σ') := rfl
theorem x_par (is : List Nat) (l : E) : ex C (.par is l) σ = (evW C l σ).bind fun x => (putSs is x.1 x.2).bind fun σ' => .ok (.nx σ') := rfl
theorem x_ife (t : E) (a b : S) : ex C (.ife t a b) σ = (tst (ev C t σ)).bind fun x => if x.1 then ex C a x.2 else ex C b x.2 := rfl
theorem x_expr (e : E) : ex C (.expr e) σ = (ev C e σ).bind fun x => .ok (.nx x.2.2) := rfl
noncomputable def retS (i : Nat) (σ : Fm) : Option Slot → R Fl
  | some (.mu d) => .ok (.ret d true (σ.set i .no))
  | some (.im d) => .ok (.ret d false σ)
  | _ => .bad
theorem x_retv (i : Nat) : ex C (.ret (.var i)) σ = retS i σ σ[i]? := by
  show (match σ[i]? with | some (.mu d) => R.ok (Fl.ret d true (σ.set i .no)) | some (.im d) => .ok (.ret d false σ) | _ => .bad) = _
  cases h : σ[i]? with
  | none => rfl
  | some s => cases s <;> rfl
theorem retS_mu {i : Nat} {d : D} : retS i σ (some (.mu d)) = .ok (.ret d true (σ.set i .no)) := rfl
theorem retS_im {i : Nat} {d : D} : retS i σ (some (.im d)) = .ok (.ret d false σ) := rfl
/-- return e, e no name -/
theorem r_lit (d : D) : ex C (.ret (.lit d)) σ = (ev C (.lit d) σ).bind fun x => (fz x).bind fun x => .ok (.ret x.1 x.2.1 x.2.2) := rfl
theorem r_bin (op : Operator) (a b : E) : ex C (.ret (.bin op a b)) σ = (ev C (.bin op a b) σ).bind fun x => (fz x).bind fun x => .ok (.ret x.1 x.2.1 x.2.2) := rfl
theorem r_neg (a : E) : ex C (.ret (.neg a)) σ = (ev C (.neg a) σ).bind fun x => (fz x).bind fun x => .ok (.ret x.1 x.2.1 x.2.2) := rfl
theorem r_not (a : E) : ex C (.ret (.not a)) σ = (ev C (.not a) σ).bind fun x => (fz x).bind fun x => .ok (.ret x.1 x.2.1 x.2.2) := rfl
theorem r_cmp (op : CmpOp) (a b : E) : ex C (.ret (.cmp op a b)) σ = (ev C (.cmp op a b) σ).bind fun x => (fz x).bind fun x => .ok (.ret x.1 x.2.1 x.2.2) := rfl
theorem r_cmp2 (o1 o2 : CmpOp) (a b c : E) : ex C (.ret (.cmp2 o1 o2 a b c)) σ = (ev C (.cmp2 o1 o2 a b c) σ).bind fun x => (fz x).bind fun x => .ok (.ret x.1 x.2.1 x.2.2) := rfl
theorem r_and (l : E) : ex C (.ret (.and l)) σ = (ev C (.and l) σ).bind fun x => (fz x).bind fun x => .ok (.ret x.1 x.2.1 x.2.2) := rfl
theorem r_or (l : E) : ex C (.ret (.or l)) σ = (ev C (.or l) σ).bind fun x => (fz x).bind fun x => .ok (.ret x.1 x.2.1 x.2.2) := rfl
theorem r_ife (t a b : E) : ex C (.ret (.ife t a b)) σ = (ev C (.ife t a b) σ).bind fun x => (fz x).bind fun x => .ok (.ret x.1 x.2.1 x.2.2) := rfl
theorem r_tup (l : E) : ex C (.ret (.tup l)) σ = (ev C (.tup l) σ).bind fun x => (fz x).bind fun x => .ok (.ret x.1 x.2.1 x.2.2) := rfl
theorem r_lst (l : E) : ex C (.ret (.lst l)) σ = (ev C (.lst l) σ).bind fun x => (fz x).bind fun x => .ok (.ret x.1 x.2.1 x.2.2) := rfl
theorem r_idx (a b : E) : ex C (.ret (.idx a b)) σ = (ev C (.idx a b) σ).bind fun x => (fz x).bind fun x => .ok (.ret x.1 x.2.1 x.2.2) := rfl
theorem r_slc (a b c : E) : ex C (.ret (.slc a b c)) σ = (ev C (.slc a b c) σ).bind fun x => (fz x).bind fun x => .ok (.ret x.1 x.2.1 x.2.2) := rfl
theorem r_attr (a : E) (f : Nat) : ex C (.ret (.attr a f)) σ = (ev C (.attr a f) σ).bind fun x => (fz x).bind fun x => .ok (.ret x.1 x.2.1 x.2.2) := rfl
theorem r_call (f : Nat) (l : E) : ex C (.ret (.call f l)) σ = (ev C (.call f l) σ).bind fun x => (fz x).bind fun x => .ok (.ret x.1 x.2.1 x.2.2) := rfl
theorem r_make (c : Nat) (l : E) : ex C (.ret (.make c l)) σ = (ev C (.make c l) σ).bind fun x => (fz x).bind fun x => .ok (.ret x.1 x.2.1 x.2.2) := rfl
theorem r_meth (a : E) (m : Nat) (l : E) : ex C (.ret (.meth a m l)) σ = (ev C (.meth a m l) σ).bind fun x => (fz x).bind fun x => .ok (.ret x.1 x.2.1 x.2.2) := rfl
theorem r_bi (b : Bi) (l : E) : ex C (.ret (.bi b l)) σ = (ev C (.bi b l) σ).bind fun x => (fz x).bind fun x => .ok (.ret x.1 x.2.1 x.2.2) := rfl
theorem r_bm (b : Bm) (a l : E) : ex C (.ret (.bm b a l)) σ = (ev C (.bm b a l) σ).bind fun x => (fz x).bind fun x => .ok (.ret x.1 x.2.1 x.2.2) := rfl
theorem r_isi (k : Nat) (a : E) : ex C (.ret (.isi k a)) σ = (ev C (.isi k a) σ).bind fun x => (fz x).bind fun x => .ok (.ret x.1 x.2.1 x.2.2) := rfl
theorem r_pop (i : Nat) (l : E) : ex C (.ret (.pop i l)) σ = (ev C (.pop i l) σ).bind fun x => (fz x).bind fun x => .ok (.ret x.1 x.2.1 x.2.2) := rfl
theorem r_comp (e t i c : E) (vs : List Nat) : ex C (.ret (.comp e t i c vs)) σ = (ev C (.comp e t i c vs) σ).bind fun x => (fz x).bind fun x => .ok (.ret x.1 x.2.1 x.2.2) := rfl
theorem r_lrg (l : E) : ex C (.ret (.lrg l)) σ = (ev C (.lrg l) σ).bind fun x => (fz x).bind fun x => .ok (.ret x.1 x.2.1 x.2.2) := rfl
theorem r_tyi (a : E) : ex C (.ret (.tyi a)) σ = (ev C (.tyi a) σ).bind fun x => (fz x).bind fun x => .ok (.ret x.1 x.2.1 x.2.2) := rfl
theorem r_isc (c : Nat) (a : E) : ex C (.ret (.isc c a)) σ = (ev C (.isc c a) σ).bind fun x => (fz x).bind fun x => .ok (.ret x.1 x.2.1 x.2.2) := rfl
theorem r_fstr (l : E) : ex C (.ret (.fstr l)) σ = (ev C (.fstr l) σ).bind fun x => (fz x).bind fun x => .ok (.ret x.1 x.2.1 x.2.2) := rfl
theorem r_lset (e t i c : E) (vs : List Nat) : ex C (.ret (.lset e t i c vs)) σ = (ev C (.lset e t i c vs) σ).bind fun x => (fz x).bind fun x => .ok (.ret x.1 x.2.1 x.2.2) := rfl
theorem r_oeq (b : Bool) (a c : E) : ex C (.ret (.oeq b a c)) σ = (ev C (.oeq b a c) σ).bind fun x => (fz x).bind fun x => .ok (.ret x.1 x.2.1 x.2.2) := rfl
noncomputable def endF (lk : Opd) : Fl → R Fl
  | .nx σ' => (unlock lk σ').bind fun σ2 => .ok (.nx σ2)
  | f => .ok f
theorem endF_nx (lk : Opd) (σ : Fm) : endF lk (.nx σ) = (unlock lk σ).bind fun σ2 => .ok (.nx σ2) := rfl
theorem endF_ret (lk : Opd) (d : D) (o : Bool) (σ : Fm) : endF lk (.ret d o σ) = .ok (.ret d o σ) := rfl
/-- one turn -/
noncomputable def turn (C : Cb) (t : E) (b : S) : D → Fm → R Fl := fun d σ' => (putT t d σ').bind fun σ1 => ex C b σ1
theorem turn_eq (t : E) (b : S) (d : D) : turn C t b d σ = (putT t d σ).bind fun σ1 => ex C b σ1 := rfl
theorem x_for (t it : E) (b : S) : ex C (.for t it b) σ = (evI C it σ).bind fun x => (forLoop (turn C t b) x.1 x.2.2).bind (endF x.2.1) := by
  show ((evI C it σ).bind fun x => (forLoop (fun d σ' => (putT t d σ').bind fun σ1 => ex C b σ1) x.1 x.2.2).bind fun
    | .nx σ' => (unlock x.2.1 σ').bind fun σ2 => R.ok (Fl.nx σ2)
    | f => .ok f) = _
  congr 1
theorem forLoop_nil (f : D → Fm → R Fl) : forLoop f [] σ = .ok (.nx σ) := rfl
/-- a turn that goes on -/
theorem forLoop_nx {f : D → Fm → R Fl} {d : D} {ds : List D} {σ' : Fm} (h : f d σ = .ok (.nx σ')) : forLoop f (d :: ds) σ = forLoop f ds σ' := by
  show (f d σ).bind _ = _
  rw [h]
  rfl
theorem whileLoop_end {f : Fm → R (Bool × Fm)} {g : Fm → R Fl} {n : Nat} {σ' : Fm} (h : f σ = .ok (false, σ')) : whileLoop f g (n + 1) σ = .ok (.nx σ') := by
  show (f σ).bind _ = _
  rw [h]
  rfl
theorem whileLoop_nx {f : Fm → R (Bool × Fm)} {g : Fm → R Fl} {n : Nat} {σ' σ2 : Fm} (h : f σ = .ok (true, σ')) (h2 : g σ' = .ok (.nx σ2)) : whileLoop f g (n + 1) σ = whileLoop f g n σ2 := by
  show (f σ).bind _ = _
  rw [h]
  show (g σ').bind _ = _
  rw [h2]
  rfl
theorem compLoop_nil (f : D → Fm → R (Option D × Fm)) (acc : List D) : compLoop f [] σ acc = .ok (acc, σ) := rfl
theorem compLoop_some {f : D → Fm → R (Option D × Fm)} {d y : D} {ds acc : List D} {σ' : Fm} (h : f d σ = .ok (some y, σ')) (hl : acc.length < 16777216) : compLoop f (d :: ds) σ acc = compLoop f ds σ' (acc ++ [y]) := by
  show (f d σ).bind _ = _
  rw [h]
  show (R.guard (decide (acc.length < 16777216))).bind _ = _
  rw [decide_eq_true hl]
  rfl
theorem unlock_v (d : D) : unlock (.v d) σ = .ok σ := rfl
noncomputable def unlO (i : Nat) (σ : Fm) : Option Slot → R Fm | some (.lk d) => .ok (σ.set i (.mu d)) | _ => .bad
theorem unlock_r (i : Nat) : unlock (.r i) σ = unlO i σ σ[i]? := by
  show (match σ[i]? with | some (.lk d) => R.ok (σ.set i (.mu d)) | _ => .bad) = _
  cases h : σ[i]? with
  | none => rfl
  | some s => cases s <;> rfl
theorem unlO_lk {i : Nat} {d : D} : unlO i σ (some (.lk d)) = .ok (σ.set i (.mu d)) := rfl
theorem walked_vl (l : List D) : walked (.v (.lst l)) σ = .ok (l, σ) := rfl
theorem walked_vt (l : List D) : walked (.v (.tup l)) σ = .ok (l, σ) := rfl
theorem walked_r {i : Nat} {l : List D} (h : σ[i]? = some (.mu (.lst l))) : walked (.r i) σ = .ok (l, σ.set i (.lk (.lst l))) := by
  show ((rd σ (.r i)).bind _) = _
  rw [rd_r, h]
  show (match σ[i]? with | some (.mu d) => R.ok (l, σ.set i (.lk d)) | _ => .bad) = _
  rw [h]
theorem x_whl (t : E) (b : S) : ex C (.whl t b) σ = whileLoop (fun σ => tst (ev C t σ)) (ex C b) C.lim σ := rfl
theorem x_app (i : Nat) (e : E) : ex C (.app i e) σ = (isL i σ).bind fun _ => (ev C e σ).bind fun x => (fz x).bind fun x => (upS i (appD x.1) x.2.2).bind fun σ' => .ok (.nx σ') := rfl
theorem x_ext (i : Nat) (e : E) : ex C (.ext i e) σ = (isL i σ).bind fun _ => (val (ev C e σ)).bind fun x => (upS i (extD x.1) x.2).bind fun σ' => .ok (.nx σ') := rfl
theorem x_seti (i : Nat) (k e : E) : ex C (.seti i k e) σ = (ev C e σ).bind fun x => (fz x).bind fun x => (isL i x.2.2).bind fun _ => (val (ev C k x.2.2)).bind fun y => (upS i (setD y.1 x.1) y.2).bind fun σ' => .ok (.nx σ') := rfl
theorem x_augi (i : Nat) (k : E) (op : Operator) (e : E) : ex C (.augi i k op e) σ = (isL i σ).bind fun _ => (val (ev C k σ)).bind fun x => (rd x.2 (.r i)).bind fun l => (itemP l x.1).bind fun d => (val (ev C e x.2)).bind fun y => (ipD op d y.1).bind fun z => (upS i (setD x.1 z) y.2).bind fun σ' => .ok (.nx σ') := rfl
theorem x_seta (i f : Nat) (e : E) : ex C (.seta i f e) σ = (ev C e σ).bind fun x => (fz x).bind fun x => (upS i (setA f x.1) x.2.2).bind fun σ' => .ok (.nx σ') := rfl
noncomputable def augS (C : Cb) (i : Nat) (op : Operator) (e : E) (σ : Fm) : Option Slot → R Fl
  | some (.im d) => (val (ev C e σ)).bind fun y => (ipD op d y.1).bind fun z => (putS i z false y.2).bind fun σ' => .ok (.nx σ')
  | _ => .bad
theorem x_aug (i : Nat) (op : Operator) (e : E) : ex C (.aug i op e) σ = augS C i op e σ σ[i]? := by
  show (match σ[i]? with
    | some (.im d) => (val (ev C e σ)).bind fun y => (ipD op d y.1).bind fun z => (putS i z false y.2).bind fun σ' => R.ok (Fl.nx σ')
    | _ => .bad) = _
  cases h : σ[i]? with
  | none => rfl
  | some s => cases s <;> rfl
theorem augS_im {i : Nat} {op : Operator} {e : E} {d : D} : augS C i op e σ (some (.im d)) = (val (ev C e σ)).bind fun y => (ipD op d y.1).bind fun z => (putS i z false y.2).bind fun σ' => .ok (.nx σ') := rfl
/-- a slot takes a value -/
noncomputable def putO (i : Nat) (d : D) (o : Bool) (σ : Fm) : Option Slot → R Fm
  | some (.io _) => .bad | some (.lk _) => .bad | none => .bad
  | some _ => if o && isObj d then .ok (σ.set i (.mu d)) else .ok (σ.set i (.im d))
theorem putS_eq (i : Nat) (d : D) (o : Bool) : putS i d o σ = putO i d o σ σ[i]? := by
  unfold putS
  cases h : σ[i]? with
  | none => rfl
  | some s => cases s <;> rfl
theorem putO_no {i : Nat} {d : D} {o : Bool} : putO i d o σ (some .no) = if o && isObj d then .ok (σ.set i (.mu d)) else .ok (σ.set i (.im d)) := rfl
theorem putO_im {i : Nat} {d e : D} {o : Bool} : putO i d o σ (some (.im e)) = if o && isObj d then .ok (σ.set i (.mu d)) else .ok (σ.set i (.im d)) := rfl
theorem putO_mu {i : Nat} {d e : D} {o : Bool} : putO i d o σ (some (.mu e)) = if o && isObj d then .ok (σ.set i (.mu d)) else .ok (σ.set i (.im d)) := rfl
theorem putSs_nil : putSs [] [] σ = .ok σ := rfl
theorem putSs_cons (i : Nat) (is : List Nat) (x : D × Bool) (xs : List (D × Bool)) : putSs (i :: is) (x :: xs) σ = (putS i x.1 x.2 σ).bind fun σ' => putSs is xs σ' := rfl
noncomputable def putV (i : Nat) (d : D) (σ : Fm) : Option Slot → R Fm
  | some .no => .ok (σ.set i (.im d)) | some (.im _) => .ok (σ.set i (.im d)) | some (.mu _) => .ok (σ.set i (.im d)) | _ => .bad
theorem putT_var (i : Nat) (d : D) : putT (.var i) d σ = putV i d σ σ[i]? := by
  unfold putT
  cases h : σ[i]? with
  | none => rfl
  | some s => cases s <;> rfl
theorem putV_no {i : Nat} {d : D} : putV i d σ (some .no) = .ok (σ.set i (.im d)) := rfl
theorem putV_im {i : Nat} {d e : D} : putV i d σ (some (.im e)) = .ok (σ.set i (.im d)) := rfl
theorem putV_mu {i : Nat} {d e : D} : putV i d σ (some (.mu e)) = .ok (σ.set i (.im d)) := rfl
theorem putT_tup (l : E) (ds : List D) : putT (.tup l) (.tup ds) σ = putTs l ds σ := rfl
theorem putTs_nil : putTs .nil [] σ = .ok σ := rfl
theorem putTs_cons (t l : E) (d : D) (ds : List D) : putTs (.cons t l) (d :: ds) σ = (putT t d σ).bind fun σ' => putTs l ds σ' := rfl
noncomputable def upO (i : Nat) (f : D → R D) (σ : Fm) : Option Slot → R Fm
  | some (.mu d) => (f d).bind fun d' => .ok (σ.set i (.mu d'))
  | some (.io d) => (f d).bind fun d' => .ok (σ.set i (.io d'))
  | _ => .bad
theorem upS_eq (i : Nat) (f : D → R D) : upS i f σ = upO i f σ σ[i]? := by
  unfold upS
  cases h : σ[i]? with
  | none => rfl
  | some s => cases s <;> rfl
theorem upO_mu {i : Nat} {f : D → R D} {d : D} : upO i f σ (some (.mu d)) = (f d).bind fun d' => .ok (σ.set i (.mu d')) := rfl
theorem upO_io {i : Nat} {f : D → R D} {d : D} : upO i f σ (some (.io d)) = (f d).bind fun d' => .ok (σ.set i (.io d')) := rfl
noncomputable def lstO : Option Slot → R Unit | some (.mu (.lst _)) => .ok () | some (.io (.lst _)) => .ok () | _ => .bad
theorem isL_eq (i : Nat) : isL i σ = lstO σ[i]? := by
  unfold isL
  cases h : σ[i]? with
  | none => rfl
  | some s => cases s <;> first | rfl | (rename_i d; cases d <;> rfl)
theorem lstO_mu (l : List D) : lstO (some (.mu (.lst l))) = .ok () := rfl
theorem lstO_io (l : List D) : lstO (some (.io (.lst l))) = .ok () := rfl
theorem ends_ret (as : List Slot) (d : D) (o : Bool) (σ : Fm) : ends as (.ret d o σ) = .ok (d, o, back as σ) := rfl
theorem ends_nx (as : List Slot) (σ : Fm) : ends as (.nx σ) = .ok (.non, false, back as σ) := rfl
theorem back_nil (σ : Fm) : back [] σ = [] := by cases σ <;> rfl
theorem back_im (d : D) (as : List Slot) (s : Slot) (σ : Fm) : back (.im d :: as) (s :: σ) = .im d :: back as σ := rfl
theorem back_io (d d' : D) (as : List Slot) (σ : Fm) : back (.io d :: as) (.io d' :: σ) = .io d' :: back as σ := rfl
theorem set_cons_zero (s t : Slot) (σ : Fm) : (s :: σ).set 0 t = t :: σ := rfl
/-! values -/
theorem binop_add (i j : Int) : binop .Add (.int i) (.int j) = .ok (.int (i + j), false) := rfl
theorem binop_sub (i j : Int) : binop .Sub (.int i) (.int j) = .ok (.int (i - j), false) := rfl
theorem binop_mul {i j : Int} (h : i.natAbs.log2 + j.natAbs.log2 < 1000000) : binop .Mult (.int i) (.int j) = .ok (.int (i * j), false) := by
  show (R.guard (decide (i.natAbs.log2 + j.natAbs.log2 < 1000000))).bind _ = _
  rw [decide_eq_true h]
  rfl
theorem binop_div {i j : Int} (h : 0 < j) (h2 : j.natAbs.log2 < 9000) : binop .FloorDiv (.int i) (.int j) = .ok (.int (i / j), false) := by
  show (R.guard (decide (0 < j) && decide (j.natAbs.log2 < 9000))).bind _ = _
  rw [decide_eq_true h, decide_eq_true h2]
  rfl
theorem binop_mod {i j : Int} (h : 0 < j) : binop .Mod (.int i) (.int j) = .ok (.int (i % j), false) := by
  show (R.guard (decide (0 < j))).bind _ = _
  rw [decide_eq_true h]
  rfl
theorem binop_pow {i j : Int} (h : 0 ≤ j) (h2 : (Builtin.Int.intBits i : Int) * j ≤ 134217728) : binop .Pow (.int i) (.int j) = .ok (.int (i ^ j.toNat), false) := by
  show (R.guard (decide (0 ≤ j ∧ (Builtin.Int.intBits i : Int) * j ≤ 134217728))).bind _ = _
  rw [decide_eq_true ⟨h, h2⟩]
  rfl
theorem deq_int (i j : Int) : deq (.int i) (.int j) = .ok (decide (i = j)) := by
  have h1 : SeqAt.shaped (.int i) = true := rfl
  have h2 : SeqAt.shaped (.int j) = true := rfl
  simp only [deq, toPy, R.of_some, R.bind_ok, h1, h2, Bool.and_self, R.guard_true, PyData.eqv]
  rw [Bool.beq_eq_decide_eq]
theorem cmp_eq (x y : D) : cmpop .Eq x y = deq x y := by cases x <;> rfl
theorem cmp_ne (x y : D) : cmpop .NotEq x y = (deq x y).bind fun b => .ok (!b) := by cases x <;> rfl
theorem cmp_lt (i j : Int) : cmpop .Lt (.int i) (.int j) = .ok (decide (i < j)) := rfl
theorem cmp_le (i j : Int) : cmpop .LtE (.int i) (.int j) = .ok (decide (i ≤ j)) := rfl
theorem cmp_gt (i j : Int) : cmpop .Gt (.int i) (.int j) = .ok (decide (j < i)) := rfl
theorem cmp_ge (i j : Int) : cmpop .GtE (.int i) (.int j) = .ok (decide (j ≤ i)) := rfl
theorem tr_bl (b : Bool) : truth (.bl b) = .ok b := rfl
theorem tr_int (i : Int) : truth (.int i) = .ok (i != 0) := rfl
theorem tr_lst (l : List D) : truth (.lst l) = .ok (!l.isEmpty) := rfl
theorem tr_tup (l : List D) : truth (.tup l) = .ok (!l.isEmpty) := rfl
end
end Mini

set_option Elab.async false
set_option linter.all false
/-! ## a slot takes a value: without if -/
namespace Mini
open PySem
section
variable {σ : Fm}
noncomputable def stO : Bool → Nat → D → Fm → R Fm
  | true, i, d, σ => .ok (σ.set i (.mu d))
  | false, i, d, σ => .ok (σ.set i (.im d))
theorem stO_t {i : Nat} {d : D} : stO true i d σ = .ok (σ.set i (.mu d)) := rfl
theorem stO_f {i : Nat} {d : D} : stO false i d σ = .ok (σ.set i (.im d)) := rfl
theorem stO_no {i : Nat} {d : D} {o : Bool} : putO i d o σ (some .no) = stO (o && isObj d) i d σ := by
  rw [putO_no]; cases (o && isObj d) <;> rfl
theorem stO_im {i : Nat} {d e : D} {o : Bool} : putO i d o σ (some (.im e)) = stO (o && isObj d) i d σ := by
  rw [putO_im]; cases (o && isObj d) <;> rfl
theorem stO_mu {i : Nat} {d e : D} {o : Bool} : putO i d o σ (some (.mu e)) = stO (o && isObj d) i d σ := by
  rw [putO_mu]; cases (o && isObj d) <;> rfl
/-- a slot that was not yet given, or holds a value -/
noncomputable def frs : Option D → Slot | none => .no | some d => .im d
theorem frs_no : Slot.no = frs none := rfl
theorem frs_im (d : D) : frs (some d) = .im d := rfl
theorem putV_fr {i : Nat} {d : D} {o : Option D} : putV i d σ (some (frs o)) = .ok (σ.set i (.im d)) := by cases o <;> rfl
theorem putO_fr {i : Nat} {d : D} {b : Bool} {o : Option D} : putO i d b σ (some (frs o)) = stO (b && isObj d) i d σ := by
  cases o
  · exact stO_no
  · exact stO_im
noncomputable def frO : Option Slot → Bool | some .no => true | some (.im _) => true | _ => false
theorem freeS_nil : freeS σ [] = true := rfl
theorem freeS_cons (i : Nat) (is : List Nat) : freeS σ (i :: is) = (frO σ[i]? && freeS σ is) := by
  unfold freeS
  rw [List.all_cons]
  congr 1
theorem frO_no : frO (some .no) = true := rfl
theorem frO_im (d : D) : frO (some (.im d)) = true := rfl
theorem frO_fr (o : Option D) : frO (some (frs o)) = true := by cases o <;> rfl
theorem wipeS_nil : wipeS σ [] = σ := rfl
theorem wipeS_cons (i : Nat) (is : List Nat) : wipeS σ (i :: is) = wipeS (σ.set i .no) is := rfl
theorem backS_nil (σ₀ : Fm) : backS σ₀ σ [] = σ := rfl
theorem backS_cons (σ₀ : Fm) (i : Nat) (is : List Nat) : backS σ₀ σ (i :: is) = backS σ₀ (σ.set i (σ₀[i]?.getD .no)) is := rfl
theorem walked_0 (l : List D) : walked (.r 0) (.mu (.lst l) :: σ) = .ok (l, .lk (.lst l) :: σ) := walked_r rfl
theorem walked_1 (s0 : Slot) (l : List D) : walked (.r 1) (s0 :: .mu (.lst l) :: σ) = .ok (l, s0 :: .lk (.lst l) :: σ) := walked_r rfl
theorem walked_2 (s0 s1 : Slot) (l : List D) : walked (.r 2) (s0 :: s1 :: .mu (.lst l) :: σ) = .ok (l, s0 :: s1 :: .lk (.lst l) :: σ) := walked_r rfl
theorem walked_3 (s0 s1 s2 : Slot) (l : List D) : walked (.r 3) (s0 :: s1 :: s2 :: .mu (.lst l) :: σ) = .ok (l, s0 :: s1 :: s2 :: .lk (.lst l) :: σ) := walked_r rfl
theorem walked_4 (s0 s1 s2 s3 : Slot) (l : List D) : walked (.r 4) (s0 :: s1 :: s2 :: s3 :: .mu (.lst l) :: σ) = .ok (l, s0 :: s1 :: s2 :: s3 :: .lk (.lst l) :: σ) := walked_r rfl
theorem walked_5 (s0 s1 s2 s3 s4 : Slot) (l : List D) : walked (.r 5) (s0 :: s1 :: s2 :: s3 :: s4 :: .mu (.lst l) :: σ) = .ok (l, s0 :: s1 :: s2 :: s3 :: s4 :: .lk (.lst l) :: σ) := walked_r rfl
theorem walked_6 (s0 s1 s2 s3 s4 s5 : Slot) (l : List D) : walked (.r 6) (s0 :: s1 :: s2 :: s3 :: s4 :: s5 :: .mu (.lst l) :: σ) = .ok (l, s0 :: s1 :: s2 :: s3 :: s4 :: s5 :: .lk (.lst l) :: σ) := walked_r rfl
theorem walked_7 (s0 s1 s2 s3 s4 s5 s6 : Slot) (l : List D) : walked (.r 7) (s0 :: s1 :: s2 :: s3 :: s4 :: s5 :: s6 :: .mu (.lst l) :: σ) = .ok (l, s0 :: s1 :: s2 :: s3 :: s4 :: s5 :: s6 :: .lk (.lst l) :: σ) := walked_r rfl
theorem walked_8 (s0 s1 s2 s3 s4 s5 s6 s7 : Slot) (l : List D) : walked (.r 8) (s0 :: s1 :: s2 :: s3 :: s4 :: s5 :: s6 :: s7 :: .mu (.lst l) :: σ) = .ok (l, s0 :: s1 :: s2 :: s3 :: s4 :: s5 :: s6 :: s7 :: .lk (.lst l) :: σ) := walked_r rfl
theorem walked_9 (s0 s1 s2 s3 s4 s5 s6 s7 s8 : Slot) (l : List D) : walked (.r 9) (s0 :: s1 :: s2 :: s3 :: s4 :: s5 :: s6 :: s7 :: s8 :: .mu (.lst l) :: σ) = .ok (l, s0 :: s1 :: s2 :: s3 :: s4 :: s5 :: s6 :: s7 :: s8 :: .lk (.lst l) :: σ) := walked_r rfl
theorem walked_10 (s0 s1 s2 s3 s4 s5 s6 s7 s8 s9 : Slot) (l : List D) : walked (.r 10) (s0 :: s1 :: s2 :: s3 :: s4 :: s5 :: s6 :: s7 :: s8 :: s9 :: .mu (.lst l) :: σ) = .ok (l, s0 :: s1 :: s2 :: s3 :: s4 :: s5 :: s6 :: s7 :: s8 :: s9 :: .lk (.lst l) :: σ) := walked_r rfl
theorem walked_11 (s0 s1 s2 s3 s4 s5 s6 s7 s8 s9 s10 : Slot) (l : List D) : walked (.r 11) (s0 :: s1 :: s2 :: s3 :: s4 :: s5 :: s6 :: s7 :: s8 :: s9 :: s10 :: .mu (.lst l) :: σ) = .ok (l, s0 :: s1 :: s2 :: s3 :: s4 :: s5 :: s6 :: s7 :: s8 :: s9 :: s10 :: .lk (.lst l) :: σ) := walked_r rfl
theorem walked_12 (s0 s1 s2 s3 s4 s5 s6 s7 s8 s9 s10 s11 : Slot) (l : List D) : walked (.r 12) (s0 :: s1 :: s2 :: s3 :: s4 :: s5 :: s6 :: s7 :: s8 :: s9 :: s10 :: s11 :: .mu (.lst l) :: σ) = .ok (l, s0 :: s1 :: s2 :: s3 :: s4 :: s5 :: s6 :: s7 :: s8 :: s9 :: s10 :: s11 :: .lk (.lst l) :: σ) := walked_r rfl
theorem walked_13 (s0 s1 s2 s3 s4 s5 s6 s7 s8 s9 s10 s11 s12 : Slot) (l : List D) : walked (.r 13) (s0 :: s1 :: s2 :: s3 :: s4 :: s5 :: s6 :: s7 :: s8 :: s9 :: s10 :: s11 :: s12 :: .mu (.lst l) :: σ) = .ok (l, s0 :: s1 :: s2 :: s3 :: s4 :: s5 :: s6 :: s7 :: s8 :: s9 :: s10 :: s11 :: s12 :: .lk (.lst l) :: σ) := walked_r rfl
end
end Mini

set_option Elab.async false
set_option linter.all false
/-! ## steps of dicts, rows backwards, pop -/
namespace Mini
open PySem
section
variable {C : Cb} {σ : Fm}
theorem q_dic (ks vs : E) : ev C (.dic ks vs) σ = (R.of (litKs ks)).bind fun kl => (R.guard (nodK kl && decide (kl.length ≤ 15) && !kl.isEmpty)).bind fun _ => (evW C vs σ).bind fun x => (R.guard (x.1.length == kl.length)).bind fun _ => .ok (.v (.dic kl (x.1.map (·.1))), true, x.2) := rfl
theorem q_dntT : ev C (.dnt true) σ = .ok (.v (.dit [] []), true, σ) := rfl
theorem q_dntF : ev C (.dnt false) σ = .ok (.v (.dic [] []), true, σ) := rfl
theorem q_itl (a : E) : ev C (.itl a) σ = (ev C a σ).bind fun x => (rd x.2.2 x.1).bind fun d => (itemsD d).bind fun l => .ok (.v (.lst l), true, x.2.2) := rfl
theorem q_dcp (a : E) : ev C (.dcp a) σ = (ev C a σ).bind fun x => (rd x.2.2 x.1).bind fun d => (dcopy d).bind fun e => .ok (.v e, true, x.2.2) := rfl
theorem q_srs (a : E) : ev C (.srs a) σ = (ev C a σ).bind fun x => (rd x.2.2 x.1).bind fun d => (srsD d).bind fun e => .ok (.v e, true, x.2.2) := rfl
theorem q_rev (a : E) : ev C (.rev a) σ = (ev C a σ).bind fun x => (rd x.2.2 x.1).bind fun d => asD x.2.2 (revD d) := rfl
theorem q_lsn (a : E) : ev C (.lsn a) σ = (ev C a σ).bind fun x => (rd x.2.2 x.1).bind fun d => (lsnD d).bind fun n => .ok (.v (.int n), false, x.2.2) := rfl
theorem lsnD_lst (l : List D) : lsnD (.lst l) = lenSet l := rfl
theorem r_lsn (a : E) : ex C (.ret (.lsn a)) σ = (ev C (.lsn a) σ).bind fun x => (fz x).bind fun x => .ok (.ret x.1 x.2.1 x.2.2) := rfl
theorem r_dic (ks vs : E) : ex C (.ret (.dic ks vs)) σ = (ev C (.dic ks vs) σ).bind fun x => (fz x).bind fun x => .ok (.ret x.1 x.2.1 x.2.2) := rfl
theorem r_dcp (a : E) : ex C (.ret (.dcp a)) σ = (ev C (.dcp a) σ).bind fun x => (fz x).bind fun x => .ok (.ret x.1 x.2.1 x.2.2) := rfl
theorem r_itl (a : E) : ex C (.ret (.itl a)) σ = (ev C (.itl a) σ).bind fun x => (fz x).bind fun x => .ok (.ret x.1 x.2.1 x.2.2) := rfl
theorem r_srs (a : E) : ex C (.ret (.srs a)) σ = (ev C (.srs a) σ).bind fun x => (fz x).bind fun x => .ok (.ret x.1 x.2.1 x.2.2) := rfl
theorem r_rev (a : E) : ex C (.ret (.rev a)) σ = (ev C (.rev a) σ).bind fun x => (fz x).bind fun x => .ok (.ret x.1 x.2.1 x.2.2) := rfl
theorem litKs_nil : litKs .nil = some [] := rfl
theorem litKs_cons (x : Str) (l : E) : litKs (.cons (.lit (.str x)) l) = (litKs l).map (.inr x :: ·) := rfl
theorem x_setd (i : Nat) (k e : E) : ex C (.setd i k e) σ = (ev C e σ).bind fun x => (fz x).bind fun x => (isDc i x.2.2).bind fun _ => (val (ev C k x.2.2)).bind fun y => (upS i (setK y.1 x.1) y.2).bind fun σ' => .ok (.nx σ') := rfl
noncomputable def dctO : Option Slot → R Unit
  | some (.mu (.dic _ _)) => .ok () | some (.mu (.dit _ _)) => .ok () | some (.io (.dic _ _)) => .ok () | some (.io (.dit _ _)) => .ok () | _ => .bad
theorem isDc_eq (i : Nat) : isDc i σ = dctO σ[i]? := by
  unfold isDc
  cases h : σ[i]? with
  | none => rfl
  | some s => cases s <;> first | rfl | (rename_i d; cases d <;> rfl)
theorem dctO_mu (ks : List L2.Key) (vs : List D) : dctO (some (.mu (.dic ks vs))) = .ok () := rfl
theorem dctO_mt (ks : List (List L2.Key)) (vs : List D) : dctO (some (.mu (.dit ks vs))) = .ok () := rfl
theorem q_popx (i : Nat) (l : E) : ev C (.pop i l) σ = (isL i σ).bind fun _ => (evO C l σ).bind fun x => (rds x.2 x.1).bind fun ds => (popD i ds x.2).bind fun y => .ok (.v y.1, false, y.2) := rfl
noncomputable def popO (i : Nat) (ds : List D) (σ : Fm) : Option Slot → R (D × Fm)
  | some (.mu d) => (popL ds d).bind fun r => .ok (r.1, σ.set i (.mu r.2))
  | some (.io d) => (popL ds d).bind fun r => .ok (r.1, σ.set i (.io r.2))
  | _ => .bad
theorem popD_eq (i : Nat) (ds : List D) : popD i ds σ = popO i ds σ σ[i]? := by
  unfold popD
  cases h : σ[i]? with
  | none => rfl
  | some s => cases s <;> rfl
theorem popO_mu {i : Nat} {ds : List D} {d : D} : popO i ds σ (some (.mu d)) = (popL ds d).bind fun r => .ok (r.1, σ.set i (.mu r.2)) := rfl
end
end Mini

set_option Elab.async false
set_option linter.all false
/-! ## steps of enumerate, zip, spread rows, each second item -/
namespace Mini
open PySem
section
variable {C : Cb} {σ : Fm}
theorem q_enum (a : E) : evI C (.enum a) σ = (ev C a σ).bind fun x => (walked x.1 x.2.2).bind fun y => .ok (enumF 0 y.1, x.1, y.2) := rfl
theorem q_zip (a b : E) : evI C (.zip a b) σ = (ev C a σ).bind fun x => (fz x).bind fun x => (ev C b x.2.2).bind fun y => (fz y).bind fun y => (zipD x.1 y.1).bind fun l => .ok (l, .v .non, y.2.2) := rfl
theorem q_lss (l : E) : ev C (.lss l) σ = (evS C l σ).bind fun x => (R.guard (sizeOk x.1.length)).bind fun _ => .ok (.v (.lst x.1), true, x.2) := rfl
theorem q_stp (a : E) (k : Nat) : ev C (.stp a k) σ = (ev C a σ).bind fun x => (rd x.2.2 x.1).bind fun d => asD x.2.2 (stpD k d) := rfl
theorem q_nilS : evS C .nil σ = .ok ([], σ) := rfl
theorem q_starS (a l : E) : evS C (.cons (.star a) l) σ = (val (ev C a σ)).bind fun x => (seqD x.1).bind fun ds => (evS C l x.2).bind fun y => .ok (ds ++ y.1, y.2) := rfl
noncomputable def isSt : E → Bool | .star _ => true | _ => false
theorem evS_cons {a l : E} (h : isSt a = false) : evS C (.cons a l) σ = (ev C a σ).bind fun x => (fz x).bind fun x => (evS C l x.2.2).bind fun y => .ok (x.1 :: y.1, y.2) := by
  cases a <;> first | rfl | cases h
theorem q_litS (d : D) (l : E) : evS C (.cons (.lit d) l) σ = (ev C (.lit d) σ).bind fun x => (fz x).bind fun x => (evS C l x.2.2).bind fun y => .ok (x.1 :: y.1, y.2) := evS_cons rfl
theorem q_varS (i : Nat) (l : E) : evS C (.cons (.var i) l) σ = (ev C (.var i) σ).bind fun x => (fz x).bind fun x => (evS C l x.2.2).bind fun y => .ok (x.1 :: y.1, y.2) := evS_cons rfl
theorem q_binS (op : Operator) (a b l : E) : evS C (.cons (.bin op a b) l) σ = (ev C (.bin op a b) σ).bind fun x => (fz x).bind fun x => (evS C l x.2.2).bind fun y => .ok (x.1 :: y.1, y.2) := evS_cons rfl
theorem q_negS (a l : E) : evS C (.cons (.neg a) l) σ = (ev C (.neg a) σ).bind fun x => (fz x).bind fun x => (evS C l x.2.2).bind fun y => .ok (x.1 :: y.1, y.2) := evS_cons rfl
theorem seqD_lst (l : List D) : seqD (.lst l) = .ok l := rfl
theorem seqD_tup (l : List D) : seqD (.tup l) = .ok l := rfl
theorem stpD_tup (k : Nat) (l : List D) : stpD k (.tup l) = .ok (.tup (alt (l.drop k)), false) := rfl
theorem zipD_lst (x y : List D) : zipD (.lst x) (.lst y) = .ok ((x.zip y).map fun p => .tup [p.1, p.2]) := rfl
theorem zipD_tup (x y : List D) : zipD (.tup x) (.tup y) = .ok ((x.zip y).map fun p => .tup [p.1, p.2]) := rfl
end
end Mini

set_option Elab.async false
set_option linter.all false
set_option maxRecDepth 100000
set_option maxHeartbeats 4000000
/-! ## the law's call, from the promise of its def where no repr is under way -/
namespace Mini
open PySem L2 PyProof.Rows
section
variable {P : Program} {w : World} {K : PySem.W.Frag} {mg mb : Str → Option Value} {h : Heap} {a : Addr} {vs : List Value} {ns : List Int}
/-- the heap as it is told ahead of the call: nothing, or the script alone -/
structure Told (P : Program) (w : World) (K : PySem.W.Frag) (h : Heap) (a : Addr) (ns : List Int) (H : Hp) : Prop where
  only : Only H
  row : SqL K H a (ns.map V.int)
  ok : HOk P w H h
  at_ : ∀ b, H b ≠ none → b = a
  out : H a ≠ none → K.lookup a = none
theorem told_ex (KX : K.In h) (ha : h.get? a = some { cls := .type "list", data := .seq vs.toArray }) (hi : IntsAre vs ns) (hl : ns.length ≤ sizeLine) : ∃ H, Told P w K h a ns H := by
  have rv := vals_ints hi
  cases hk : K.lookup a with
  | some o =>
    have e := (KX a o hk).symm.trans ha
    cases e
    exact ⟨fun _ => none, fun _ => .inl rfl, .inr ⟨_, vs.toArray, _, hk, rfl, rfl, rfl, by rw [List.size_toArray, hi.length]; exact hl, by simpa using rv⟩, fun _ _ z => (nomatch z), fun _ z => (z rfl).elim, fun z => (z rfl).elim⟩
  | none =>
    have at_ : ∀ {b u}, (if b = a then some (HO.frz { cls := .type "list", data := .seq vs.toArray } (.lst (ns.map V.int))) else none) = some u → b = a ∧ u = HO.frz { cls := .type "list", data := .seq vs.toArray } (.lst (ns.map V.int)) := fun {b u} z => by
      by_cases hb : b = a
      · rw [if_pos hb] at z
        exact ⟨hb, (Option.some.inj z).symm⟩
      · rw [if_neg hb] at z
        cases z
    refine ⟨fun b => if b = a then some (HO.frz { cls := .type "list", data := .seq vs.toArray } (.lst (ns.map V.int))) else none, fun b => ?_, .inl (.inr ⟨{ cls := .type "list", data := .seq vs.toArray }, if_pos rfl⟩), fun b u z => ?_, fun b z => ?_, fun _ => hk⟩
    · by_cases hb : b = a
      · exact .inr ⟨{ cls := .type "list", data := .seq vs.toArray }, ns.map V.int, if_pos hb⟩
      · exact .inl (if_neg hb)
    · obtain ⟨rfl, rfl⟩ := at_ z
      exact ⟨ha, by rw [List.length_map]; exact hl, vs, _, rv, ha⟩
    · by_cases hb : b = a
      · exact hb
      · exact (z (if_neg hb)).elim
theorem Told.env {H : Hp} {s : Shared} (t : Told P w K s.heap a ns H) (KX : K.In s.heap) (hns : s.heap.Ns mainGlobals mg) (hb : s.heap.Ns builtinsNs mb) (hbb : ∀ x : Str, x ≠ "__name__" → mb x = bootBuiltins x) (hlim : s.heap.NoLimit)
    (hg : s.gens = #[]) (ha : s.heap.get? a = some { cls := .type "list", data := .seq vs.toArray }) : K.In (hidT s.heap H) ∧ (hidT s.heap H).Ns mainGlobals mg ∧ Env0 P w K mg (hidT s.heap H) callerA [] s H := by
  have off : ∀ {b : Addr} {o : Obj} {es : Array DictEntry} {n : Nat}, s.heap.get? b = some o → o.data = .dict es n → H b = none := fun {b o es n} e d => by
    by_cases z : H b = none
    · exact z
    · have hb := t.at_ b z
      rw [hb, ha] at e
      cases e
      cases d
  have nsK : ∀ {b : Addr} {m : Str → Option Value}, s.heap.Ns b m → (hidT s.heap H).Ns b m := fun {b m} ⟨o, es, n, e, d, r⟩ => ⟨o, es, n, hidT_get e (off e d), d, r⟩
  have kb : K.In (hidT s.heap H) := fun b o e => by
    refine hidT_get (KX b o e) ?_
    by_cases z : H b = none
    · exact z
    · have hb := t.at_ b z
      subst hb
      rw [t.out z] at e
      cases e
  obtain ⟨mc, l1, l2⟩ := hlim
  exact ⟨kb, nsK hns, rfl, ⟨kb, nsK hns, ⟨mb, nsK hb, hbb⟩, mc, nsK l1, l2⟩, fun b o e => of_hidT e, Nat.le_of_eq (hidT_size _ _), trivial, fun b z => (nomatch z), t.ok, .of_eq hg⟩
theorem Told.old {H H' : Hp} {h' : Heap} (t : Told P w K h a ns H) (un : Un (L2.frs []) [] H H' h h') (ok' : HOk P w H' h') : PySem.OldK h h' := PySem.OldK.of_keep fun b o e => by
  cases q : H b with
  | none => exact un.keep b o e q (fun z => nomatch z) (fun z => nomatch z)
  | some u =>
    rcases t.only b with z | ⟨ob, xs, z⟩
    · rw [q] at z
      cases z
    · have e1 := (t.ok b _ z).1
      have e2 := (ok' b _ (un.frzs b ob _ z)).1
      exact e2.trans (e1.symm.trans e)
theorem walkG {l : PySem.W.OpenLaw} {n k : Nat} {q : Program} {loose : List Str} {XP : (Str → Option Value) → Heap → Prop} {YP : World → Heap → Prop} {d : DefRec} {K : Params → PySem.W.Frag} {sp : World → Sp} {x : Str}
    (hn : l.most = some n) (hn2 : n ≤ sizeLine) (hdf : d.params.defaults = []) (hr : Room k callerA) (hY : ∀ (w : World) (h : Heap), YP w h → (K w.params).In h)
    (F : ∀ (w : World) (mg : Str → Option Value) (fa : Addr) (h : Heap), (K w.params).In h → h.Ns mainGlobals mg → mg d.name = some (.ref fa) →
      ∃ fd : FuncData, (∀ (s : Shared) (u : Value), BindsTo s fd ⟨[u], []⟩ [(x, u)]) ∧ ∀ base : Heap, (K w.params).In base → base.Ns mainGlobals mg → FnG l.prog w (K w.params) mg base CX0 k fa fd [x] (sp w))
    (hsp : ∀ (w : World) (H : Hp) (a : Addr) (ns : List Int), ns.length ≤ n → (∀ z ∈ ns, Builtin.Int.intBits z ≤ 1048576) → Only H → SqL (K w.params) H a (ns.map V.int) → sp w [.ref a] H (fun v _ => v = .bl true) E0) :
    PySem.W.WalkO q loose XP YP l.row.toRowW d [] (fun f vs => PySem.call f vs) := by
  refine Att.attach_callB hn hdf fun w s₀ s mg mb fa o pm cd doc a vs ns G Y ho hd hcd hmg hobj hints hlen hbits hg => ?_
  have KX := hY w _ Y
  obtain ⟨fd, hb, hF⟩ := F w mg fa _ KX G.T.g hmg
  obtain ⟨H, t⟩ := told_ex (P := l.prog) (w := w) KX hobj hints (Nat.le_trans hlen hn2)
  obtain ⟨kb, nb, e0⟩ := t.env KX G.T.g G.T.b G.T.builtins G.T.nolimit hg hobj
  refine codeAny_mono ((hF _ kb nb).run (args := ⟨[.ref a], []⟩) (us := [.ref a]) (vs := [.ref a]) (E := E0) rfl hr e0 (hb s (.ref a)) (.cons rfl .nil) (hsp w H a ns hlen hbits t.only t.row)) fun r s' hz => ?_
  cases r with
  | error e => exact (show False from hz).elim
  | ok fl =>
    cases fl with
    | next => exact (show False from hz).elim
    | brk => exact (show False from hz).elim
    | cont => exact (show False from hz).elim
    | ret u =>
      obtain ⟨v, H', os, bare, un, ok', rv, hv⟩ := hz
      have hv : v = .bl true := hv
      subst hv
      obtain rfl : u = Value.bool true := rv
      exact ⟨rfl, t.old un ok', os, bare⟩
end
end Mini

set_option maxRecDepth 100000
set_option linter.all false
/-! ## the syntax of the defs that the laws share -/
namespace Mini
open PySem
noncomputable def Fx__law_pot : Fn := ⟨2, 5, false, (.seq (.asg (.var 2) (.ife (.cmp .Lt (.var 1) (.bi .len (.cons (.var 0) .nil))) (.idx (.var 0) (.var 1)) (.bin .Add (.bin .Mult (.lit (.int 293)) (.var 1)) (.lit (.int 139))))) (.seq (.asg (.var 3) (.bin .Mult (.bin .Mod (.bi .int (.cons (.bi .abs (.cons (.var 2) .nil)) .nil)) (.bin .Pow (.bin .Pow (.lit (.int 10)) (.lit (.int 60))) (.lit (.int 5)))) (.bi .int (.cons (.cmp .GtE (.bi .abs (.cons (.var 2) .nil)) (.bin .Pow (.lit (.int 10)) (.lit (.int 18)))) .nil)))) (.seq (.asg (.var 4) (.bin .Mod (.bi .int (.cons (.var 2) .nil)) (.lit (.int 2305843009213693951)))) (.seq (.ret (.lst (.cons (.var 3) (.cons (.bin .Mod (.bi .int (.cons (.bin .Add (.bin .Add (.bin .Mult (.var 4) (.lit (.int 74561))) (.bin .Mult (.bin .Mult (.lit (.int 7841)) (.var 1)) (.var 1))) (.lit (.int 211))) .nil)) (.lit (.int 2305843009213693921))) (.cons (.lit (.int 0)) .nil))))) .done))))⟩
noncomputable abbrev n__law_pot : Nat := 500
noncomputable def Fx__law_take : Fn := ⟨2, 5, true, (.seq (.ife (.cmp .Gt (.idx (.var 0) (.lit (.int 0))) (.lit (.int 0))) (.seq (.asg (.var 4) (.bin .Mod (.bi .int (.cons (.idx (.var 0) (.lit (.int 0))) .nil)) (.var 1))) (.seq (.seti 0 (.lit (.int 0)) (.bin .FloorDiv (.idx (.var 0) (.lit (.int 0))) (.var 1))) (.seq (.ret (.var 4)) .done))) .done) (.seq (.seti 0 (.lit (.int 2)) (.bin .Add (.idx (.var 0) (.lit (.int 2))) (.lit (.int 1)))) (.seq (.asg (.var 2) (.idx (.lst (.cons (.lit (.int 2147483647)) (.cons (.lit (.int 2147483629)) (.cons (.lit (.int 2147483587)) (.cons (.lit (.int 2147483579)) (.cons (.lit (.int 2147483563)) .nil)))))) (.bin .Mod (.bi .int (.cons (.idx (.var 0) (.lit (.int 2))) .nil)) (.lit (.int 5))))) (.seq (.asg (.var 3) (.bin .Mod (.bi .int (.cons (.bin .Pow (.bi .int (.cons (.bin .Add (.bin .Add (.idx (.var 0) (.lit (.int 1))) (.bin .Mult (.bin .Mult (.lit (.int 98897)) (.idx (.var 0) (.lit (.int 2)))) (.idx (.var 0) (.lit (.int 2))))) (.lit (.int 101))) .nil)) (.lit (.int 3))) .nil)) (.var 2))) (.seq (.asg (.var 3) (.bin .Mod (.bi .int (.cons (.bin .Mult (.var 3) (.bin .Add (.bin .Mod (.bi .int (.cons (.var 3) .nil)) (.lit (.int 10531))) (.bin .Mult (.lit (.int 197)) (.idx (.var 0) (.lit (.int 2)))))) .nil)) (.lit (.int 2305843009213693907)))) (.seq (.ret (.bin .Mod (.bi .int (.cons (.bin .FloorDiv (.var 3) (.lit (.int 179))) .nil)) (.var 1))) .done))))))⟩
noncomputable abbrev n__law_take : Nat := 501
noncomputable def Fx__law_of : Fn := ⟨2, 2, true, (.seq (.ret (.idx (.var 1) (.call 501 (.cons (.var 0) (.cons (.bi .len (.cons (.var 1) .nil)) .nil))))) .done)⟩
noncomputable abbrev n__law_of : Nat := 502
noncomputable def Fx__law_cells : Fn := ⟨2, 2, false, (.seq (.ret (.lrg (.cons (.bi .max (.cons (.lit (.int 1)) (.cons (.bi .min (.cons (.var 1) (.cons (.bi .len (.cons (.var 0) .nil)) .nil))) .nil))) .nil))) .done)⟩
noncomputable abbrev n__law_cells : Nat := 503
noncomputable def Fx_is_whole : Fn := ⟨2, 2, false, (.seq (.ret (.and (.cons (.tyi (.var 0)) (.cons (.cmp .GtE (.var 0) (.var 1)) .nil)))) .done)⟩
noncomputable abbrev n_is_whole : Nat := 2
noncomputable def Fx_is_pair : Fn := ⟨1, 1, false, (.seq (.ret (.and (.cons (.isi 3 (.var 0)) (.cons (.cmp .Eq (.bi .len (.cons (.var 0) .nil)) (.lit (.int 2))) .nil)))) .done)⟩
noncomputable abbrev n_is_pair : Nat := 3
noncomputable def Fx_is_number : Fn := ⟨1, 3, false, (.seq (.ife (.not (.call 3 (.cons (.var 0) .nil))) (.seq (.ret (.lit (.bl false))) .done) .done) (.seq (.asg (.tup (.cons (.var 1) (.cons (.var 2) .nil))) (.var 0)) (.seq (.ret (.and (.cons (.tyi (.var 1)) (.cons (.tyi (.var 2)) (.cons (.cmp .GtE (.var 1) (.lit (.int 0))) (.cons (.cmp .Gt (.var 2) (.lit (.int 0))) (.cons (.cmp .Eq (.bi .gcd (.cons (.var 1) (.cons (.var 2) .nil))) (.lit (.int 1))) .nil))))))) .done)))⟩
noncomputable abbrev n_is_number : Nat := 4
noncomputable def Fx_is_size : Fn := ⟨1, 1, false, (.seq (.ret (.and (.cons (.call 4 (.cons (.var 0) .nil)) (.cons (.cmp .Gt (.idx (.var 0) (.lit (.int 0))) (.lit (.int 0))) .nil)))) .done)⟩
noncomputable abbrev n_is_size : Nat := 5
noncomputable def Fx_is_size_up_to : Fn := ⟨2, 2, false, (.seq (.ret (.and (.cons (.call 5 (.cons (.var 0) .nil)) (.cons (.cmp .LtE (.idx (.var 0) (.lit (.int 0))) (.bin .Mult (.var 1) (.idx (.var 0) (.lit (.int 1))))) .nil)))) .done)⟩
noncomputable abbrev n_is_size_up_to : Nat := 6
noncomputable def Fx_is_lot : Fn := ⟨1, 4, false, (.seq (.ife (.not (.isi 3 (.var 0))) (.seq (.ret (.lit (.bl false))) .done) .done) (.seq (.for (.var 1) (.itm (.var 0)) (.seq (.ife (.or (.cons (.not (.call 3 (.cons (.var 1) .nil))) (.cons (.not (.call 5 (.cons (.idx (.var 1) (.lit (.int 0))) .nil))) (.cons (.not (.call 2 (.cons (.idx (.var 1) (.lit (.int 1))) (.cons (.lit (.int 1)) .nil)))) .nil)))) (.seq (.ret (.lit (.bl false))) .done) .done) .done)) (.seq (.ret (.cmp .Eq (.lset (.var 2) (.tup (.cons (.var 2) (.cons (.var 3) .nil))) (.itm (.var 0)) .nil [2, 3]) (.bi .len (.cons (.var 0) .nil)))) .done)))⟩
noncomputable abbrev n_is_lot : Nat := 7
noncomputable def Fx_is_lot_up_to : Fn := ⟨2, 5, false, (.seq (.ret (.and (.cons (.call 7 (.cons (.var 0) .nil)) (.cons (.bi .all (.cons (.comp (.cmp .LtE (.var 3) (.bin .Mult (.var 1) (.var 4))) (.tup (.cons (.tup (.cons (.var 3) (.cons (.var 4) .nil))) (.cons (.var 2) .nil))) (.itm (.var 0)) .nil [2, 3, 4]) .nil)) .nil)))) .done)⟩
noncomputable abbrev n_is_lot_up_to : Nat := 8
noncomputable def Fx_whole_of : Fn := ⟨3, 4, false, (.seq (.ife (.or (.cons (.cmp .Gt (.bi .len (.cons (.var 0) .nil)) (.lit (.int 9))) (.cons (.not (.and (.cons (.bm .isascii (.var 0) .nil) (.cons (.bm .isdigit (.var 0) .nil) .nil)))) .nil))) (.seq (.ret (.lit .non)) .done) .done) (.seq (.asg (.var 3) (.bi .int (.cons (.var 0) .nil))) (.seq (.ife (.or (.cons (.cmp .NotEq (.bi .str (.cons (.var 3) .nil)) (.var 0)) (.cons (.not (.cmp2 .LtE .LtE (.var 1) (.var 3) (.var 2))) .nil))) (.seq (.ret (.lit .non)) .done) .done) (.seq (.ret (.var 3)) .done))))⟩
noncomputable abbrev n_whole_of : Nat := 9
noncomputable def Fx_whole_behind : Fn := ⟨3, 4, false, (.seq (.asg (.var 3) (.bm .split (.var 1) (.cons (.lit (.str (Str.ofString " "))) .nil))) (.seq (.ife (.or (.cons (.cmp .NotEq (.bi .len (.cons (.var 3) .nil)) (.lit (.int 2))) (.cons (.cmp .NotEq (.idx (.var 3) (.lit (.int 0))) (.var 0)) .nil))) (.seq (.ret (.lit .non)) .done) .done) (.seq (.ret (.call 9 (.cons (.idx (.var 3) (.lit (.int 1))) (.cons (.lit (.int 1)) (.cons (.var 2) .nil))))) .done)))⟩
noncomputable abbrev n_whole_behind : Nat := 677
noncomputable def Fx_head_of : Fn := ⟨4, 5, false, (.seq (.asg (.var 4) (.ife (.cmp .Lt (.var 1) (.bi .len (.cons (.var 0) .nil))) (.call 677 (.cons (.var 2) (.cons (.idx (.var 0) (.var 1)) (.cons (.var 3) .nil)))) (.lit .non))) (.seq (.ife (.cmp .Is (.var 4) (.lit .non)) (.seq .nope .done) .done) (.seq (.ret (.var 4)) .done)))⟩
noncomputable abbrev n_head_of : Nat := 10
noncomputable def Fx_step_of : Fn := ⟨2, 6, false, (.seq (.asg (.var 2) (.bm .split (.var 0) (.cons (.lit (.str (Str.ofString " "))) .nil))) (.seq (.ife (.or (.cons (.cmp .NotEq (.bi .len (.cons (.var 2) .nil)) (.lit (.int 3))) (.cons (.cmp .NotIn (.idx (.var 2) (.lit (.int 0))) (.tup (.cons (.lit (.str (Str.ofString "from"))) (.cons (.lit (.str (Str.ofString "beyond"))) .nil)))) .nil))) (.seq (.ret (.lit .non)) .done) .done) (.seq (.asg (.var 3) (.ife (.cmp .Eq (.idx (.var 2) (.lit (.int 0))) (.lit (.str (Str.ofString "from")))) (.lit (.int 1)) (.lit (.int 0)))) (.seq (.asg (.var 4) (.call 9 (.cons (.idx (.var 2) (.lit (.int 1))) (.cons (.var 3) (.cons (.bin .Sub (.bin .Add (.var 3) (.var 1)) (.lit (.int 1))) .nil))))) (.seq (.asg (.var 5) (.call 9 (.cons (.idx (.var 2) (.lit (.int 2))) (.cons (.lit (.int 0)) (.cons (.lit (.int 999999999)) .nil))))) (.seq (.ife (.or (.cons (.cmp .Is (.var 4) (.lit .non)) (.cons (.cmp .Is (.var 5) (.lit .non)) .nil))) (.seq (.ret (.lit .non)) .done) .done) (.seq (.ret (.tup (.cons (.idx (.var 2) (.lit (.int 0))) (.cons (.var 4) (.cons (.var 5) .nil))))) .done)))))))⟩
noncomputable abbrev n_step_of : Nat := 11
noncomputable def Fx_steps_of : Fn := ⟨2, 6, false, (.seq (.asg (.var 2) (.lst .nil)) (.seq (.asg (.var 3) (.lit (.int 0))) (.seq (.for (.var 4) (.range (.cons (.lit (.int 2)) (.cons (.bi .len (.cons (.var 0) .nil)) .nil))) (.seq (.asg (.var 5) (.call 11 (.cons (.idx (.var 0) (.var 4)) (.cons (.var 1) .nil)))) (.seq (.ife (.or (.cons (.cmp .Is (.var 5) (.lit .non)) (.cons (.cmp .LtE (.call 13 (.cons (.var 5) .nil)) (.var 3)) .nil))) (.seq .nope .done) .done) (.seq (.asg (.var 3) (.call 13 (.cons (.var 5) .nil))) (.seq (.app 2 (.var 5)) .done))))) (.seq (.ret (.bi .tuple (.cons (.var 2) .nil))) .done))))⟩
noncomputable abbrev n_steps_of : Nat := 12
noncomputable def Fx_place_of : Fn := ⟨1, 1, false, (.seq (.ret (.bin .Add (.bin .Mult (.lit (.int 2)) (.idx (.var 0) (.lit (.int 1)))) (.ife (.cmp .Eq (.idx (.var 0) (.lit (.int 0))) (.lit (.str (Str.ofString "beyond")))) (.lit (.int 1)) (.lit (.int 0))))) .done)⟩
noncomputable abbrev n_place_of : Nat := 13
noncomputable def Fx_space_of : Fn := ⟨1, 1, false, (.seq (.ret (.bin .Add (.bin .Mult (.lit (.int 2)) (.bin .FloorDiv (.idx (.var 0) (.lit (.int 0))) (.idx (.var 0) (.lit (.int 1))))) (.ife (.cmp .Gt (.idx (.var 0) (.lit (.int 1))) (.lit (.int 1))) (.lit (.int 1)) (.lit (.int 0))))) .done)⟩
noncomputable abbrev n_space_of : Nat := 14
noncomputable def Fx_worths_of : Fn := ⟨2, 5, false, (.seq (.asg (.var 2) (.lst .nil)) (.seq (.asg (.var 3) (.lit (.int 0))) (.seq (.for (.var 4) (.itm (.var 0)) (.seq (.ext 2 (.bin .Mult (.lst (.cons (.var 3) .nil)) (.bin .Sub (.call 13 (.cons (.var 4) .nil)) (.bi .len (.cons (.var 2) .nil))))) (.seq (.asg (.var 3) (.idx (.var 4) (.lit (.int 2)))) .done))) (.seq (.ext 2 (.bin .Mult (.lst (.cons (.var 3) .nil)) (.bin .Sub (.bin .Add (.bin .Mult (.lit (.int 2)) (.var 1)) (.lit (.int 1))) (.bi .len (.cons (.var 2) .nil))))) (.seq (.ret (.bi .tuple (.cons (.var 2) .nil))) .done)))))⟩
noncomputable abbrev n_worths_of : Nat := 15
noncomputable def Fx__law_some : Fn := ⟨3, 6, true, (.seq (.par [4, 5] (.cons (.bi .list (.cons (.var 1) .nil)) (.cons (.lst .nil) .nil))) (.seq (.for (.var 3) (.range (.cons (.var 2) .nil)) (.seq (.app 5 (.pop 4 (.cons (.call 501 (.cons (.var 0) (.cons (.bi .len (.cons (.var 4) .nil)) .nil))) .nil))) .done)) (.seq (.ret (.var 5)) .done)))⟩
noncomputable abbrev n__law_some : Nat := 510
noncomputable def Fx__law_text : Fn := ⟨1, 5, false, (.seq (.asg (.var 1) (.lst (.cons (.bin .Add (.lit (.str (Str.ofString "box "))) (.bi .str (.cons (.idx (.var 0) (.lit (.str (Str.ofString "box")))) .nil))) (.cons (.bin .Add (.lit (.str (Str.ofString "bound "))) (.bi .str (.cons (.idx (.var 0) (.lit (.str (Str.ofString "bound")))) .nil))) .nil)))) (.seq (.ret (.bm .join (.lit (.str (Str.ofString "\n"))) (.cons (.bin .Add (.var 1) (.comp (.bin .Add (.bin .Add (.bin .Add (.bin .Add (.var 2) (.lit (.str (Str.ofString " ")))) (.bi .str (.cons (.var 3) .nil))) (.lit (.str (Str.ofString " ")))) (.bi .str (.cons (.var 4) .nil))) (.tup (.cons (.var 2) (.cons (.var 3) (.cons (.var 4) .nil)))) (.itm (.idx (.var 0) (.lit (.str (Str.ofString "steps"))))) .nil [2, 3, 4])) .nil))) .done))⟩
noncomputable abbrev n__law_text : Nat := 511
noncomputable def Fx__law_rule : Fn := ⟨1, 1, false, (.seq (.ret (.make 28 (.cons (.call 511 (.cons (.var 0) .nil)) .nil))) .done)⟩
noncomputable abbrev n__law_rule : Nat := 512
noncomputable def Fx__law_lore : Fn := ⟨3, 10, true, (.seq (.par [5, 6] (.cons (.bin .Add (.lit (.int 1)) (.call 501 (.cons (.var 0) (.cons (.var 1) .nil)))) (.cons (.call 501 (.cons (.var 0) (.cons (.lit (.int 4)) .nil))) .nil))) (.seq (.asg (.var 3) (.lrg (.cons (.bin .Sub (.lit (.int 2)) (.bi .int (.cons (.cmp .Eq (.call 501 (.cons (.var 0) (.cons (.lit (.int 9)) .nil))) (.lit (.int 0))) .nil))) (.cons (.bin .Add (.bin .Mult (.lit (.int 2)) (.var 5)) (.lit (.int 1))) .nil)))) (.seq (.asg (.var 3) (.srs (.call 510 (.cons (.var 0) (.cons (.var 3) (.cons (.bi .min (.cons (.bi .len (.cons (.var 3) .nil)) (.cons (.call 501 (.cons (.var 0) (.cons (.bin .Add (.var 2) (.lit (.int 1))) .nil))) .nil))) .nil)))))) (.seq (.par [7, 8, 9] (.cons (.lit (.int 0)) (.cons (.lst .nil) (.cons (.call 502 (.cons (.var 0) (.cons (.lst (.cons (.lit (.int 1)) (.cons (.lit (.int 2)) (.cons (.lit (.int 3)) (.cons (.lit (.int 9)) (.cons (.lit (.int 60)) .nil)))))) .nil))) .nil)))) (.seq (.for (.var 4) (.itm (.var 3)) (.seq (.asg (.var 7) (.ife (.cmp .Lt (.var 6) (.lit (.int 3))) (.bin .Add (.var 7) (.call 501 (.cons (.var 0) (.cons (.bin .Add (.var 9) (.lit (.int 1))) .nil)))) (.call 501 (.cons (.var 0) (.cons (.bin .Add (.bin .Mult (.lit (.int 2)) (.var 9)) (.lit (.int 1))) .nil))))) (.seq (.app 8 (.tup (.cons (.idx (.lst (.cons (.lit (.str (Str.ofString "from"))) (.cons (.lit (.str (Str.ofString "beyond"))) .nil))) (.bin .Mod (.var 4) (.lit (.int 2)))) (.cons (.bin .FloorDiv (.var 4) (.lit (.int 2))) (.cons (.var 7) .nil))))) .done))) (.seq (.ret (.dic (.cons (.lit (.str (Str.ofString "box"))) (.cons (.lit (.str (Str.ofString "bound"))) (.cons (.lit (.str (Str.ofString "steps"))) .nil))) (.cons (.var 5) (.cons (.bin .Add (.lit (.int 1)) (.call 501 (.cons (.var 0) (.cons (.bi .max (.cons (.lit (.int 1)) (.cons (.bin .Mult (.lit (.int 2)) (.var 7)) .nil))) .nil)))) (.cons (.var 8) .nil))))) .done))))))⟩
noncomputable abbrev n__law_lore : Nat := 513
noncomputable def Fx__law_lore_v2 : Fn := ⟨3, 10, true, (.seq (.par [5, 6] (.cons (.bin .Add (.lit (.int 1)) (.call 501 (.cons (.var 0) (.cons (.var 1) .nil)))) (.cons (.call 501 (.cons (.var 0) (.cons (.lit (.int 4)) .nil))) .nil))) (.seq (.asg (.var 3) (.lrg (.cons (.bin .Sub (.lit (.int 2)) (.bi .int (.cons (.cmp .Eq (.call 501 (.cons (.var 0) (.cons (.lit (.int 4)) .nil))) (.lit (.int 0))) .nil))) (.cons (.bin .Add (.bin .Mult (.lit (.int 2)) (.var 5)) (.lit (.int 1))) .nil)))) (.seq (.asg (.var 3) (.srs (.call 510 (.cons (.var 0) (.cons (.var 3) (.cons (.bi .min (.cons (.bi .len (.cons (.var 3) .nil)) (.cons (.call 501 (.cons (.var 0) (.cons (.bin .Add (.var 2) (.lit (.int 1))) .nil))) .nil))) .nil)))))) (.seq (.par [7, 8, 9] (.cons (.lit (.int 0)) (.cons (.lst .nil) (.cons (.call 502 (.cons (.var 0) (.cons (.lst (.cons (.lit (.int 1)) (.cons (.lit (.int 2)) (.cons (.lit (.int 3)) (.cons (.lit (.int 9)) (.cons (.lit (.int 60)) .nil)))))) .nil))) .nil)))) (.seq (.for (.var 4) (.itm (.var 3)) (.seq (.asg (.var 7) (.ife (.cmp .Lt (.var 6) (.lit (.int 3))) (.bin .Add (.var 7) (.call 501 (.cons (.var 0) (.cons (.bin .Add (.var 9) (.lit (.int 1))) .nil)))) (.call 501 (.cons (.var 0) (.cons (.bin .Add (.bin .Mult (.lit (.int 2)) (.var 9)) (.lit (.int 1))) .nil))))) (.seq (.app 8 (.tup (.cons (.idx (.lst (.cons (.lit (.str (Str.ofString "from"))) (.cons (.lit (.str (Str.ofString "beyond"))) .nil))) (.bin .Mod (.var 4) (.lit (.int 2)))) (.cons (.bin .FloorDiv (.var 4) (.lit (.int 2))) (.cons (.var 7) .nil))))) .done))) (.seq (.ret (.dic (.cons (.lit (.str (Str.ofString "box"))) (.cons (.lit (.str (Str.ofString "bound"))) (.cons (.lit (.str (Str.ofString "steps"))) .nil))) (.cons (.var 5) (.cons (.bin .Add (.lit (.int 1)) (.call 501 (.cons (.var 0) (.cons (.bi .max (.cons (.lit (.int 1)) (.cons (.bin .Mult (.lit (.int 2)) (.var 7)) .nil))) .nil)))) (.cons (.var 8) .nil))))) .done))))))⟩
noncomputable abbrev n__law_lore_v2 : Nat := 513
noncomputable def Fx__law_rounding : Fn := ⟨1, 3, false, (.seq (.asg (.var 1) (.lst .nil)) (.seq (.for (.var 2) (.range (.cons (.lit (.int 1)) (.cons (.bin .Add (.var 0) (.lit (.int 1))) .nil))) (.seq (.ext 1 (.lst (.cons (.tup (.cons (.lit (.str (Str.ofString "from"))) (.cons (.var 2) (.cons (.bin .Mult (.var 2) (.var 0)) .nil)))) (.cons (.tup (.cons (.lit (.str (Str.ofString "beyond"))) (.cons (.var 2) (.cons (.bin .Mult (.var 2) (.bin .Add (.var 0) (.lit (.int 1)))) .nil)))) .nil)))) .done)) (.seq (.ret (.dic (.cons (.lit (.str (Str.ofString "box"))) (.cons (.lit (.str (Str.ofString "bound"))) (.cons (.lit (.str (Str.ofString "steps"))) .nil))) (.cons (.bin .Add (.var 0) (.lit (.int 1))) (.cons (.bin .Mult (.var 0) (.bin .Add (.var 0) (.lit (.int 1)))) (.cons (.var 1) .nil))))) .done)))⟩
noncomputable abbrev n__law_rounding : Nat := 514
noncomputable def Fx_Rule___init__ : Fn := ⟨2, 3, false, (.seq (.ife (.not (.isi 2 (.var 1))) (.seq .nope .done) .done) (.seq (.asg (.var 2) (.bm .split (.var 1) (.cons (.lit (.str (Str.ofString "\n"))) .nil))) (.seq (.seta 0 1 (.var 1)) (.seq (.seta 0 2 (.call 10 (.cons (.var 2) (.cons (.lit (.int 0)) (.cons (.lit (.str (Str.ofString "box"))) (.cons (.lit (.int 60)) .nil)))))) (.seq (.seta 0 3 (.call 10 (.cons (.var 2) (.cons (.lit (.int 1)) (.cons (.lit (.str (Str.ofString "bound"))) (.cons (.lit (.int 999999999)) .nil)))))) (.seq (.seta 0 4 (.call 12 (.cons (.var 2) (.cons (.attr (.var 0) 2) .nil)))) (.seq (.seta 0 5 (.call 15 (.cons (.attr (.var 0) 4) (.cons (.attr (.var 0) 2) .nil)))) .done)))))))⟩
noncomputable abbrev n_Rule___init__ : Nat := 17
noncomputable def Fx_Rule___eq__ : Fn := ⟨2, 2, false, (.seq (.ret (.and (.cons (.isc 28 (.var 1)) (.cons (.cmp .Eq (.attr (.var 0) 1) (.attr (.var 1) 1)) .nil)))) .done)⟩
noncomputable abbrev n_Rule___eq__ : Nat := 18
noncomputable def Fx_Rule_worth : Fn := ⟨2, 2, false, (.seq (.ife (.not (.call 6 (.cons (.var 1) (.cons (.attr (.var 0) 2) .nil)))) (.seq .nope .done) .done) (.seq (.ret (.idx (.attr (.var 0) 5) (.call 14 (.cons (.var 1) .nil)))) .done))⟩
noncomputable abbrev n_Rule_worth : Nat := 21
noncomputable def Fx_Rule_reckoned : Fn := ⟨2, 4, false, (.seq (.ife (.not (.call 8 (.cons (.var 1) (.cons (.attr (.var 0) 2) .nil)))) (.seq .nope .done) .done) (.seq (.ret (.bi .sum (.cons (.comp (.bin .Mult (.var 3) (.idx (.attr (.var 0) 5) (.call 14 (.cons (.var 2) .nil)))) (.tup (.cons (.var 2) (.cons (.var 3) .nil))) (.itm (.var 1)) .nil [2, 3]) .nil))) .done))⟩
noncomputable abbrev n_Rule_reckoned : Nat := 22
noncomputable def Fx_Rule_boxes : Fn := ⟨2, 2, false, (.seq (.ret (.neg (.bin .FloorDiv (.neg (.meth (.var 0) 506 (.cons (.var 1) .nil))) (.attr (.var 0) 3)))) .done)⟩
noncomputable abbrev n_Rule_boxes : Nat := 23
noncomputable def Fx_Rule_times : Fn := ⟨2, 7, false, (.seq (.ife (.not (.call 29 (.cons (.var 1) (.cons (.lit (.int 1)) (.cons (.lit (.int 99)) .nil))))) (.seq .nope .done) .done) (.seq (.asg (.var 2) (.comp (.tup (.cons (.var 3) (.cons (.var 4) (.cons (.bin .Mult (.var 1) (.var 5)) .nil)))) (.tup (.cons (.var 3) (.cons (.var 4) (.cons (.var 5) .nil)))) (.itm (.attr (.var 0) 4)) .nil [3, 4, 5])) (.seq (.ife (.cmp .Gt (.bi .max (.cons (.bin .Add (.lst (.cons (.bin .Mult (.var 1) (.attr (.var 0) 3)) .nil)) (.comp (.idx (.var 6) (.lit (.int 2))) (.var 6) (.itm (.var 2)) .nil [6])) .nil)) (.lit (.int 999999999))) (.seq .nope .done) .done) (.seq (.ret (.make 28 (.cons (.call 30 (.cons (.attr (.var 0) 2) (.cons (.bin .Mult (.var 1) (.attr (.var 0) 3)) (.cons (.var 2) .nil)))) .nil))) .done))))⟩
noncomputable abbrev n_Rule_times : Nat := 24
noncomputable abbrev n_Rule_with_worth : Nat := 25
noncomputable def Fx__law_spot : Fn := ⟨1, 1, false, (.seq (.ret (.bin .Add (.bin .Mult (.lit (.int 2)) (.idx (.var 0) (.lit (.int 1)))) (.bi .int (.cons (.cmp .Eq (.idx (.var 0) (.lit (.int 0))) (.lit (.str (Str.ofString "beyond")))) .nil)))) .done)⟩
noncomputable abbrev n__law_spot : Nat := 517
noncomputable abbrev n__law_is_judged : Nat := 522
noncomputable def Fx__law_number : Fn := ⟨2, 4, false, (.seq (.par [2, 3] (.cons (.bi .int (.cons (.var 0) .nil)) (.cons (.bi .int (.cons (.var 1) .nil)) .nil))) (.seq (.whl (.cmp .Gt (.var 3) (.lit (.int 0))) (.seq (.par [2, 3] (.cons (.var 3) (.cons (.bin .Mod (.var 2) (.var 3)) .nil))) .done)) (.seq (.ret (.tup (.cons (.bin .FloorDiv (.bi .int (.cons (.var 0) .nil)) (.var 2)) (.cons (.bin .FloorDiv (.bi .int (.cons (.var 1) .nil)) (.var 2)) .nil)))) .done)))⟩
noncomputable abbrev n__law_number : Nat := 525
noncomputable abbrev n__law_up : Nat := 526
noncomputable def Fx__law_size : Fn := ⟨2, 5, true, (.seq (.par [2, 3, 4] (.cons (.call 501 (.cons (.var 0) (.cons (.lit (.int 5)) .nil))) (.cons (.call 501 (.cons (.var 0) (.cons (.var 1) .nil))) (.cons (.bin .Add (.lit (.int 2)) (.call 501 (.cons (.var 0) (.cons (.call 502 (.cons (.var 0) (.cons (.lst (.cons (.lit (.int 3)) (.cons (.lit (.int 9)) (.cons (.bin .Pow (.lit (.int 10)) (.lit (.int 6))) .nil)))) .nil))) .nil)))) .nil)))) (.seq (.ife (.cmp .Lt (.var 2) (.lit (.int 2))) (.seq (.ret (.tup (.cons (.bin .Add (.var 3) (.lit (.int 1))) (.cons (.lit (.int 1)) .nil)))) .done) .done) (.seq (.ife (.cmp .Eq (.var 2) (.lit (.int 4))) (.seq (.ret (.call 525 (.cons (.bin .Add (.bin .Add (.bin .Mult (.var 3) (.var 4)) (.lit (.int 1))) (.call 501 (.cons (.var 0) (.cons (.var 4) .nil)))) (.cons (.var 4) .nil)))) .done) .done) (.seq (.ret (.call 525 (.cons (.bin .Add (.bin .Mult (.var 3) (.var 4)) (.idx (.lst (.cons (.lit (.int 1)) (.cons (.bin .Sub (.var 4) (.lit (.int 1))) .nil))) (.bin .Sub (.var 2) (.lit (.int 2))))) (.cons (.var 4) .nil)))) .done))))⟩
noncomputable abbrev n__law_size : Nat := 527
noncomputable def Fx__law_lot : Fn := ⟨3, 5, true, (.seq (.asg (.var 3) (.dnt true)) (.seq (.for (.var 4) (.range (.cons (.call 501 (.cons (.var 0) (.cons (.bin .Add (.var 2) (.lit (.int 1))) .nil))) .nil)) (.seq (.setd 3 (.call 527 (.cons (.var 0) (.cons (.var 1) .nil))) (.bin .Add (.lit (.int 1)) (.call 501 (.cons (.var 0) (.cons (.call 502 (.cons (.var 0) (.cons (.lst (.cons (.lit (.int 1)) (.cons (.lit (.int 3)) (.cons (.lit (.int 9)) (.cons (.lit (.int 1000)) .nil))))) .nil))) .nil))))) .done)) (.seq (.ret (.bi .tuple (.cons (.itl (.var 3)) .nil))) .done)))⟩
noncomputable abbrev n__law_lot : Nat := 528
noncomputable def Fx__law_reached : Fn := ⟨2, 8, false, (.seq (.asg (.tup (.cons (.var 2) (.cons (.tup (.cons (.var 6) (.cons (.var 7) .nil))) .nil))) (.tup (.cons (.lit (.int 0)) (.cons (.var 1) .nil)))) (.seq (.for (.tup (.cons (.var 3) (.cons (.var 4) (.cons (.var 5) .nil)))) (.itm (.idx (.var 0) (.lit (.str (Str.ofString "steps"))))) (.seq (.ife (.or (.cons (.cmp .Gt (.var 6) (.bin .Mult (.var 4) (.var 7))) (.cons (.and (.cons (.cmp .Eq (.var 3) (.lit (.str (Str.ofString "from")))) (.cons (.cmp .Eq (.var 6) (.bin .Mult (.var 4) (.var 7))) .nil))) .nil))) (.seq (.asg (.var 2) (.var 5)) .done) .done) .done)) (.seq (.ret (.var 2)) .done)))⟩
noncomputable abbrev n__law_reached : Nat := 529
noncomputable def Fx_lowest : Fn := ⟨2, 3, false, (.seq (.asg (.var 2) (.bi .gcd (.cons (.var 0) (.cons (.var 1) .nil)))) (.seq (.ret (.tup (.cons (.bin .FloorDiv (.var 0) (.var 2)) (.cons (.bin .FloorDiv (.var 1) (.var 2)) .nil)))) .done))⟩
noncomputable abbrev n_lowest : Nat := 26
noncomputable def Fx_added : Fn := ⟨1, 6, false, (.seq (.ife (.not (.var 0)) (.seq (.ret (.tup (.cons (.lit (.int 0)) (.cons (.lit (.int 1)) .nil)))) .done) .done) (.seq (.ife (.cmp .Eq (.bi .len (.cons (.var 0) .nil)) (.lit (.int 1))) (.seq (.ret (.call 26 (.cons (.idx (.idx (.var 0) (.lit (.int 0))) (.lit (.int 0))) (.cons (.idx (.idx (.var 0) (.lit (.int 0))) (.lit (.int 1))) .nil)))) .done) .done) (.seq (.asg (.var 1) (.bin .FloorDiv (.bi .len (.cons (.var 0) .nil)) (.lit (.int 2)))) (.seq (.asg (.tup (.cons (.var 2) (.cons (.var 3) .nil))) (.call 27 (.cons (.slc (.var 0) .nil (.cons (.var 1) .nil)) .nil))) (.seq (.asg (.tup (.cons (.var 4) (.cons (.var 5) .nil))) (.call 27 (.cons (.slc (.var 0) (.cons (.var 1) .nil) .nil) .nil))) (.seq (.ret (.call 26 (.cons (.bin .Add (.bin .Mult (.var 2) (.var 5)) (.bin .Mult (.var 4) (.var 3))) (.cons (.bin .Mult (.var 3) (.var 5)) .nil)))) .done))))))⟩
noncomputable abbrev n_added : Nat := 27
noncomputable def Fx_filled : Fn := ⟨1, 3, false, (.seq (.ife (.not (.call 7 (.cons (.var 0) .nil))) (.seq .nope .done) .done) (.seq (.ret (.call 27 (.cons (.comp (.tup (.cons (.bin .Mult (.idx (.var 1) (.lit (.int 0))) (.var 2)) (.cons (.idx (.var 1) (.lit (.int 1))) .nil))) (.tup (.cons (.var 1) (.cons (.var 2) .nil))) (.itm (.var 0)) .nil [1, 2]) .nil))) .done))⟩
noncomputable abbrev n_filled : Nat := 28
noncomputable abbrev n__law_is_int : Nat := 530
noncomputable abbrev n__law_is_number : Nat := 531
noncomputable abbrev n__law_is_size : Nat := 532
noncomputable abbrev n__law_is_lot : Nat := 533
noncomputable def Fx__law_sum : Fn := ⟨1, 5, false, (.seq (.par [1, 2] (.cons (.lit (.int 0)) (.cons (.lit (.int 1)) .nil))) (.seq (.for (.tup (.cons (.var 3) (.cons (.var 4) .nil))) (.itm (.var 0)) (.seq (.asg (.tup (.cons (.var 1) (.cons (.var 2) .nil))) (.call 525 (.cons (.bin .Add (.bin .Mult (.var 1) (.var 4)) (.bin .Mult (.var 3) (.var 2))) (.cons (.bin .Mult (.var 2) (.var 4)) .nil)))) .done)) (.seq (.ret (.tup (.cons (.var 1) (.cons (.var 2) .nil)))) .done)))⟩
noncomputable abbrev n__law_sum : Nat := 537
noncomputable def Fx__law_times : Fn := ⟨2, 2, false, (.seq (.ret (.call 525 (.cons (.bin .Mult (.idx (.var 0) (.lit (.int 0))) (.idx (.var 1) (.lit (.int 0)))) (.cons (.bin .Mult (.idx (.var 0) (.lit (.int 1))) (.idx (.var 1) (.lit (.int 1)))) .nil)))) .done)⟩
noncomputable abbrev n__law_times : Nat := 538
noncomputable def Fx__law_due : Fn := ⟨1, 5, false, (.seq (.par [1, 2] (.cons (.lit (.int 1)) (.cons (.lit (.int 0)) .nil))) (.seq (.for (.tup (.cons (.var 3) (.cons (.var 4) .nil))) (.itm (.var 0)) (.seq (.asg (.var 2) (.bin .Add (.bin .Mult (.var 2) (.idx (.var 3) (.lit (.int 1)))) (.bin .Mult (.bin .Mult (.idx (.var 3) (.lit (.int 0))) (.var 4)) (.var 1)))) (.seq (.asg (.var 1) (.bin .Mult (.var 1) (.idx (.var 3) (.lit (.int 1))))) .done))) (.seq (.ret (.call 525 (.cons (.var 2) (.cons (.var 1) .nil)))) .done)))⟩
noncomputable abbrev n__law_due : Nat := 539
noncomputable def Fx_is_whole_up_to : Fn := ⟨3, 3, false, (.seq (.ret (.and (.cons (.call 2 (.cons (.var 0) (.cons (.var 1) .nil))) (.cons (.cmp .LtE (.var 0) (.var 2)) .nil)))) .done)⟩
noncomputable abbrev n_is_whole_up_to : Nat := 29
noncomputable def Fx_rule_text : Fn := ⟨3, 7, false, (.seq (.asg (.var 3) (.lst (.cons (.fstr (.cons (.lit (.str (Str.ofString "box "))) (.cons (.fmt (.var 0)) .nil))) (.cons (.fstr (.cons (.lit (.str (Str.ofString "bound "))) (.cons (.fmt (.var 1)) .nil))) .nil)))) (.seq (.for (.tup (.cons (.var 4) (.cons (.var 5) (.cons (.var 6) .nil)))) (.itm (.var 2)) (.seq (.app 3 (.fstr (.cons (.fmt (.var 4)) (.cons (.lit (.str (Str.ofString " "))) (.cons (.fmt (.var 5)) (.cons (.lit (.str (Str.ofString " "))) (.cons (.fmt (.var 6)) .nil))))))) .done)) (.seq (.ret (.bm .join (.lit (.str (Str.ofString "\n"))) (.cons (.var 3) .nil))) .done)))⟩
noncomputable abbrev n_rule_text : Nat := 30
noncomputable def Fx_with_worths : Fn := ⟨2, 5, false, (.seq (.asg (.var 2) (.bi .list (.cons (.attr (.var 0) 4) .nil))) (.seq (.for (.tup (.cons (.var 3) (.cons (.var 4) .nil))) (.itm (.var 1)) (.seq (.seti 2 (.var 3) (.tup (.cons (.idx (.idx (.var 2) (.var 3)) (.lit (.int 0))) (.cons (.idx (.idx (.var 2) (.var 3)) (.lit (.int 1))) (.cons (.var 4) .nil))))) .done)) (.seq (.ret (.make 28 (.cons (.call 30 (.cons (.attr (.var 0) 2) (.cons (.attr (.var 0) 3) (.cons (.var 2) .nil)))) .nil))) .done)))⟩
noncomputable abbrev n_with_worths : Nat := 678
noncomputable def Fx__law_with : Fn := ⟨3, 4, false, (.seq (.asg (.var 3) (.dcp (.var 0))) (.seq (.setd 3 (.var 1) (.var 2)) (.seq (.ret (.var 3)) .done)))⟩
noncomputable abbrev n__law_with : Nat := 540
noncomputable def Fx_plain : Fn := ⟨1, 4, false, (.seq (.asg (.var 1) (.lst .nil)) (.seq (.asg (.var 2) (.lit (.int 0))) (.seq (.for (.var 3) (.itm (.attr (.var 0) 4)) (.seq (.ife (.cmp .NotEq (.idx (.var 3) (.lit (.int 2))) (.var 2)) (.seq (.app 1 (.var 3)) .done) .done) (.seq (.asg (.var 2) (.idx (.var 3) (.lit (.int 2)))) .done))) (.seq (.ret (.make 28 (.cons (.call 30 (.cons (.attr (.var 0) 2) (.cons (.attr (.var 0) 3) (.cons (.var 1) .nil)))) .nil))) .done))))⟩
noncomputable abbrev n_plain : Nat := 31
noncomputable def Fx__law_space : Fn := ⟨1, 2, false, (.seq (.asg (.var 1) (.bin .FloorDiv (.idx (.var 0) (.lit (.int 0))) (.idx (.var 0) (.lit (.int 1))))) (.seq (.ret (.bin .Add (.bin .Mult (.lit (.int 2)) (.var 1)) (.bi .int (.cons (.cmp .Lt (.bin .Mult (.var 1) (.idx (.var 0) (.lit (.int 1)))) (.idx (.var 0) (.lit (.int 0)))) .nil)))) .done))⟩
noncomputable abbrev n__law_space : Nat := 543
noncomputable def Fx__law_at : Fn := ⟨2, 4, false, (.seq (.asg (.var 2) (.comp (.idx (.var 3) (.lit (.int 2))) (.var 3) (.itm (.idx (.var 0) (.lit (.str (Str.ofString "steps"))))) (.cons (.cmp .LtE (.call 517 (.cons (.var 3) .nil)) (.var 1)) .nil) [3])) (.seq (.ret (.ife (.and (.cons (.cmp .NotEq (.var 2) (.lst .nil)) (.cons (.cmp .Gt (.var 1) (.lit (.int 0))) .nil))) (.idx (.var 2) (.neg (.lit (.int 1)))) (.lit (.int 0)))) .done))⟩
noncomputable abbrev n__law_at : Nat := 544
noncomputable def Fx__law_worth : Fn := ⟨2, 2, false, (.seq (.ret (.call 544 (.cons (.var 0) (.cons (.call 543 (.cons (.var 1) .nil)) .nil)))) .done)⟩
noncomputable abbrev n__law_worth : Nat := 545
noncomputable def Fx__law_is_alike : Fn := ⟨2, 3, false, (.seq (.ife (.cmp .NotEq (.tup (.cons (.idx (.var 0) (.lit (.str (Str.ofString "box")))) (.cons (.idx (.var 0) (.lit (.str (Str.ofString "bound")))) .nil))) (.tup (.cons (.idx (.var 1) (.lit (.str (Str.ofString "box")))) (.cons (.idx (.var 1) (.lit (.str (Str.ofString "bound")))) .nil)))) (.seq (.ret (.lit (.bl false))) .done) .done) (.seq (.ret (.bi .all (.cons (.comp (.cmp .Eq (.call 544 (.cons (.var 0) (.cons (.var 2) .nil))) (.call 544 (.cons (.var 1) (.cons (.var 2) .nil)))) (.var 2) (.range (.cons (.bin .Add (.bin .Mult (.lit (.int 2)) (.idx (.var 0) (.lit (.str (Str.ofString "box"))))) (.lit (.int 1))) .nil)) .nil [2]) .nil))) .done))⟩
noncomputable abbrev n__law_is_alike : Nat := 546
noncomputable def Fx__law_turns : Fn := ⟨1, 4, false, (.seq (.par [2, 3] (.cons (.lst .nil) (.cons (.lit (.int 0)) .nil))) (.seq (.for (.var 1) (.range (.cons (.lit (.int 1)) (.cons (.bin .Add (.bin .Mult (.lit (.int 2)) (.idx (.var 0) (.lit (.str (Str.ofString "box"))))) (.lit (.int 1))) .nil))) (.seq (.ife (.cmp .NotEq (.call 544 (.cons (.var 0) (.cons (.var 1) .nil))) (.var 3)) (.seq (.asg (.var 3) (.call 544 (.cons (.var 0) (.cons (.var 1) .nil)))) (.seq (.app 2 (.tup (.cons (.idx (.lst (.cons (.lit (.str (Str.ofString "from"))) (.cons (.lit (.str (Str.ofString "beyond"))) .nil))) (.bin .Mod (.var 1) (.lit (.int 2)))) (.cons (.bin .FloorDiv (.var 1) (.lit (.int 2))) (.cons (.var 3) .nil))))) .done)) .done) .done)) (.seq (.ret (.var 2)) .done)))⟩
noncomputable abbrev n__law_turns : Nat := 547
noncomputable def Fx__law_padded : Fn := ⟨2, 6, true, (.seq (.par [3, 4] (.cons (.comp (.call 517 (.cons (.var 5) .nil)) (.var 5) (.itm (.idx (.var 1) (.lit (.str (Str.ofString "steps"))))) .nil [5]) (.cons (.lst .nil) .nil))) (.seq (.for (.var 2) (.range (.cons (.lit (.int 1)) (.cons (.bin .Add (.bin .Mult (.lit (.int 2)) (.idx (.var 1) (.lit (.str (Str.ofString "box"))))) (.lit (.int 1))) .nil))) (.seq (.ife (.or (.cons (.cmp .In (.var 2) (.var 3)) (.cons (.cmp .Eq (.call 501 (.cons (.var 0) (.cons (.lit (.int 3)) .nil))) (.lit (.int 0))) .nil))) (.seq (.app 4 (.tup (.cons (.idx (.lst (.cons (.lit (.str (Str.ofString "from"))) (.cons (.lit (.str (Str.ofString "beyond"))) .nil))) (.bin .Mod (.var 2) (.lit (.int 2)))) (.cons (.bin .FloorDiv (.var 2) (.lit (.int 2))) (.cons (.call 544 (.cons (.var 1) (.cons (.var 2) .nil))) .nil))))) .done) .done) .done)) (.seq (.ret (.call 540 (.cons (.var 1) (.cons (.lit (.str (Str.ofString "steps"))) (.cons (.var 4) .nil))))) .done)))⟩
noncomputable abbrev n__law_padded : Nat := 548
noncomputable def Fx_size_in : Fn := ⟨1, 1, false, (.seq (.ret (.call 26 (.cons (.var 0) (.cons (.lit (.int 2)) .nil)))) .done)⟩
noncomputable abbrev n_size_in : Nat := 32
noncomputable def Fx_comes_to : Fn := ⟨2, 2, false, (.seq (.ret (.bin .Sub (.bin .Add (.var 0) (.var 1)) (.bin .BitAnd (.bin .BitAnd (.var 0) (.var 1)) (.lit (.int 1))))) .done)⟩
noncomputable abbrev n_comes_to : Nat := 33
noncomputable def Fx_crumb_worth : Fn := ⟨1, 1, false, (.seq (.ret (.idx (.attr (.var 0) 5) (.lit (.int 1)))) .done)⟩
noncomputable abbrev n_crumb_worth : Nat := 34
noncomputable def Fx_most_within : Fn := ⟨2, 11, false, (.seq (.asg (.var 2) (.bin .Mult (.lst (.cons (.lit (.int 0)) .nil)) (.bin .Add (.var 0) (.lit (.int 1))))) (.seq (.for (.tup (.cons (.var 6) (.cons (.var 7) (.cons (.var 8) .nil)))) (.itm (.var 1)) (.seq (.seti 2 (.var 7) (.bi .max (.cons (.idx (.var 2) (.var 7)) (.cons (.var 8) .nil)))) .done)) (.seq (.asg (.var 3) (.lst (.cons (.lit (.int 0)) .nil))) (.seq (.asg (.var 4) (.lst .nil)) (.seq (.for (.var 5) (.range (.cons (.lit (.int 1)) (.cons (.bin .Add (.var 0) (.lit (.int 1))) .nil))) (.seq (.asg (.var 9) (.comp (.bin .Add (.idx (.var 3) (.bin .Sub (.var 5) (.var 7))) (.var 8)) (.tup (.cons (.var 7) (.cons (.var 8) .nil))) (.itm (.var 4)) .nil [7, 8])) (.seq (.asg (.var 10) (.bi .max (.cons (.lss (.cons (.lit (.int 0)) (.cons (.star (.var 9)) .nil))) .nil))) (.seq (.ife (.cmp .Gt (.idx (.var 2) (.var 5)) (.var 10)) (.seq (.asg (.var 10) (.idx (.var 2) (.var 5))) (.seq (.app 4 (.tup (.cons (.var 5) (.cons (.var 10) .nil)))) .done)) .done) (.seq (.app 3 (.var 10)) .done))))) (.seq (.ret (.var 3)) .done))))))⟩
noncomputable abbrev n_most_within : Nat := 35
noncomputable def Fx_least_table : Fn := ⟨1, 6, false, (.seq (.asg (.var 1) (.call 35 (.cons (.attr (.var 0) 2) (.cons (.comp (.var 5) (.var 5) (.itm (.attr (.var 0) 4)) (.cons (.cmp .Eq (.idx (.var 5) (.lit (.int 0))) (.lit (.str (Str.ofString "from")))) .nil) [5]) .nil)))) (.seq (.asg (.var 2) (.call 35 (.cons (.attr (.var 0) 2) (.cons (.attr (.var 0) 4) .nil)))) (.seq (.asg (.var 3) (.lst (.cons (.lit (.int 0)) .nil))) (.seq (.for (.var 4) (.range (.cons (.attr (.var 0) 2) .nil)) (.seq (.app 3 (.idx (.var 2) (.var 4))) (.seq (.app 3 (.bi .max (.cons (.idx (.var 2) (.var 4)) (.cons (.idx (.var 1) (.bin .Add (.var 4) (.lit (.int 1)))) .nil)))) .done))) (.seq (.ret (.var 3)) .done)))))⟩
noncomputable abbrev n_least_table : Nat := 36
noncomputable def Fx_last_way_into : Fn := ⟨3, 7, false, (.seq (.for (.tup (.cons (.var 3) (.cons (.var 4) .nil))) (.enum (.attr (.var 0) 4)) (.seq (.asg (.var 5) (.call 13 (.cons (.var 4) .nil))) (.seq (.for (.var 6) (.itm (.tup (.cons (.bin .Sub (.var 2) (.var 5)) (.cons (.bin .Add (.bin .Sub (.var 2) (.var 5)) (.lit (.int 1))) .nil)))) (.seq (.ife (.and (.cons (.cmp2 .LtE .Lt (.lit (.int 0)) (.var 6) (.var 2)) (.cons (.cmp .Eq (.call 33 (.cons (.var 6) (.cons (.var 5) .nil))) (.var 2)) (.cons (.cmp .Eq (.bin .Add (.idx (.var 1) (.var 6)) (.idx (.var 4) (.lit (.int 2)))) (.idx (.var 1) (.var 2))) .nil)))) (.seq (.ret (.tup (.cons (.var 3) (.cons (.var 6) .nil)))) .done) .done) .done)) .done))) (.seq (.ret (.lit .non)) .done))⟩
noncomputable abbrev n_last_way_into : Nat := 37
noncomputable def Fx_steps_taken : Fn := ⟨2, 5, false, (.seq (.asg (.var 2) (.bin .Mult (.lst (.cons (.lit (.int 0)) .nil)) (.bi .len (.cons (.attr (.var 0) 4) .nil)))) (.seq (.asg (.var 3) (.bin .Sub (.bi .len (.cons (.var 1) .nil)) (.lit (.int 1)))) (.seq (.whl (.cmp .Gt (.var 3) (.lit (.int 0))) (.seq (.ife (.cmp .Eq (.idx (.var 1) (.var 3)) (.idx (.var 1) (.bin .Sub (.var 3) (.lit (.int 1))))) (.seq (.aug 3 .Sub (.lit (.int 1))) .done) (.seq (.asg (.tup (.cons (.var 4) (.cons (.var 3) .nil))) (.call 37 (.cons (.var 0) (.cons (.var 1) (.cons (.var 3) .nil))))) (.seq (.augi 2 (.var 4) .Add (.lit (.int 1))) .done))) .done)) (.seq (.ret (.var 2)) .done))))⟩
noncomputable abbrev n_steps_taken : Nat := 38
noncomputable def Fx_lot_of : Fn := ⟨2, 11, false, (.seq (.asg (.var 2) (.bi .sum (.cons (.comp (.idx (.var 1) (.var 5)) (.tup (.cons (.var 5) (.cons (.var 10) .nil))) (.enum (.attr (.var 0) 4)) (.cons (.cmp .Eq (.idx (.var 10) (.lit (.int 0))) (.lit (.str (Str.ofString "beyond")))) .nil) [5, 10]) .nil))) (.seq (.asg (.var 3) (.bin .Add (.var 2) (.lit (.int 1)))) (.seq (.asg (.var 4) (.lst .nil)) (.seq (.for (.tup (.cons (.var 5) (.cons (.tup (.cons (.var 7) (.cons (.var 8) (.cons (.var 9) .nil)))) .nil))) (.enum (.attr (.var 0) 4)) (.seq (.asg (.var 6) (.ife (.cmp .Eq (.var 7) (.lit (.str (Str.ofString "from")))) (.tup (.cons (.var 8) (.cons (.lit (.int 1)) .nil))) (.tup (.cons (.bin .Add (.bin .Mult (.var 8) (.var 3)) (.lit (.int 1))) (.cons (.var 3) .nil))))) (.seq (.ife (.cmp .Gt (.idx (.var 1) (.var 5)) (.lit (.int 0))) (.seq (.app 4 (.tup (.cons (.var 6) (.cons (.idx (.var 1) (.var 5)) .nil)))) .done) .done) .done))) (.seq (.ret (.bi .tuple (.cons (.var 4) .nil))) .done)))))⟩
noncomputable abbrev n_lot_of : Nat := 39
noncomputable def Fx_judged : Fn := ⟨1, 4, false, (.seq (.asg (.var 1) (.call 34 (.cons (.var 0) .nil))) (.seq (.ife (.cmp .Gt (.var 1) (.lit (.int 0))) (.seq (.asg (.var 3) (.bin .Add (.bin .FloorDiv (.attr (.var 0) 3) (.var 1)) (.lit (.int 2)))) (.seq (.ret (.tup (.cons (.lit (.str (Str.ofString "broken"))) (.cons (.tup (.cons (.tup (.cons (.tup (.cons (.lit (.int 1)) (.cons (.var 3) .nil))) (.cons (.var 3) .nil))) .nil)) .nil)))) .done)) .done) (.seq (.asg (.var 2) (.call 36 (.cons (.var 0) .nil))) (.seq (.ife (.cmp .Gt (.idx (.var 2) (.neg (.lit (.int 1)))) (.attr (.var 0) 3)) (.seq (.ret (.tup (.cons (.lit (.str (Str.ofString "broken"))) (.cons (.call 39 (.cons (.var 0) (.cons (.call 38 (.cons (.var 0) (.cons (.var 2) .nil))) .nil))) .nil)))) .done) .done) (.seq (.ret (.tup (.cons (.lit (.str (Str.ofString "sound"))) (.cons (.bi .tuple (.cons (.var 2) .nil)) .nil)))) .done)))))⟩
noncomputable abbrev n_judged : Nat := 40
noncomputable def Fx_sound_table : Fn := ⟨1, 3, false, (.seq (.asg (.tup (.cons (.var 1) (.cons (.var 2) .nil))) (.call 40 (.cons (.var 0) .nil))) (.seq (.ife (.cmp .Eq (.var 1) (.lit (.str (Str.ofString "broken")))) (.seq .nope .done) .done) (.seq (.ret (.var 2)) .done)))⟩
noncomputable abbrev n_sound_table : Nat := 41
noncomputable def Fx_shows_judged : Fn := ⟨2, 4, false, (.seq (.ife (.not (.call 3 (.cons (.var 1) .nil))) (.seq (.ret (.lit (.bl false))) .done) .done) (.seq (.asg (.tup (.cons (.var 2) (.cons (.var 3) .nil))) (.var 1)) (.seq (.ife (.cmp .Eq (.var 2) (.lit (.str (Str.ofString "sound")))) (.seq (.ret (.and (.cons (.call 43 (.cons (.var 0) (.cons (.var 3) .nil))) (.cons (.call 44 (.cons (.var 0) (.cons (.var 3) .nil))) .nil)))) .done) .done) (.seq (.ret (.and (.cons (.cmp .Eq (.var 2) (.lit (.str (Str.ofString "broken")))) (.cons (.call 45 (.cons (.var 0) (.cons (.var 3) .nil))) .nil)))) .done))))⟩
noncomputable abbrev n_shows_judged : Nat := 42
noncomputable def Fx_is_table : Fn := ⟨2, 4, false, (.seq (.ife (.or (.cons (.not (.isi 3 (.var 1))) (.cons (.cmp .NotEq (.bi .len (.cons (.var 1) .nil)) (.bin .Add (.bin .Mult (.lit (.int 2)) (.attr (.var 0) 2)) (.lit (.int 1)))) .nil))) (.seq (.ret (.lit (.bl false))) .done) .done) (.seq (.ife (.not (.bi .all (.cons (.comp (.call 2 (.cons (.var 3) (.cons (.lit (.int 0)) .nil))) (.var 3) (.itm (.var 1)) .nil [3]) .nil))) (.seq (.ret (.lit (.bl false))) .done) .done) (.seq (.ret (.bi .all (.cons (.comp (.cmp .LtE (.idx (.var 1) (.var 2)) (.idx (.var 1) (.bin .Add (.var 2) (.lit (.int 1))))) (.var 2) (.range (.cons (.bin .Sub (.bi .len (.cons (.var 1) .nil)) (.lit (.int 1))) .nil)) .nil [2]) .nil))) .done)))⟩
noncomputable abbrev n_is_table : Nat := 43
noncomputable def Fx_holds : Fn := ⟨2, 7, false, (.seq (.ife (.cmp .Gt (.idx (.var 1) (.neg (.lit (.int 1)))) (.attr (.var 0) 3)) (.seq (.ret (.lit (.bl false))) .done) .done) (.seq (.for (.var 2) (.itm (.attr (.var 0) 4)) (.seq (.par [3, 4] (.cons (.var 1) (.cons (.slc (.var 1) (.cons (.call 13 (.cons (.var 2) .nil)) .nil) .nil) .nil))) (.seq (.ife (.cmp .Eq (.idx (.var 2) (.lit (.int 0))) (.lit (.str (Str.ofString "beyond")))) (.seq (.par [3, 4] (.cons (.stp (.var 1) 1) (.cons (.stp (.var 4) 0) .nil))) .done) .done) (.seq (.ife (.not (.bi .all (.cons (.comp (.cmp .LtE (.bin .Add (.var 5) (.idx (.var 2) (.lit (.int 2)))) (.var 6)) (.tup (.cons (.var 5) (.cons (.var 6) .nil))) (.zip (.var 3) (.var 4)) .nil [5, 6]) .nil))) (.seq (.ret (.lit (.bl false))) .done) .done) .done)))) (.seq (.ret (.lit (.bl true))) .done)))⟩
noncomputable abbrev n_holds : Nat := 44
noncomputable def Fx_breaks : Fn := ⟨2, 4, false, (.seq (.ife (.not (.call 7 (.cons (.var 1) .nil))) (.seq (.ret (.lit (.bl false))) .done) .done) (.seq (.asg (.tup (.cons (.var 2) (.cons (.var 3) .nil))) (.call 28 (.cons (.var 1) .nil))) (.seq (.ret (.and (.cons (.cmp .LtE (.var 2) (.bin .Mult (.attr (.var 0) 2) (.var 3))) (.cons (.cmp .Gt (.meth (.var 0) 506 (.cons (.var 1) .nil)) (.attr (.var 0) 3)) .nil)))) .done)))⟩
noncomputable abbrev n_breaks : Nat := 45
noncomputable abbrev n_most : Nat := 46
noncomputable def Fx_rounding : Fn := ⟨1, 3, false, (.seq (.ife (.not (.call 29 (.cons (.var 0) (.cons (.lit (.int 1)) (.cons (.lit (.int 40)) .nil))))) (.seq .nope .done) .done) (.seq (.asg (.var 1) (.lst .nil)) (.seq (.for (.var 2) (.range (.cons (.lit (.int 1)) (.cons (.bin .Add (.var 0) (.lit (.int 1))) .nil))) (.seq (.app 1 (.tup (.cons (.lit (.str (Str.ofString "from"))) (.cons (.var 2) (.cons (.bin .Mult (.var 2) (.var 0)) .nil))))) (.seq (.app 1 (.tup (.cons (.lit (.str (Str.ofString "beyond"))) (.cons (.var 2) (.cons (.bin .Mult (.var 2) (.bin .Add (.var 0) (.lit (.int 1)))) .nil))))) .done))) (.seq (.ret (.make 28 (.cons (.call 30 (.cons (.bin .Add (.var 0) (.lit (.int 1))) (.cons (.bin .Mult (.var 0) (.bin .Add (.var 0) (.lit (.int 1)))) (.cons (.var 1) .nil)))) .nil))) .done))))⟩
noncomputable abbrev n_rounding : Nat := 47
noncomputable def Fx_greatest : Fn := ⟨1, 1, false, (.seq (.ret (.call 49 (.cons (.var 0) (.cons (.call 41 (.cons (.var 0) .nil)) .nil)))) .done)⟩
noncomputable abbrev n_greatest : Nat := 48
noncomputable def Fx_room_of : Fn := ⟨2, 7, false, (.seq (.asg (.var 2) (.attr (.var 0) 5)) (.seq (.for (.var 3) (.range (.cons (.lit (.int 1)) (.cons (.bi .len (.cons (.var 1) .nil)) .nil))) (.seq (.ife (.cmp .Gt (.idx (.var 1) (.var 3)) (.idx (.var 2) (.var 3))) (.seq (.ret (.tup (.cons (.lit (.str (Str.ofString "room"))) (.cons (.call 32 (.cons (.var 3) .nil)) (.cons (.tup (.cons (.idx (.var 1) (.var 3)) (.cons (.lit (.int 1)) .nil))) .nil))))) .done) .done) .done)) (.seq (.for (.var 3) (.range (.cons (.lit (.int 1)) (.cons (.bi .len (.cons (.var 1) .nil)) .nil))) (.seq (.asg (.var 4) (.bin .Sub (.bin .Sub (.attr (.var 0) 3) (.idx (.var 2) (.var 3))) (.idx (.var 2) (.bin .Sub (.bin .Sub (.bi .len (.cons (.var 1) .nil)) (.lit (.int 1))) (.var 3))))) (.seq (.ife (.cmp .Gt (.var 4) (.lit (.int 0))) (.seq (.asg (.var 5) (.call 32 (.cons (.var 3) .nil))) (.seq (.asg (.var 6) (.bin .FloorDiv (.bin .Mult (.attr (.var 0) 2) (.idx (.var 5) (.lit (.int 1)))) (.idx (.var 5) (.lit (.int 0))))) (.seq (.ret (.tup (.cons (.lit (.str (Str.ofString "room"))) (.cons (.var 5) (.cons (.call 26 (.cons (.bin .Add (.bin .Mult (.var 6) (.idx (.var 2) (.var 3))) (.var 4)) (.cons (.var 6) .nil))) .nil))))) .done))) .done) .done))) (.seq (.ret (.tup (.cons (.lit (.str (Str.ofString "greatest"))) .nil))) .done))))⟩
noncomputable abbrev n_room_of : Nat := 49
noncomputable def Fx__law_is_less : Fn := ⟨2, 2, false, (.seq (.ret (.cmp .Lt (.bin .Mult (.idx (.var 0) (.lit (.int 0))) (.idx (.var 1) (.lit (.int 1)))) (.bin .Mult (.idx (.var 1) (.lit (.int 0))) (.idx (.var 0) (.lit (.int 1)))))) .done)⟩
noncomputable abbrev n__law_is_less : Nat := 549
noncomputable def Fx__law_join : Fn := ⟨2, 2, false, (.seq (.ret (.bin .Sub (.bin .Add (.var 0) (.var 1)) (.bi .int (.cons (.and (.cons (.cmp .Eq (.bin .Mod (.var 0) (.lit (.int 2))) (.lit (.int 1))) (.cons (.cmp .Eq (.bin .Mod (.var 1) (.lit (.int 2))) (.lit (.int 1))) .nil))) .nil)))) .done)⟩
noncomputable abbrev n__law_join : Nat := 550
noncomputable def Fx__law_table : Fn := ⟨1, 6, false, (.seq (.asg (.var 1) (.bin .Mult (.lst (.cons (.lit (.int 0)) .nil)) (.bin .Add (.bin .Mult (.lit (.int 2)) (.idx (.var 0) (.lit (.str (Str.ofString "box"))))) (.lit (.int 1))))) (.seq (.for (.var 2) (.range (.cons (.lit (.int 1)) (.cons (.bi .len (.cons (.var 1) .nil)) .nil))) (.seq (.asg (.var 3) (.idx (.var 1) (.bin .Sub (.var 2) (.lit (.int 1))))) (.seq (.for (.var 4) (.itm (.idx (.var 0) (.lit (.str (Str.ofString "steps"))))) (.seq (.for (.var 5) (.itm (.tup (.cons (.bin .Sub (.var 2) (.call 517 (.cons (.var 4) .nil))) (.cons (.bin .Add (.bin .Sub (.var 2) (.call 517 (.cons (.var 4) .nil))) (.lit (.int 1))) .nil)))) (.seq (.ife (.and (.cons (.cmp2 .LtE .Lt (.lit (.int 0)) (.var 5) (.var 2)) (.cons (.cmp .Eq (.call 550 (.cons (.var 5) (.cons (.call 517 (.cons (.var 4) .nil)) .nil))) (.var 2)) .nil))) (.seq (.asg (.var 3) (.bi .max (.cons (.bi .int (.cons (.var 3) .nil)) (.cons (.bi .int (.cons (.bin .Add (.idx (.var 1) (.var 5)) (.idx (.var 4) (.lit (.int 2)))) .nil)) .nil)))) .done) .done) .done)) .done)) (.seq (.seti 1 (.var 2) (.var 3)) .done)))) (.seq (.ret (.var 1)) .done)))⟩
noncomputable abbrev n__law_table : Nat := 551
noncomputable def Fx__law_fitting_lot : Fn := ⟨2, 7, true, (.seq (.par [3, 4] (.cons (.dnt true) (.cons (.tup (.cons (.var 1) (.cons (.lit (.int 1)) .nil))) .nil))) (.seq (.for (.var 2) (.range (.cons (.lit (.int 8)) .nil)) (.seq (.asg (.var 5) (.call 527 (.cons (.var 0) (.cons (.var 1) .nil)))) (.seq (.ife (.and (.cons (.not (.call 549 (.cons (.var 4) (.cons (.var 5) .nil)))) (.cons (.cmp .NotIn (.var 5) (.var 3)) .nil))) (.seq (.asg (.var 6) (.bin .Add (.lit (.int 1)) (.call 501 (.cons (.var 0) (.cons (.bi .int (.cons (.bin .FloorDiv (.bin .Mult (.idx (.var 4) (.lit (.int 0))) (.idx (.var 5) (.lit (.int 1)))) (.bin .Mult (.idx (.var 4) (.lit (.int 1))) (.idx (.var 5) (.lit (.int 0))))) .nil)) .nil))))) (.seq (.setd 3 (.var 5) (.var 6)) (.seq (.asg (.var 4) (.call 525 (.cons (.bin .Sub (.bin .Mult (.idx (.var 4) (.lit (.int 0))) (.idx (.var 5) (.lit (.int 1)))) (.bin .Mult (.bin .Mult (.var 6) (.idx (.var 5) (.lit (.int 0)))) (.idx (.var 4) (.lit (.int 1))))) (.cons (.bin .Mult (.idx (.var 4) (.lit (.int 1))) (.idx (.var 5) (.lit (.int 1)))) .nil)))) .done))) .done) .done))) (.seq (.ret (.bi .tuple (.cons (.itl (.var 3)) .nil))) .done)))⟩
noncomputable abbrev n__law_fitting_lot : Nat := 552
noncomputable def Fx_behind : Fn := ⟨2, 6, false, (.seq (.ife (.or (.cons (.not (.isc 28 (.var 1))) (.cons (.cmp .NotEq (.attr (.var 1) 2) (.attr (.var 0) 3)) .nil))) (.seq .nope .done) .done) (.seq (.asg (.var 2) (.comp (.tup (.cons (.var 3) (.cons (.var 4) (.cons (.call 51 (.cons (.var 1) (.cons (.var 5) .nil))) .nil)))) (.tup (.cons (.var 3) (.cons (.var 4) (.cons (.var 5) .nil)))) (.itm (.attr (.var 0) 4)) .nil [3, 4, 5])) (.seq (.ret (.call 31 (.cons (.make 28 (.cons (.call 30 (.cons (.attr (.var 0) 2) (.cons (.attr (.var 1) 3) (.cons (.var 2) .nil)))) .nil)) .nil))) .done)))⟩
noncomputable abbrev n_behind : Nat := 50
noncomputable def Fx_worth_behind : Fn := ⟨2, 2, false, (.seq (.ife (.cmp .Eq (.var 1) (.lit (.int 0))) (.seq (.ret (.lit (.int 0))) .done) .done) (.seq (.ret (.meth (.var 0) 505 (.cons (.tup (.cons (.bi .min (.cons (.var 1) (.cons (.attr (.var 0) 2) .nil))) (.cons (.lit (.int 1)) .nil))) .nil))) .done))⟩
noncomputable abbrev n_worth_behind : Nat := 51
noncomputable def Fx__law_plain : Fn := ⟨1, 6, false, (.seq (.par [2, 3] (.cons (.lst .nil) (.cons (.lit (.int 0)) .nil))) (.seq (.for (.var 1) (.itm (.idx (.var 0) (.lit (.str (Str.ofString "steps"))))) (.seq (.asg (.var 4) (.comp (.var 5) (.var 5) (.itm (.idx (.var 0) (.lit (.str (Str.ofString "steps"))))) (.cons (.cmp .Eq (.call 517 (.cons (.var 5) .nil)) (.call 517 (.cons (.var 1) .nil))) .nil) [5])) (.seq (.ife (.and (.cons (.cmp .Eq (.idx (.var 4) (.neg (.lit (.int 1)))) (.var 1)) (.cons (.cmp .NotEq (.idx (.var 1) (.lit (.int 2))) (.var 3)) .nil))) (.seq (.app 2 (.var 1)) (.seq (.asg (.var 3) (.idx (.var 1) (.lit (.int 2)))) .done)) .done) .done))) (.seq (.ret (.call 540 (.cons (.var 0) (.cons (.lit (.str (Str.ofString "steps"))) (.cons (.var 2) .nil))))) .done)))⟩
noncomputable abbrev n__law_plain : Nat := 553
noncomputable def Fx__law_sound : Fn := ⟨3, 6, true, (.seq (.ife (.cmp .Eq (.call 501 (.cons (.var 0) (.cons (.lit (.int 5)) .nil))) (.lit (.int 0))) (.seq (.ret (.call 514 (.cons (.bin .Add (.lit (.int 1)) (.call 501 (.cons (.var 0) (.cons (.bi .max (.cons (.lit (.int 1)) (.cons (.bin .Sub (.var 1) (.lit (.int 1))) .nil))) .nil)))) .nil))) .done) .done) (.seq (.asg (.var 3) (.call 513 (.cons (.var 0) (.cons (.var 1) (.cons (.var 2) .nil))))) (.seq (.asg (.var 3) (.call 540 (.cons (.var 3) (.cons (.lit (.str (Str.ofString "steps"))) (.cons (.comp (.var 5) (.var 5) (.itm (.idx (.var 3) (.lit (.str (Str.ofString "steps"))))) (.cons (.or (.cons (.cmp .Gt (.call 517 (.cons (.var 5) .nil)) (.lit (.int 1))) (.cons (.cmp .Eq (.idx (.var 5) (.lit (.int 2))) (.lit (.int 0))) .nil))) .nil) [5]) .nil))))) (.seq (.asg (.var 4) (.idx (.call 551 (.cons (.var 3) .nil)) (.neg (.lit (.int 1))))) (.seq (.ret (.call 540 (.cons (.var 3) (.cons (.lit (.str (Str.ofString "bound"))) (.cons (.bin .Add (.bi .max (.cons (.lit (.int 1)) (.cons (.bi .int (.cons (.var 4) .nil)) .nil))) (.call 502 (.cons (.var 0) (.cons (.lst (.cons (.lit (.int 0)) (.cons (.lit (.int 0)) (.cons (.lit (.int 0)) (.cons (.lit (.int 1)) (.cons (.lit (.int 5)) .nil)))))) .nil)))) .nil))))) .done)))))⟩
noncomputable abbrev n__law_sound : Nat := 554
noncomputable def Fx__law_two_of_one : Fn := ⟨1, 5, true, (.seq (.asg (.var 1) (.call 554 (.cons (.var 0) (.cons (.lit (.int 8)) (.cons (.lit (.int 6)) .nil))))) (.seq (.asg (.var 1) (.call 540 (.cons (.var 1) (.cons (.lit (.str (Str.ofString "bound"))) (.cons (.bi .max (.cons (.bi .int (.cons (.idx (.var 1) (.lit (.str (Str.ofString "bound")))) .nil)) (.cons (.bi .int (.cons (.idx (.call 551 (.cons (.var 1) .nil)) (.neg (.lit (.int 1)))) .nil)) .nil))) .nil))))) (.seq (.ife (.cmp .Gt (.idx (.var 1) (.lit (.str (Str.ofString "bound")))) (.lit (.int 60))) (.seq (.ret (.tup (.cons (.call 514 (.cons (.lit (.int 3)) .nil)) (.cons (.call 514 (.cons (.lit (.int 11)) .nil)) .nil)))) .done) .done) (.seq (.asg (.var 2) (.call 554 (.cons (.var 0) (.cons (.lit (.int 8)) (.cons (.lit (.int 6)) .nil))))) (.seq (.asg (.var 3) (.comp (.var 4) (.var 4) (.itm (.idx (.var 2) (.lit (.str (Str.ofString "steps"))))) (.cons (.cmp .LtE (.call 517 (.cons (.var 4) .nil)) (.bin .Mult (.lit (.int 2)) (.idx (.var 1) (.lit (.str (Str.ofString "bound")))))) .nil) [4])) (.seq (.asg (.var 2) (.call 540 (.cons (.call 540 (.cons (.var 2) (.cons (.lit (.str (Str.ofString "box"))) (.cons (.idx (.var 1) (.lit (.str (Str.ofString "bound")))) .nil)))) (.cons (.lit (.str (Str.ofString "steps"))) (.cons (.var 3) .nil))))) (.seq (.ret (.tup (.cons (.var 1) (.cons (.call 540 (.cons (.var 2) (.cons (.lit (.str (Str.ofString "bound"))) (.cons (.bi .max (.cons (.lit (.int 1)) (.cons (.bi .int (.cons (.idx (.call 551 (.cons (.var 2) .nil)) (.neg (.lit (.int 1)))) .nil)) .nil))) .nil)))) .nil)))) .done)))))))⟩
noncomputable abbrev n__law_two_of_one : Nat := 555
noncomputable def Fx__law_led : Fn := ⟨2, 2, false, (.seq (.ret (.ife (.cmp .Eq (.var 1) (.lit (.int 0))) (.lit (.int 0)) (.call 544 (.cons (.var 0) (.cons (.bin .Mult (.lit (.int 2)) (.bi .min (.cons (.bi .int (.cons (.var 1) .nil)) (.cons (.idx (.var 0) (.lit (.str (Str.ofString "box")))) .nil)))) .nil))))) .done)⟩
noncomputable abbrev n__law_led : Nat := 556
noncomputable def Fx__law_behind : Fn := ⟨2, 4, false, (.seq (.asg (.var 2) (.lst .nil)) (.seq (.for (.var 3) (.range (.cons (.lit (.int 1)) (.cons (.bin .Add (.bin .Mult (.lit (.int 2)) (.idx (.var 0) (.lit (.str (Str.ofString "box"))))) (.lit (.int 1))) .nil))) (.seq (.app 2 (.tup (.cons (.idx (.lst (.cons (.lit (.str (Str.ofString "from"))) (.cons (.lit (.str (Str.ofString "beyond"))) .nil))) (.bin .Mod (.var 3) (.lit (.int 2)))) (.cons (.bin .FloorDiv (.var 3) (.lit (.int 2))) (.cons (.call 556 (.cons (.var 1) (.cons (.call 544 (.cons (.var 0) (.cons (.var 3) .nil))) .nil))) .nil))))) .done)) (.seq (.ret (.call 553 (.cons (.dic (.cons (.lit (.str (Str.ofString "box"))) (.cons (.lit (.str (Str.ofString "bound"))) (.cons (.lit (.str (Str.ofString "steps"))) .nil))) (.cons (.idx (.var 0) (.lit (.str (Str.ofString "box")))) (.cons (.idx (.var 1) (.lit (.str (Str.ofString "bound")))) (.cons (.var 2) .nil)))) .nil))) .done)))⟩
noncomputable abbrev n__law_behind : Nat := 557
noncomputable def Fx__law_any_two : Fn := ⟨1, 3, true, (.seq (.asg (.var 1) (.call 540 (.cons (.call 513 (.cons (.var 0) (.cons (.lit (.int 9)) (.cons (.lit (.int 6)) .nil)))) (.cons (.lit (.str (Str.ofString "bound"))) (.cons (.bin .Add (.lit (.int 1)) (.call 501 (.cons (.var 0) (.cons (.lit (.int 60)) .nil)))) .nil))))) (.seq (.asg (.var 2) (.call 513 (.cons (.var 0) (.cons (.idx (.var 1) (.lit (.str (Str.ofString "bound")))) (.cons (.lit (.int 6)) .nil))))) (.seq (.ret (.tup (.cons (.var 1) (.cons (.call 540 (.cons (.var 2) (.cons (.lit (.str (Str.ofString "box"))) (.cons (.idx (.var 1) (.lit (.str (Str.ofString "bound")))) .nil)))) .nil)))) .done)))⟩
noncomputable abbrev n__law_any_two : Nat := 558
noncomputable def Fx_finer : Fn := ⟨2, 6, false, (.seq (.ife (.not (.call 29 (.cons (.var 1) (.cons (.lit (.int 1)) (.cons (.lit (.int 60)) .nil))))) (.seq .nope .done) .done) (.seq (.ife (.cmp .Gt (.bin .Mult (.var 1) (.attr (.var 0) 2)) (.lit (.int 60))) (.seq .nope .done) .done) (.seq (.asg (.var 2) (.comp (.tup (.cons (.var 3) (.cons (.bin .Mult (.var 1) (.var 4)) (.cons (.var 5) .nil)))) (.tup (.cons (.var 3) (.cons (.var 4) (.cons (.var 5) .nil)))) (.itm (.attr (.var 0) 4)) .nil [3, 4, 5])) (.seq (.ret (.make 28 (.cons (.call 30 (.cons (.bin .Mult (.var 1) (.attr (.var 0) 2)) (.cons (.attr (.var 0) 3) (.cons (.var 2) .nil)))) .nil))) .done))))⟩
noncomputable abbrev n_finer : Nat := 52
noncomputable def Fx__law_is_endless : Fn := ⟨1, 1, false, (.seq (.ret (.cmp .Gt (.call 544 (.cons (.var 0) (.cons (.lit (.int 1)) .nil))) (.lit (.int 0)))) .done)⟩
noncomputable abbrev n__law_is_endless : Nat := 559
noncomputable def Fx__law_finer : Fn := ⟨2, 6, false, (.seq (.asg (.var 2) (.comp (.tup (.cons (.var 3) (.cons (.bin .Mult (.var 4) (.var 1)) (.cons (.var 5) .nil)))) (.tup (.cons (.var 3) (.cons (.var 4) (.cons (.var 5) .nil)))) (.itm (.idx (.var 0) (.lit (.str (Str.ofString "steps"))))) .nil [3, 4, 5])) (.seq (.ret (.call 540 (.cons (.call 540 (.cons (.var 0) (.cons (.lit (.str (Str.ofString "box"))) (.cons (.bin .Mult (.idx (.var 0) (.lit (.str (Str.ofString "box")))) (.var 1)) .nil)))) (.cons (.lit (.str (Str.ofString "steps"))) (.cons (.var 2) .nil))))) .done))⟩
noncomputable abbrev n__law_finer : Nat := 560
noncomputable def Fx__law_are_worths_right : Fn := ⟨2, 7, false, (.seq (.asg (.var 2) (.make 28 (.cons (.bm .join (.lit (.str (Str.ofString "\n"))) (.cons (.lst (.cons (.lit (.str (Str.ofString "box 3"))) (.cons (.lit (.str (Str.ofString "bound 7"))) (.cons (.bin .Add (.lit (.str (Str.ofString "from 1 "))) (.bi .str (.cons (.var 0) .nil))) (.cons (.bin .Add (.lit (.str (Str.ofString "beyond 2 "))) (.bi .str (.cons (.var 1) .nil))) (.cons (.lit (.str (Str.ofString "from 3 0"))) .nil)))))) .nil)) .nil))) (.seq (.asg (.var 3) (.lst (.cons (.tup (.cons (.lit (.int 1)) (.cons (.lit (.int 3)) .nil))) (.cons (.tup (.cons (.lit (.int 999)) (.cons (.lit (.int 1000)) .nil))) (.cons (.tup (.cons (.lit (.int 1)) (.cons (.lit (.int 1)) .nil))) (.cons (.tup (.cons (.lit (.int 3)) (.cons (.lit (.int 2)) .nil))) (.cons (.tup (.cons (.lit (.int 2)) (.cons (.lit (.int 1)) .nil))) (.cons (.tup (.cons (.lit (.int 2001)) (.cons (.lit (.int 1000)) .nil))) (.cons (.tup (.cons (.lit (.int 5)) (.cons (.lit (.int 2)) .nil))) (.cons (.tup (.cons (.lit (.int 2999)) (.cons (.lit (.int 1000)) .nil))) (.cons (.tup (.cons (.lit (.int 3)) (.cons (.lit (.int 1)) .nil))) .nil))))))))))) (.seq (.ife (.cmp .NotEq (.comp (.meth (.var 2) 505 (.cons (.var 6) .nil)) (.var 6) (.itm (.var 3)) .nil [6]) (.lst (.cons (.lit (.int 0)) (.cons (.lit (.int 0)) (.cons (.var 0) (.cons (.var 0) (.cons (.var 0) (.cons (.var 1) (.cons (.var 1) (.cons (.var 1) (.cons (.lit (.int 0)) .nil))))))))))) (.seq (.ret (.lit (.bl false))) .done) .done) (.seq (.asg (.var 4) (.tup (.cons (.tup (.cons (.tup (.cons (.lit (.int 1)) (.cons (.lit (.int 1)) .nil))) (.cons (.lit (.int 2)) .nil))) (.cons (.tup (.cons (.tup (.cons (.lit (.int 5)) (.cons (.lit (.int 2)) .nil))) (.cons (.lit (.int 3)) .nil))) (.cons (.tup (.cons (.tup (.cons (.lit (.int 3)) (.cons (.lit (.int 1)) .nil))) (.cons (.lit (.int 9)) .nil))) .nil))))) (.seq (.asg (.var 5) (.bin .Add (.bin .Mult (.lit (.int 2)) (.var 0)) (.bin .Mult (.lit (.int 3)) (.var 1)))) (.seq (.ife (.or (.cons (.cmp .NotEq (.meth (.var 2) 506 (.cons (.var 4) .nil)) (.var 5)) (.cons (.cmp .NotEq (.meth (.var 2) 507 (.cons (.var 4) .nil)) (.bin .Add (.bin .FloorDiv (.var 5) (.lit (.int 7))) (.bi .int (.cons (.cmp .Gt (.bin .Mod (.var 5) (.lit (.int 7))) (.lit (.int 0))) .nil)))) (.cons (.cmp .NotEq (.call 28 (.cons (.var 4) .nil)) (.tup (.cons (.lit (.int 73)) (.cons (.lit (.int 2)) .nil)))) .nil)))) (.seq (.ret (.lit (.bl false))) .done) .done) (.seq (.ret (.and (.cons (.cmp .Eq (.meth (.var 2) 506 (.cons (.tup .nil) .nil)) (.lit (.int 0))) (.cons (.cmp .Eq (.meth (.var 2) 507 (.cons (.tup .nil) .nil)) (.lit (.int 0))) (.cons (.cmp .Eq (.call 28 (.cons (.tup (.cons (.tup (.cons (.tup (.cons (.lit (.int 1)) (.cons (.lit (.int 6)) .nil))) (.cons (.lit (.int 3)) .nil))) (.cons (.tup (.cons (.tup (.cons (.lit (.int 1)) (.cons (.lit (.int 3)) .nil))) (.cons (.lit (.int 3)) .nil))) .nil))) .nil)) (.tup (.cons (.lit (.int 3)) (.cons (.lit (.int 2)) .nil)))) .nil))))) .done)))))))⟩
noncomputable abbrev n__law_are_worths_right : Nat := 561
noncomputable def Fx__law_are_plain_right : Fn := ⟨1, 5, false, (.seq (.asg (.var 1) (.make 28 (.cons (.lit (.str (Str.ofString "box 4\nbound 3"))) .nil))) (.seq (.for (.var 2) (.itm (.tup (.cons (.lst (.cons (.lit (.str (Str.ofString "from 1 0"))) .nil)) (.cons (.lst (.cons (.lit (.str (Str.ofString "beyond 0 0"))) (.cons (.lit (.str (Str.ofString "from 2 0"))) (.cons (.lit (.str (Str.ofString "beyond 3 0"))) .nil)))) (.cons (.lst .nil) .nil))))) (.seq (.ife (.oeq true (.call 31 (.cons (.make 28 (.cons (.bm .join (.lit (.str (Str.ofString "\n"))) (.cons (.bin .Add (.lst (.cons (.lit (.str (Str.ofString "box 4"))) (.cons (.lit (.str (Str.ofString "bound 3"))) .nil))) (.var 2)) .nil)) .nil)) .nil)) (.var 1)) (.seq (.ret (.lit (.bl false))) .done) .done) .done)) (.seq (.asg (.var 3) (.bi .str (.cons (.var 0) .nil))) (.seq (.asg (.var 2) (.lst (.cons (.lit (.str (Str.ofString "box 4"))) (.cons (.lit (.str (Str.ofString "bound 3"))) (.cons (.bin .Add (.lit (.str (Str.ofString "from 1 "))) (.var 3)) (.cons (.bin .Add (.lit (.str (Str.ofString "beyond 1 "))) (.var 3)) (.cons (.bin .Add (.lit (.str (Str.ofString "from 2 "))) (.var 3)) .nil))))))) (.seq (.asg (.var 4) (.make 28 (.cons (.bm .join (.lit (.str (Str.ofString "\n"))) (.cons (.bin .Add (.var 2) (.lst (.cons (.lit (.str (Str.ofString "beyond 2 0"))) (.cons (.lit (.str (Str.ofString "from 4 0"))) .nil)))) .nil)) .nil))) (.seq (.ret (.cmp .Eq (.attr (.call 31 (.cons (.var 4) .nil)) 1) (.bin .Add (.bin .Add (.lit (.str (Str.ofString "box 4\nbound 3\nfrom 1 "))) (.var 3)) (.lit (.str (Str.ofString "\nbeyond 2 0")))))) .done))))))⟩
noncomputable abbrev n__law_are_plain_right : Nat := 562
noncomputable def Fx__law_are_made_right : Fn := ⟨0, 4, false, (.seq (.asg (.var 0) (.make 28 (.cons (.lit (.str (Str.ofString "box 2\nbound 2\nfrom 1 1\nbeyond 1 2"))) .nil))) (.seq (.ife (.or (.cons (.oeq true (.call 47 (.cons (.lit (.int 1)) .nil)) (.var 0)) (.cons (.oeq true (.call 50 (.cons (.var 0) (.cons (.var 0) .nil))) (.var 0)) .nil))) (.seq (.ret (.lit (.bl false))) .done) .done) (.seq (.ife (.cmp .NotEq (.slc (.attr (.call 47 (.cons (.lit (.int 3)) .nil)) 4) (.cons (.lit (.int 1)) .nil) (.cons (.lit (.int 3)) .nil)) (.tup (.cons (.tup (.cons (.lit (.str (Str.ofString "beyond"))) (.cons (.lit (.int 1)) (.cons (.lit (.int 4)) .nil)))) (.cons (.tup (.cons (.lit (.str (Str.ofString "from"))) (.cons (.lit (.int 2)) (.cons (.lit (.int 6)) .nil)))) .nil)))) (.seq (.ret (.lit (.bl false))) .done) .done) (.seq (.ife (.cmp .NotEq (.attr (.call 47 (.cons (.lit (.int 2)) .nil)) 1) (.lit (.str (Str.ofString "box 3\nbound 6\nfrom 1 2\nbeyond 1 3\nfrom 2 4\nbeyond 2 6")))) (.seq (.ret (.lit (.bl false))) .done) .done) (.seq (.asg (.var 1) (.make 28 (.cons (.lit (.str (Str.ofString "box 6\nbound 2\nbeyond 2 1\nbeyond 4 2"))) .nil))) (.seq (.ife (.cmp .NotEq (.attr (.call 50 (.cons (.var 1) (.cons (.var 0) .nil))) 1) (.lit (.str (Str.ofString "box 6\nbound 2\nbeyond 2 1\nbeyond 4 2")))) (.seq (.ret (.lit (.bl false))) .done) .done) (.seq (.asg (.var 2) (.make 28 (.cons (.lit (.str (Str.ofString "box 2\nbound 5\nfrom 2 5"))) .nil))) (.seq (.ife (.cmp .NotEq (.attr (.call 50 (.cons (.var 1) (.cons (.var 2) .nil))) 1) (.lit (.str (Str.ofString "box 6\nbound 5\nbeyond 4 5")))) (.seq (.ret (.lit (.bl false))) .done) .done) (.seq (.ife (.cmp .NotEq (.attr (.call 50 (.cons (.var 0) (.cons (.var 2) .nil))) 1) (.lit (.str (Str.ofString "box 2\nbound 5\nbeyond 1 5")))) (.seq (.ret (.lit (.bl false))) .done) .done) (.seq (.asg (.var 3) (.make 28 (.cons (.lit (.str (Str.ofString "box 3\nbound 2\nfrom 1 9\nfrom 2 0"))) .nil))) (.seq (.ife (.cmp .NotEq (.attr (.call 50 (.cons (.var 3) (.cons (.var 2) .nil))) 1) (.lit (.str (Str.ofString "box 3\nbound 5\nfrom 1 5\nfrom 2 0")))) (.seq (.ret (.lit (.bl false))) .done) .done) (.seq (.ret (.and (.cons (.cmp .Eq (.attr (.call 52 (.cons (.var 1) (.cons (.lit (.int 10)) .nil))) 1) (.lit (.str (Str.ofString "box 60\nbound 2\nbeyond 20 1\nbeyond 40 2")))) (.cons (.cmp .Eq (.attr (.meth (.var 0) 508 (.cons (.lit (.int 99)) .nil)) 3) (.lit (.int 198))) .nil)))) .done))))))))))))⟩
noncomputable abbrev n__law_are_made_right : Nat := 563
noncomputable abbrev n__law_filled : Nat := 566
noncomputable abbrev n__law_reckoned : Nat := 567
noncomputable def Fx__law_is_sound : Fn := ⟨1, 1, false, (.seq (.ret (.and (.cons (.not (.call 559 (.cons (.var 0) .nil))) (.cons (.cmp .LtE (.idx (.call 551 (.cons (.var 0) .nil)) (.neg (.lit (.int 1)))) (.idx (.var 0) (.lit (.str (Str.ofString "bound"))))) .nil)))) .done)⟩
noncomputable abbrev n__law_is_sound : Nat := 568
noncomputable abbrev n__law_is_table : Nat := 569
noncomputable abbrev n__law_does_hold : Nat := 570
noncomputable abbrev n__law_does_fit : Nat := 571
noncomputable abbrev n__law_does_break : Nat := 572
noncomputable def Fx__law_by : Fn := ⟨3, 3, false, (.seq (.ret (.make 28 (.cons (.bm .join (.lit (.str (Str.ofString "\n"))) (.cons (.bin .Add (.lst (.cons (.bin .Add (.lit (.str (Str.ofString "box "))) (.bi .str (.cons (.var 0) .nil))) (.cons (.bin .Add (.lit (.str (Str.ofString "bound "))) (.bi .str (.cons (.var 1) .nil))) .nil))) (.var 2)) .nil)) .nil))) .done)⟩
noncomputable abbrev n__law_by : Nat := 578
noncomputable def Fx__law_whole_most : Fn := ⟨1, 5, false, (.seq (.asg (.var 1) (.lst (.cons (.lit (.int 0)) .nil))) (.seq (.for (.var 2) (.range (.cons (.lit (.int 1)) (.cons (.bin .Add (.idx (.var 0) (.lit (.str (Str.ofString "box")))) (.lit (.int 1))) .nil))) (.seq (.asg (.var 3) (.idx (.var 1) (.bin .Sub (.var 2) (.lit (.int 1))))) (.seq (.for (.var 4) (.range (.cons (.lit (.int 1)) (.cons (.bin .Add (.var 2) (.lit (.int 1))) .nil))) (.seq (.asg (.var 3) (.bi .max (.cons (.bi .int (.cons (.var 3) .nil)) (.cons (.bi .int (.cons (.bin .Add (.idx (.var 1) (.bin .Sub (.var 2) (.var 4))) (.call 545 (.cons (.var 0) (.cons (.tup (.cons (.var 4) (.cons (.lit (.int 1)) .nil))) .nil)))) .nil)) .nil)))) .done)) (.seq (.app 1 (.var 3)) .done)))) (.seq (.ret (.var 1)) .done)))⟩
noncomputable abbrev n__law_whole_most : Nat := 590
noncomputable def Fx_shows_greatest : Fn := ⟨2, 6, false, (.seq (.asg (.var 2) (.call 41 (.cons (.var 0) .nil))) (.seq (.ife (.cmp .Eq (.var 1) (.tup (.cons (.lit (.str (Str.ofString "greatest"))) .nil))) (.seq (.ret (.cmp .Eq (.call 49 (.cons (.var 0) (.cons (.var 2) .nil))) (.var 1))) .done) .done) (.seq (.ife (.or (.cons (.not (.isi 3 (.var 1))) (.cons (.cmp .NotEq (.bi .len (.cons (.var 1) .nil)) (.lit (.int 3))) (.cons (.cmp .NotEq (.idx (.var 1) (.lit (.int 0))) (.lit (.str (Str.ofString "room")))) .nil)))) (.seq (.ret (.lit (.bl false))) .done) .done) (.seq (.asg (.tup (.cons (.var 3) (.cons (.var 4) (.cons (.var 5) .nil)))) (.var 1)) (.seq (.ife (.or (.cons (.not (.call 6 (.cons (.var 4) (.cons (.attr (.var 0) 2) .nil)))) (.cons (.not (.call 4 (.cons (.var 5) .nil))) .nil))) (.seq (.ret (.lit (.bl false))) .done) .done) (.seq (.ret (.and (.cons (.cmp .Gt (.idx (.var 5) (.lit (.int 0))) (.bin .Mult (.meth (.var 0) 505 (.cons (.var 4) .nil)) (.idx (.var 5) (.lit (.int 1))))) (.cons (.call 54 (.cons (.attr (.var 0) 3) (.cons (.var 2) (.cons (.var 4) (.cons (.var 5) .nil))))) .nil)))) .done))))))⟩
noncomputable abbrev n_shows_greatest : Nat := 53
noncomputable def Fx_has_room : Fn := ⟨4, 6, false, (.seq (.for (.var 4) (.range (.cons (.bi .len (.cons (.var 1) .nil)) .nil)) (.seq (.asg (.var 5) (.bin .FloorDiv (.bin .Sub (.bin .Mult (.call 55 (.cons (.var 1) (.cons (.var 4) .nil))) (.idx (.var 2) (.lit (.int 1)))) (.bin .BitAnd (.var 4) (.lit (.int 1)))) (.idx (.var 2) (.lit (.int 0))))) (.seq (.ife (.cmp .Gt (.bin .Add (.bin .Mult (.var 5) (.idx (.var 3) (.lit (.int 0)))) (.bin .Mult (.idx (.var 1) (.var 4)) (.idx (.var 3) (.lit (.int 1))))) (.bin .Mult (.var 0) (.idx (.var 3) (.lit (.int 1))))) (.seq (.ret (.lit (.bl false))) .done) .done) .done))) (.seq (.ret (.lit (.bl true))) .done))⟩
noncomputable abbrev n_has_room : Nat := 54
noncomputable def Fx_room_beside : Fn := ⟨2, 2, false, (.seq (.ret (.bin .Sub (.bin .FloorDiv (.bi .len (.cons (.var 0) .nil)) (.lit (.int 2))) (.bin .FloorDiv (.var 1) (.lit (.int 2))))) .done)⟩
noncomputable abbrev n_room_beside : Nat := 55
noncomputable def Fx__law_worths : Fn := ⟨1, 2, false, (.seq (.ret (.comp (.call 544 (.cons (.var 0) (.cons (.var 1) .nil))) (.var 1) (.range (.cons (.bin .Add (.bin .Mult (.lit (.int 2)) (.idx (.var 0) (.lit (.str (Str.ofString "box"))))) (.lit (.int 1))) .nil)) .nil [1])) .done)⟩
noncomputable abbrev n__law_worths : Nat := 597
noncomputable def Fx__law_is_best : Fn := ⟨3, 8, false, (.seq (.asg (.var 3) (.bin .Mult (.lit (.int 2)) (.var 0))) (.seq (.ife (.bi .any (.cons (.comp (.cmp .Gt (.var 4) (.var 5)) (.tup (.cons (.var 4) (.cons (.var 5) .nil))) (.zip (.var 2) (.slc (.var 2) (.cons (.lit (.int 1)) .nil) .nil)) .nil [4, 5]) .nil)) (.seq (.ret (.lit (.bl false))) .done) .done) (.seq (.ife (.bi .any (.cons (.comp (.cmp .NotEq (.bin .Add (.idx (.var 2) (.var 7)) (.idx (.var 2) (.bin .Sub (.var 3) (.var 7)))) (.var 1)) (.var 7) (.range (.cons (.bin .Add (.var 3) (.lit (.int 1))) .nil)) .nil [7]) .nil)) (.seq (.ret (.lit (.bl false))) .done) .done) (.seq (.for (.var 4) (.range (.cons (.lit (.int 1)) (.cons (.bin .Add (.var 3) (.lit (.int 1))) .nil))) (.seq (.for (.var 5) (.range (.cons (.lit (.int 1)) (.cons (.bin .Add (.var 4) (.lit (.int 1))) .nil))) (.seq (.asg (.var 6) (.call 550 (.cons (.var 4) (.cons (.var 5) .nil)))) (.seq (.ife (.and (.cons (.cmp .LtE (.var 6) (.var 3)) (.cons (.cmp .Gt (.bin .Add (.idx (.var 2) (.var 4)) (.idx (.var 2) (.var 5))) (.idx (.var 2) (.var 6))) .nil))) (.seq (.ret (.lit (.bl false))) .done) .done) .done))) .done)) (.seq (.ret (.lit (.bl true))) .done)))))⟩
noncomputable abbrev n__law_is_best : Nat := 598
noncomputable def Fx__law_is_greatest : Fn := ⟨1, 1, false, (.seq (.ret (.call 598 (.cons (.idx (.var 0) (.lit (.str (Str.ofString "box")))) (.cons (.idx (.var 0) (.lit (.str (Str.ofString "bound")))) (.cons (.call 597 (.cons (.var 0) .nil)) .nil))))) .done)⟩
noncomputable abbrev n__law_is_greatest : Nat := 599
noncomputable def Fx__law_most_times : Fn := ⟨3, 4, false, (.seq (.asg (.var 3) (.bin .Sub (.bin .Mult (.var 0) (.idx (.var 1) (.lit (.int 1)))) (.bi .int (.cons (.var 2) .nil)))) (.seq (.ret (.bin .FloorDiv (.var 3) (.idx (.var 1) (.lit (.int 0))))) .done))⟩
noncomputable abbrev n__law_most_times : Nat := 600
noncomputable def Fx__law_has_room : Fn := ⟨3, 7, false, (.seq (.for (.tup (.cons (.var 3) (.cons (.var 4) .nil))) (.enum (.ife (.cmp .In (.lit (.str (Str.ofString "table"))) (.var 0)) (.idx (.var 0) (.lit (.str (Str.ofString "table")))) (.call 551 (.cons (.var 0) .nil)))) (.seq (.asg (.var 5) (.call 600 (.cons (.bin .Sub (.idx (.var 0) (.lit (.str (Str.ofString "box")))) (.bin .FloorDiv (.var 3) (.lit (.int 2)))) (.cons (.var 1) (.cons (.cmp .Eq (.bin .Mod (.var 3) (.lit (.int 2))) (.lit (.int 1))) .nil))))) (.seq (.asg (.var 6) (.tup (.cons (.bin .Add (.bin .Mult (.var 5) (.idx (.var 2) (.lit (.int 0)))) (.bin .Mult (.var 4) (.idx (.var 2) (.lit (.int 1))))) (.cons (.idx (.var 2) (.lit (.int 1))) .nil)))) (.seq (.ife (.and (.cons (.cmp .Gt (.var 5) (.lit (.int 0))) (.cons (.not (.call 602 (.cons (.var 6) (.cons (.idx (.var 0) (.lit (.str (Str.ofString "bound")))) .nil)))) .nil))) (.seq (.ret (.lit (.bl false))) .done) .done) .done)))) (.seq (.ret (.lit (.bl true))) .done))⟩
noncomputable abbrev n__law_has_room : Nat := 601
noncomputable def Fx__law_is_no_more : Fn := ⟨2, 2, false, (.seq (.ret (.cmp .LtE (.idx (.var 0) (.lit (.int 0))) (.bin .Mult (.var 1) (.idx (.var 0) (.lit (.int 1)))))) .done)⟩
noncomputable abbrev n__law_is_no_more : Nat := 602
noncomputable abbrev n__law_is_room : Nat := 603
noncomputable abbrev n__law_a_best_one : Nat := 604
noncomputable abbrev n__law_lessened : Nat := 605
noncomputable def Fx__law_text_by : Fn := ⟨3, 5, false, (.seq (.asg (.var 3) (.lst .nil)) (.seq (.for (.var 4) (.range (.cons (.lit (.int 1)) (.cons (.bin .Add (.bin .Mult (.lit (.int 2)) (.var 0)) (.lit (.int 1))) .nil))) (.seq (.ife (.cmp .NotEq (.idx (.var 2) (.var 4)) (.idx (.var 2) (.bin .Sub (.var 4) (.lit (.int 1))))) (.seq (.app 3 (.tup (.cons (.idx (.lst (.cons (.lit (.str (Str.ofString "from"))) (.cons (.lit (.str (Str.ofString "beyond"))) .nil))) (.bin .Mod (.var 4) (.lit (.int 2)))) (.cons (.bin .FloorDiv (.var 4) (.lit (.int 2))) (.cons (.idx (.var 2) (.var 4)) .nil))))) .done) .done) .done)) (.seq (.ret (.call 511 (.cons (.dic (.cons (.lit (.str (Str.ofString "box"))) (.cons (.lit (.str (Str.ofString "bound"))) (.cons (.lit (.str (Str.ofString "steps"))) .nil))) (.cons (.var 0) (.cons (.var 1) (.cons (.var 3) .nil)))) .nil))) .done)))⟩
noncomputable abbrev n__law_text_by : Nat := 609
noncomputable def Fx__law_lore_of : Fn := ⟨1, 4, false, (.seq (.asg (.var 1) (.comp (.bm .split (.var 3) (.cons (.lit (.str (Str.ofString " "))) .nil)) (.var 3) (.itm (.bm .split (.var 0) (.cons (.lit (.str (Str.ofString "\n"))) .nil))) .nil [3])) (.seq (.ife (.or (.cons (.cmp .NotEq (.comp (.idx (.var 3) (.lit (.int 0))) (.var 3) (.itm (.slc (.var 1) .nil (.cons (.lit (.int 2)) .nil))) .nil [3]) (.lst (.cons (.lit (.str (Str.ofString "box"))) (.cons (.lit (.str (Str.ofString "bound"))) .nil)))) (.cons (.cmp .NotEq (.comp (.bi .len (.cons (.var 3) .nil)) (.var 3) (.itm (.slc (.var 1) .nil (.cons (.lit (.int 2)) .nil))) .nil [3]) (.lst (.cons (.lit (.int 2)) (.cons (.lit (.int 2)) .nil)))) .nil))) (.seq (.ret (.lit .non)) .done) .done) (.seq (.ife (.not (.bi .all (.cons (.comp (.and (.cons (.cmp .Eq (.bi .len (.cons (.var 3) .nil)) (.lit (.int 3))) (.cons (.cmp .In (.idx (.var 3) (.lit (.int 0))) (.tup (.cons (.lit (.str (Str.ofString "from"))) (.cons (.lit (.str (Str.ofString "beyond"))) .nil)))) .nil))) (.var 3) (.itm (.slc (.var 1) (.cons (.lit (.int 2)) .nil) .nil)) .nil [3]) .nil))) (.seq (.ret (.lit .non)) .done) .done) (.seq (.asg (.var 2) (.comp (.tup (.cons (.idx (.var 3) (.lit (.int 0))) (.cons (.bi .int (.cons (.idx (.var 3) (.lit (.int 1))) .nil)) (.cons (.bi .int (.cons (.idx (.var 3) (.lit (.int 2))) .nil)) .nil)))) (.var 3) (.itm (.slc (.var 1) (.cons (.lit (.int 2)) .nil) .nil)) .nil [3])) (.seq (.ret (.dic (.cons (.lit (.str (Str.ofString "box"))) (.cons (.lit (.str (Str.ofString "bound"))) (.cons (.lit (.str (Str.ofString "steps"))) .nil))) (.cons (.bi .int (.cons (.idx (.idx (.var 1) (.lit (.int 0))) (.lit (.int 1))) .nil)) (.cons (.bi .int (.cons (.idx (.idx (.var 1) (.lit (.int 1))) (.lit (.int 1))) .nil)) (.cons (.var 2) .nil))))) .done)))))⟩
noncomputable abbrev n__law_lore_of : Nat := 616
noncomputable def Fx_surplus : Fn := ⟨3, 3, false, (.seq (.ret (.bin .Sub (.bin .Mult (.idx (.attr (.var 0) 5) (.var 2)) (.attr (.var 1) 3)) (.bin .Mult (.idx (.attr (.var 1) 5) (.var 2)) (.attr (.var 0) 3)))) .done)⟩
noncomputable abbrev n_surplus : Nat := 83
noncomputable def Fx_spaces_of : Fn := ⟨1, 1, false, (.seq (.ret (.lrg (.cons (.lit (.int 1)) (.cons (.bin .Add (.bin .Mult (.lit (.int 2)) (.attr (.var 0) 2)) (.lit (.int 1))) .nil)))) .done)⟩
noncomputable abbrev n_spaces_of : Nat := 84
noncomputable def Fx_check_other : Fn := ⟨2, 2, false, (.seq (.ife (.or (.cons (.not (.isc 28 (.var 1))) (.cons (.cmp .NotEq (.attr (.var 1) 2) (.attr (.var 0) 2)) .nil))) (.seq .nope .done) .done) .done)⟩
noncomputable abbrev n_check_other : Nat := 85
noncomputable def Fx_within : Fn := ⟨2, 4, false, (.seq (.expr (.call 85 (.cons (.var 0) (.cons (.var 1) .nil)))) (.seq (.for (.var 2) (.itm (.call 84 (.cons (.var 0) .nil))) (.seq (.asg (.var 3) (.call 83 (.cons (.var 0) (.cons (.var 1) (.cons (.var 2) .nil))))) (.seq (.ife (.cmp .Gt (.var 3) (.lit (.int 0))) (.seq (.ret (.tup (.cons (.lit (.str (Str.ofString "more"))) (.cons (.tup (.cons (.tup (.cons (.call 32 (.cons (.var 2) .nil)) (.cons (.call 89 (.cons (.var 0) (.cons (.var 1) (.cons (.var 3) .nil)))) .nil))) .nil)) .nil)))) .done) .done) .done))) (.seq (.ret (.tup (.cons (.lit (.str (Str.ofString "within"))) .nil))) .done)))⟩
noncomputable abbrev n_within : Nat := 86
noncomputable def Fx_times_for_one : Fn := ⟨3, 3, false, (.seq (.ret (.neg (.bin .FloorDiv (.bin .Mult (.neg (.attr (.var 0) 3)) (.attr (.var 1) 3)) (.var 2)))) .done)⟩
noncomputable abbrev n_times_for_one : Nat := 89
noncomputable def Fx__law_rule_in : Fn := ⟨3, 9, true, (.seq (.asg (.var 3) (.lrg (.cons (.bin .Sub (.lit (.int 2)) (.bi .int (.cons (.cmp .Eq (.call 501 (.cons (.var 0) (.cons (.lit (.int 9)) .nil))) (.lit (.int 0))) .nil))) (.cons (.bin .Add (.bin .Mult (.lit (.int 2)) (.var 1)) (.lit (.int 1))) .nil)))) (.seq (.asg (.var 3) (.bi .sorted (.cons (.call 510 (.cons (.var 0) (.cons (.var 3) (.cons (.bi .min (.cons (.bi .len (.cons (.var 3) .nil)) (.cons (.call 501 (.cons (.var 0) (.cons (.bin .Add (.var 2) (.lit (.int 1))) .nil))) .nil))) .nil)))) .nil))) (.seq (.par [5, 6, 7, 8] (.cons (.lit (.int 0)) (.cons (.lst .nil) (.cons (.call 502 (.cons (.var 0) (.cons (.lst (.cons (.lit (.int 1)) (.cons (.lit (.int 2)) (.cons (.lit (.int 3)) (.cons (.lit (.int 9)) (.cons (.lit (.int 1000)) (.cons (.bin .Pow (.lit (.int 10)) (.lit (.int 6))) .nil))))))) .nil))) (.cons (.call 501 (.cons (.var 0) (.cons (.lit (.int 4)) .nil))) .nil))))) (.seq (.for (.var 4) (.itm (.var 3)) (.seq (.asg (.var 5) (.ife (.cmp .Lt (.var 8) (.lit (.int 3))) (.bin .Add (.var 5) (.call 501 (.cons (.var 0) (.cons (.bin .Add (.var 7) (.lit (.int 1))) .nil)))) (.call 501 (.cons (.var 0) (.cons (.bin .Add (.bin .Mult (.lit (.int 2)) (.var 7)) (.lit (.int 1))) .nil))))) (.seq (.app 6 (.tup (.cons (.idx (.lst (.cons (.lit (.str (Str.ofString "from"))) (.cons (.lit (.str (Str.ofString "beyond"))) .nil))) (.bin .Mod (.var 4) (.lit (.int 2)))) (.cons (.bin .FloorDiv (.var 4) (.lit (.int 2))) (.cons (.var 5) .nil))))) .done))) (.seq (.ret (.dic (.cons (.lit (.str (Str.ofString "box"))) (.cons (.lit (.str (Str.ofString "bound"))) (.cons (.lit (.str (Str.ofString "steps"))) .nil))) (.cons (.var 1) (.cons (.bin .Add (.lit (.int 1)) (.call 501 (.cons (.var 0) (.cons (.bi .max (.cons (.lit (.int 1)) (.cons (.bin .Mult (.lit (.int 2)) (.var 5)) .nil))) .nil)))) (.cons (.var 6) .nil))))) .done)))))⟩
noncomputable abbrev n__law_rule_in : Nat := 634
noncomputable def Fx__law_sound_in : Fn := ⟨3, 5, true, (.seq (.ife (.and (.cons (.cmp .Gt (.var 1) (.lit (.int 1))) (.cons (.cmp .Eq (.call 501 (.cons (.var 0) (.cons (.lit (.int 5)) .nil))) (.lit (.int 0))) .nil))) (.seq (.ret (.call 514 (.cons (.bin .Sub (.var 1) (.lit (.int 1))) .nil))) .done) .done) (.seq (.asg (.var 3) (.call 634 (.cons (.var 0) (.cons (.var 1) (.cons (.var 2) .nil))))) (.seq (.asg (.var 3) (.call 540 (.cons (.var 3) (.cons (.lit (.str (Str.ofString "steps"))) (.cons (.comp (.var 4) (.var 4) (.itm (.idx (.var 3) (.lit (.str (Str.ofString "steps"))))) (.cons (.cmp .Gt (.call 517 (.cons (.var 4) .nil)) (.lit (.int 1))) .nil) [4]) .nil))))) (.seq (.ret (.call 540 (.cons (.var 3) (.cons (.lit (.str (Str.ofString "bound"))) (.cons (.bin .Add (.bi .max (.cons (.lit (.int 1)) (.cons (.bi .int (.cons (.idx (.call 551 (.cons (.var 3) .nil)) (.neg (.lit (.int 1)))) .nil)) .nil))) (.call 502 (.cons (.var 0) (.cons (.lst (.cons (.lit (.int 0)) (.cons (.lit (.int 0)) (.cons (.lit (.int 0)) (.cons (.lit (.int 1)) (.cons (.lit (.int 5)) .nil)))))) .nil)))) .nil))))) .done))))⟩
noncomputable abbrev n__law_sound_in : Nat := 650
noncomputable def Fx__law_fills : Fn := ⟨1, 5, false, (.seq (.asg (.var 1) (.bin .Add (.lst (.cons (.lit (.int 0)) .nil)) (.comp (.call 545 (.cons (.var 0) (.cons (.call 525 (.cons (.var 4) (.cons (.lit (.int 24)) .nil))) .nil))) (.var 4) (.range (.cons (.lit (.int 1)) (.cons (.bin .Add (.bin .Mult (.lit (.int 24)) (.idx (.var 0) (.lit (.str (Str.ofString "box"))))) (.lit (.int 1))) .nil))) .nil [4]))) (.seq (.asg (.var 2) (.lst (.cons (.lit (.int 0)) .nil))) (.seq (.for (.var 3) (.range (.cons (.lit (.int 1)) (.cons (.bi .len (.cons (.var 1) .nil)) .nil))) (.seq (.app 2 (.bi .max (.cons (.comp (.bi .int (.cons (.bin .Add (.idx (.var 2) (.bin .Sub (.var 3) (.var 4))) (.idx (.var 1) (.var 4))) .nil)) (.var 4) (.range (.cons (.lit (.int 1)) (.cons (.bin .Add (.var 3) (.lit (.int 1))) .nil))) .nil [4]) .nil))) .done)) (.seq (.ret (.var 2)) .done))))⟩
noncomputable abbrev n__law_fills : Nat := 668
noncomputable def Fx__law_numbered : Fn := ⟨3, 6, false, (.seq (.par [4, 5] (.cons (.lst (.cons (.lit (.int 0)) .nil)) (.cons (.var 2) .nil))) (.seq (.for (.var 3) (.range (.cons (.bin .Mult (.lit (.int 2)) (.var 0)) .nil)) (.seq (.app 4 (.bin .Mod (.var 5) (.lit (.int 4)))) (.seq (.asg (.var 5) (.bin .FloorDiv (.var 5) (.lit (.int 4)))) .done))) (.seq (.ret (.dic (.cons (.lit (.str (Str.ofString "box"))) (.cons (.lit (.str (Str.ofString "bound"))) (.cons (.lit (.str (Str.ofString "steps"))) .nil))) (.cons (.var 0) (.cons (.var 1) (.cons (.idx (.call 616 (.cons (.call 609 (.cons (.var 0) (.cons (.var 1) (.cons (.var 4) .nil)))) .nil)) (.lit (.str (Str.ofString "steps")))) .nil))))) .done)))⟩
noncomputable abbrev n__law_numbered : Nat := 669
end Mini

set_option linter.all false
set_option Elab.async false
set_option maxRecDepth 100000
set_option maxHeartbeats 1000000
local macro_rules | `(tactic| simp_arith [$a,*]) => `(tactic| simp -implicitDefEqProofs only [Mini.q_var, Mini.atS_im, Mini.atS_mu, Mini.atS_lk, Mini.atS_io, Mini.q_lit, Mini.q_bin, Mini.q_neg, Mini.q_not, Mini.q_cmp, Mini.q_cmp2, Mini.q_and, Mini.q_or, Mini.q_ife, Mini.q_tup, Mini.q_lst, Mini.q_idx, Mini.q_slc, Mini.attrD_ins, Mini.q_attr, Mini.q_bi, Mini.q_lrg, Mini.strD_str, Mini.q_bm, Mini.q_isi, Mini.q_isc, Mini.q_tyi, Mini.q_fstr, Mini.q_dcall, Mini.q_callD, Mini.q_meth, Mini.q_oeq, Mini.q_comp, Mini.q_lset, Mini.q_compF, Mini.q_nilW, Mini.q_consW, Mini.q_nilO, Mini.q_consO, Mini.q_nilP, Mini.intD_int, Mini.q_oneP, Mini.q_and1, Mini.q_and2, Mini.q_or1, Mini.q_or2, Mini.q_nilC, Mini.q_consC, Mini.q_range, Mini.q_itm, Mini.q_nilJ, Mini.q_fmtJ, Mini.q_litJ, Mini.tst_ok, Mini.tst_bad, Mini.val_ok, Mini.val_bad, Mini.rd_v, Mini.rd_r, Mini.slotD_mu, Mini.slotD_lk, Mini.slotD_io, Mini.fz_v, Mini.fz_r, Mini.fzS_mu, Mini.asD_ok, Mini.asB_ok, Mini.asV_ok, Mini.asD_bad, Mini.asB_bad, Mini.asV_bad, Mini.rds_nil, Mini.rds_cons, Mini.callX_r, Mini.callX_new, Mini.x_seq, Mini.thenS_nx, Mini.thenS_ret, Mini.thenS_brk, Mini.thenS_ct, Mini.x_done, Mini.x_pass, Mini.x_brk, Mini.x_ct, Mini.x_retn, Mini.x_asg, Mini.x_asgT, Mini.x_par, Mini.x_ife, Mini.x_expr, Mini.x_retv, Mini.retS_mu, Mini.retS_im, Mini.r_lit, Mini.r_bin, Mini.r_neg, Mini.r_not, Mini.r_cmp, Mini.r_cmp2, Mini.r_and, Mini.r_or, Mini.r_ife, Mini.r_tup, Mini.r_lst, Mini.r_idx, Mini.r_slc, Mini.r_attr, Mini.r_call, Mini.r_make, Mini.r_meth, Mini.r_bi, Mini.r_bm, Mini.r_isi, Mini.r_pop, Mini.r_comp, Mini.r_lrg, Mini.r_tyi, Mini.r_isc, Mini.r_fstr, Mini.r_lset, Mini.r_oeq, Mini.endF_nx, Mini.endF_ret, Mini.turn_eq, Mini.x_for, Mini.forLoop_nil, Mini.compLoop_nil, Mini.unlock_v, Mini.unlock_r, Mini.unlO_lk, Mini.walked_vl, Mini.walked_vt, Mini.x_whl, Mini.x_app, Mini.x_ext, Mini.x_seti, Mini.x_augi, Mini.x_seta, Mini.x_aug, Mini.augS_im, Mini.putS_eq, Mini.putSs_nil, Mini.putSs_cons, Mini.putT_var, Mini.putV_no, Mini.putV_im, Mini.putV_mu, Mini.putT_tup, Mini.putTs_nil, Mini.putTs_cons, Mini.upS_eq, Mini.upO_mu, Mini.upO_io, Mini.isL_eq, Mini.lstO_mu, Mini.lstO_io, Mini.ends_ret, Mini.ends_nx, Mini.back_nil, Mini.back_im, Mini.back_io, Mini.set_cons_zero, Mini.binop_add, Mini.binop_sub, Mini.deq_int, Mini.cmp_eq, Mini.cmp_ne, Mini.cmp_lt, Mini.cmp_le, Mini.cmp_gt, Mini.cmp_ge, Mini.tr_bl, Mini.tr_int, Mini.tr_lst, Mini.tr_tup, Mini.stO_t, Mini.stO_f, Mini.stO_no, Mini.stO_im, Mini.stO_mu, Mini.frs_im, Mini.putV_fr, Mini.putO_fr, Mini.freeS_nil, Mini.freeS_cons, Mini.frO_no, Mini.frO_im, Mini.frO_fr, Mini.wipeS_nil, Mini.wipeS_cons, Mini.backS_nil, Mini.backS_cons, Mini.walked_0, Mini.walked_1, Mini.walked_2, Mini.walked_3, Mini.walked_4, Mini.walked_5, Mini.walked_6, Mini.walked_7, Mini.walked_8, Mini.walked_9, Mini.walked_10, Mini.walked_11, Mini.walked_12, Mini.walked_13, Mini.q_dic, Mini.q_dntT, Mini.q_dntF, Mini.q_itl, Mini.q_dcp, Mini.q_srs, Mini.q_rev, Mini.q_lsn, Mini.lsnD_lst, Mini.r_lsn, Mini.r_dic, Mini.r_dcp, Mini.r_itl, Mini.r_srs, Mini.r_rev, Mini.litKs_nil, Mini.litKs_cons, Mini.x_setd, Mini.isDc_eq, Mini.dctO_mu, Mini.dctO_mt, Mini.q_popx, Mini.popD_eq, Mini.popO_mu, Mini.q_enum, Mini.q_zip, Mini.q_lss, Mini.q_stp, Mini.q_nilS, Mini.q_starS, Mini.q_litS, Mini.q_varS, Mini.q_binS, Mini.q_negS, Mini.seqD_lst, Mini.seqD_tup, Mini.stpD_tup, Mini.zipD_lst, Mini.zipD_tup, Mini.R.bind_ok, Mini.R.bind_bad, Mini.R.bind_err, Mini.R.of_some, Mini.R.guard_true, Mini.R.guard_false, List.getElem?_cons_zero, List.getElem?_cons_succ, List.set_cons_zero, List.set_cons_succ, List.map_cons, List.map_nil, List.replicate, List.cons_append, List.nil_append, List.append_nil, List.length_cons, List.length_nil, Nat.zero_add, Nat.reduceAdd, Nat.reduceSub, if_true, if_false, Bool.false_eq_true, reduceIte, Bool.not_true, Bool.not_false, Mini.isObj, Option.getD_some, Bool.and_true, Bool.and_false, Bool.true_and, Bool.false_and, Mini.builtin, Mini.bmth, $a,*])
namespace Mini
open PySem
/-- values without dicts, own objects -/
noncomputable def plainD : D → Bool | .non => true | .bl _ => true | .int _ => true | .str _ => true | .tup _ => true | .lst _ => true | _ => false
noncomputable def pairD : D → Bool | .tup [_, _] => true | _ => false
theorem isInst_tup (l : List D) : isInst 3 (.tup l) = .ok true := rfl
theorem isInst_no {d : D} (h : plainD d = true) (n : ∀ l, d ≠ .tup l) : isInst 3 d = .ok false := by
  cases d <;> first | rfl | (cases h; done) | exact absurd rfl (n _)
theorem biLen_tup (l : List D) : biLen [.tup l] = .ok (.int l.length, false) := rfl
theorem biLen_lst (l : List D) : biLen [.lst l] = .ok (.int l.length, false) := rfl
theorem e_is_pair {P : Pr} {n : Nat} (h : P.fn n_is_pair = some Fx_is_pair) {d : D} (hd : plainD d = true) : evF P (n + 1) n_is_pair [.im d] = .ok (.bl (pairD d), false, [.im d]) := by
  rw [evF_succ h]
  by_cases ht : ∃ l, d = .tup l
  · obtain ⟨l, rfl⟩ := ht
    simp_arith [Fx_is_pair, isInst_tup, biLen_tup]
    rcases l with _ | ⟨a, _ | ⟨b, _ | ⟨c, l⟩⟩⟩ <;> simp [pairD]
    try omega
  · have hn : ∀ l, d ≠ .tup l := fun l e => ht ⟨l, e⟩
    have e : pairD d = false := by cases d <;> first | rfl | exact absurd rfl (hn _)
    simp_arith [Fx_is_pair, isInst_no hd hn, e]
end Mini

set_option linter.all false
set_option Elab.async false
set_option maxRecDepth 100000
set_option maxHeartbeats 1000000
namespace Mini
open PySem
theorem cb_call (P : Pr) (n f : Nat) (as : List Slot) : (cbOf P n).call f as = evF P n f as := rfl
theorem cb_io {P : Pr} {n f : Nat} {F : Fn} (h : P.fn f = some F) : (cbOf P n).io f = F.io := by
  show ((P.fn f).map (·.io)).getD false = _
  rw [h]
  rfl
theorem tyi_int (i : Int) : isIntT (.int i) = .ok true := rfl
theorem biGcd_int (i j : Int) : biGcd [.int i, .int j] = .ok (.int (Int.gcd i j), false) := rfl
/-! ### numbers -/
noncomputable def IsNum (a b : Int) : Prop := 0 ≤ a ∧ 0 < b ∧ Int.gcd a b = 1
theorem e_is_number {P : Pr} {n : Nat} (h0 : P.fn n_is_pair = some Fx_is_pair) (h : P.fn n_is_number = some Fx_is_number) {a b : Int} (hn : IsNum a b) : evF P (n + 2) n_is_number [.im (.tup [.int a, .int b])] = .ok (.bl true, false, [.im (.tup [.int a, .int b])]) := by
  rw [evF_succ h]
  obtain ⟨h1, h2, h3⟩ := hn
  have e1 := e_is_pair (n := n) h0 (d := .tup [.int a, .int b]) rfl
  simp_arith [Fx_is_number, q_call _ (cb_io h0), Fx_is_pair, cb_call, e1, pairD, tyi_int, decide_eq_true h1, decide_eq_true h2, biGcd_int, h3, Int.natCast_one, decide_true]
end Mini

set_option linter.all false
set_option Elab.async false
set_option maxRecDepth 100000
set_option maxHeartbeats 1000000
namespace Mini
open PySem
structure HNum (P : Pr) : Prop where
  is_whole : P.fn n_is_whole = some Fx_is_whole
  is_pair : P.fn n_is_pair = some Fx_is_pair
  is_number : P.fn n_is_number = some Fx_is_number
  is_size : P.fn n_is_size = some Fx_is_size
/-- an integer of at most k bits -/
noncomputable def Bd (k : Nat) (i : Int) : Prop := i.natAbs < 2 ^ k
theorem Bd.log {k : Nat} {i : Int} (h : Bd k i) (hk : 0 < k) : i.natAbs.log2 < k := by
  by_cases z : i.natAbs = 0
  · rw [z]; simpa using hk
  · exact (Nat.log2_lt z).mpr h
theorem Bd.mul {k l : Nat} {i j : Int} (h : Bd k i) (g : Bd l j) : Bd (k + l) (i * j) := by
  unfold Bd at *
  rw [Int.natAbs_mul, Nat.pow_add]
  exact Nat.mul_lt_mul'' h g
theorem Bd.mono {k l : Nat} {i : Int} (h : Bd k i) (hk : k ≤ l) : Bd l i := Nat.lt_of_lt_of_le h (Nat.pow_le_pow_right (by decide) hk)
theorem Bd.add {k : Nat} {i j : Int} (h : Bd k i) (g : Bd k j) : Bd (k + 1) (i + j) := by
  unfold Bd at *
  rw [Nat.pow_succ]
  omega
theorem Bd.le {k : Nat} {i j : Int} (h : Bd k j) (h0 : 0 ≤ i) (hi : i ≤ j) : Bd k i := by
  unfold Bd at *
  omega
theorem Bd.of {k : Nat} {i : Int} (h0 : 0 ≤ i) (h : i < 2 ^ k) : Bd k i := by
  unfold Bd
  have e : ((2 ^ k : Nat) : Int) = (2 : Int) ^ k := by simp
  omega
theorem mul_ok {k l : Nat} {i j : Int} (h : Bd k i) (g : Bd l j) (hk : 0 < k) (hl : 0 < l) (hs : k + l ≤ 1000000) : binop .Mult (.int i) (.int j) = .ok (.int (i * j), false) := binop_mul (by have := h.log hk; have := g.log hl; omega)
/-- a size -/
noncomputable def sz (a b : Int) : D := .tup [.int a, .int b]
theorem item0 (a b : D) : item (.tup [a, b]) (.int 0) = .ok a := rfl
theorem item1 (a b : D) : item (.tup [a, b]) (.int 1) = .ok b := rfl
section
variable {P : Pr} {n : Nat} (H : HNum P)
include H
theorem e_is_size {a b : Int} (hn : IsNum a b) (ha : 0 < a) : evF P (n + 3) n_is_size [.im (sz a b)] = .ok (.bl true, false, [.im (sz a b)]) := by
  rw [evF_succ H.is_size]
  have e1 := e_is_number (n := n) H.is_pair H.is_number hn
  simp_arith [Fx_is_size, sz, q_call _ (cb_io H.is_number), Fx_is_number, cb_call, e1, item0, decide_eq_true ha]
theorem e_is_whole {d lo : Int} : evF P (n + 1) n_is_whole [.im (.int d), .im (.int lo)] = .ok (.bl (decide (lo ≤ d)), false, [.im (.int d), .im (.int lo)]) := by
  rw [evF_succ H.is_whole]
  simp_arith [Fx_is_whole, tyi_int]
end
theorem e_lowest {P : Pr} {n : Nat} (h : P.fn n_lowest = some Fx_lowest) {a b : Int} (hg : 0 < (Int.gcd a b : Int)) (hl : Bd 8000 (Int.gcd a b : Int)) :
    evF P (n + 1) n_lowest [.im (.int a), .im (.int b)] = .ok (sz (a / (Int.gcd a b : Int)) (b / (Int.gcd a b : Int)), false, [.im (.int a), .im (.int b)]) := by
  rw [evF_succ h]
  have hl2 : (Int.gcd a b : Int).natAbs.log2 < 9000 := by have := hl.log (by decide); omega
  have hz : sizeOk 2 = true := by decide
  simp_arith [Fx_lowest, sz, biGcd_int, binop_div hg hl2, hz]
end Mini

set_option linter.all false
set_option Elab.async false
set_option maxRecDepth 100000
set_option maxHeartbeats 1000000
namespace Mini
open PySem L2 TL
/-! ### numbers as texts -/
noncomputable def numS (n : Nat) : Str := Str.ofString (toString ((n : Nat) : Int))
theorem numS_len {n : Nat} (h : n < 1000000000) : (numS n).length ≤ 9 := by
  have h2 := numL_len (n := n) (k := 9) (by decide) (by simpa using h)
  rw [len_tl]
  show (tl (numS n)).length ≤ 9
  rw [show tl (numS n) = numL n from tl_num n]
  exact h2
theorem numS_ascii (n : Nat) : Txt.isascii (numS n) = true := by
  unfold Txt.isascii
  rw [Array.all_eq_true']
  intro x hx
  have hx : x ∈ tl (numS n) := by simpa [tl] using hx
  rw [show tl (numS n) = numL n from tl_num n] at hx
  have := numL_digits n x hx
  exact decide_eq_true (by omega)
theorem ok_ascii {x : Str} (h : Txt.isascii x = true) : PyData.strOk x = true := by
  unfold Txt.isascii at h
  unfold PyData.strOk
  rw [Array.all_eq_true'] at *
  intro c hc
  have := of_decide_eq_true (h c hc)
  exact decide_eq_true (by omega)
theorem deq_str {x y : Str} (hx : PyData.strOk x = true) (hy : PyData.strOk y = true) : deq (.str x) (.str y) = .ok (decide (x = y)) := by
  have hs : ∀ z : Str, PyData.strOk z = true → SeqAt.shaped (.str z) = true := fun z hz => by
    unfold SeqAt.shaped
    rw [Bool.and_eq_true]
    exact ⟨by simp [PyData.canLay0, hz], by simp [PyData.depth]⟩
  have h1 := hs x hx
  have h2 := hs y hy
  simp only [deq, toPy, R.of_some, R.bind_ok, h1, h2, Bool.and_self, R.guard_true, PyData.eqv]
  first | rfl | (by_cases e : x = y <;> simp [e])
end Mini

set_option linter.all false
set_option Elab.async false
set_option maxRecDepth 100000
set_option maxHeartbeats 1000000
namespace Mini
open PySem L2 TL
noncomputable abbrev spS : Str := Str.ofString " "
noncomputable abbrev nlS : Str := Str.ofString "\n"
theorem tl_sp : tl spS = [32] := by decide +kernel
theorem tl_nl : tl nlS = [10] := by decide +kernel
/-- what a word is: ascii, no blank, no line feed, short -/
structure Wrd (x : Str) : Prop where
  as : Txt.isascii x = true
  sp : 32 ∉ tl x
  nl : 10 ∉ tl x
  sh : x.length ≤ 20
theorem Wrd.ok {x : Str} (h : Wrd x) : PyData.strOk x = true := ok_ascii h.as
theorem wrd_num {n : Nat} (h : n < 1000000000) : Wrd (numS n) := ⟨numS_ascii n, by rw [show tl (numS n) = numL n from tl_num n]; exact numL_free (by omega), by rw [show tl (numS n) = numL n from tl_num n]; exact numL_free (by omega), by have := numS_len h; omega⟩
noncomputable def kwS : Bool → Str | false => Str.ofString "from" | true => Str.ofString "beyond"
theorem wrd_kw (b : Bool) : Wrd (kwS b) := by cases b <;> exact ⟨by decide +kernel, by decide +kernel, by decide +kernel, by decide +kernel⟩
theorem wrd_box : Wrd (Str.ofString "box") := ⟨by decide +kernel, by decide +kernel, by decide +kernel, by decide +kernel⟩
theorem wrd_bound : Wrd (Str.ofString "bound") := ⟨by decide +kernel, by decide +kernel, by decide +kernel, by decide +kernel⟩
theorem joinL_len (S : List Nat) : ∀ ps : List (List Nat), (joinL S ps).length ≤ (ps.map (·.length)).sum + ps.length * S.length
  | [] => by simp [joinL]
  | [p] => by simp [joinL]
  | p :: q :: r => by
    have := joinL_len S (q :: r)
    simp only [joinL, List.length_append, List.map_cons, List.sum_cons, List.length_cons, Nat.add_mul, Nat.one_mul] at *
    omega
theorem join_len (y : Str) (ws : List Str) : (Txt.join y ws).length ≤ (ws.map (·.length)).sum + ws.length * y.length := by
  rw [len_tl, join_eq, tl_join]
  have := joinL_len (tl y) (ws.map tl)
  simpa [Function.comp_def, len_tl] using this
theorem line_len {ws : List Str} (h : ∀ x ∈ ws, Wrd x) (hl : ws.length ≤ 3) : (Txt.join spS ws).length ≤ 100 := by
  have h1 := join_len spS ws
  have h2 : (ws.map (·.length)).sum ≤ ws.length * 20 := by
    clear h1 hl
    induction ws with
    | nil => simp
    | cons w ws ih =>
      have := ih fun x hx => h x (List.mem_cons_of_mem _ hx)
      have h3 := (h w List.mem_cons_self).sh
      simp only [List.map_cons, List.sum_cons, List.length_cons]
      omega
  have h3 : spS.length = 1 := by decide +kernel
  rw [h3] at h1
  omega
theorem item_lst (l : List D) (i : Int) : item (.lst l) (.int i) = R.of (L2.atI l i) := rfl
end Mini

set_option linter.all false
set_option Elab.async false
set_option maxRecDepth 100000
set_option maxHeartbeats 1000000
namespace Mini
open PySem L2 TL
/-- a step of a rule -/
structure St where
  b : Bool
  s : Nat
  w : Nat
  deriving DecidableEq
noncomputable def St.d (t : St) : D := .tup [.str (kwS t.b), .int t.s, .int t.w]
noncomputable def bN : Bool → Nat | false => 0 | true => 1
noncomputable def St.p (t : St) : Nat := 2 * t.s + bN t.b
noncomputable def St.line (t : St) : Str := Txt.join spS [kwS t.b, numS t.s, numS t.w]
structure St.Ok (box : Nat) (t : St) : Prop where
  lo : 1 ≤ t.s + bN t.b
  hi : t.s + bN t.b ≤ box
  w : t.w < 1000000000
theorem St.words (t : St) {box : Nat} (hb : box ≤ 60) (h : t.Ok box) : ∀ x ∈ [kwS t.b, numS t.s, numS t.w], Wrd x := by
  have := h.hi
  have := h.w
  intro x hx
  rcases List.mem_cons.mp hx with rfl | hx
  · exact wrd_kw _
  rcases List.mem_cons.mp hx with rfl | hx
  · exact wrd_num (by omega)
  rw [List.mem_singleton.mp hx]
  exact wrd_num (by omega)
structure HRl (P : Pr) : Prop extends HNum P where
  size_up : P.fn n_is_size_up_to = some Fx_is_size_up_to
  whole_of : P.fn n_whole_of = some Fx_whole_of
  head_of : P.fn n_head_of = some Fx_head_of
  whole_behind : P.fn n_whole_behind = some Fx_whole_behind
  step_of : P.fn n_step_of = some Fx_step_of
  steps_of : P.fn n_steps_of = some Fx_steps_of
  place_of : P.fn n_place_of = some Fx_place_of
  space_of : P.fn n_space_of = some Fx_space_of
  worths_of : P.fn n_worths_of = some Fx_worths_of
  rule_init : P.fn n_Rule___init__ = some Fx_Rule___init__
  rule_worth : P.fn n_Rule_worth = some Fx_Rule_worth
  rule_eq : P.fn n_Rule___eq__ = some Fx_Rule___eq__
  rule_make : P.init 28 = some 17
  rule_sp : P.sp 28 0 = some 18
  rule_isa : P.isa 28 28 = true
section
variable {P : Pr} {k : Nat} (H : HRl P)
include H
end
end Mini

set_option linter.all false
set_option Elab.async false
set_option maxRecDepth 100000
set_option maxHeartbeats 1000000
namespace Mini
open PySem L2 TL
/-! ### parts of a body -/
noncomputable def S.nth : Nat → S → S
  | 0, .seq a _ => a
  | n + 1, .seq _ b => S.nth n b
  | _, s => s
noncomputable def S.forB : S → S | .for _ _ b => b | s => s
noncomputable def S.forT : S → E | .for t _ _ => t | _ => .nil
theorem biTuple_lst (l : List D) : biTuple [.lst l] = .ok (.tup l, false) := rfl
/-- steps in order, all behind last -/
noncomputable def Asc (box : Nat) : Nat → List St → Prop
  | _, [] => True
  | last, t :: ts => last < t.p ∧ t.Ok box ∧ Asc box t.p ts
noncomputable def lastP (last : Nat) (ts : List St) : Nat := ts.foldl (fun _ t => t.p) last
section
variable {P : Pr} {k : Nat} (H : HRl P)
include H
end
end Mini

set_option linter.all false
set_option Elab.async false
set_option maxRecDepth 100000
set_option maxHeartbeats 1000000
namespace Mini
open PySem L2 TL
theorem ranged1 {j : Int} (h3 : -(2 ^ 62) ≤ j) (h4 : j < 2 ^ 62) : ranged [.int j] = .ok (rangeD 0 j.toNat) := by
  show (R.guard (decide (-(2 ^ 62) ≤ j ∧ j < 2 ^ 62))).bind _ = _
  rw [decide_eq_true ⟨h3, h4⟩]
  rfl
theorem asc_len {box : Nat} : ∀ {ts : List St} {last : Nat}, Asc box last ts → last + ts.length ≤ lastP last ts
  | [], last, _ => by simp [lastP]
  | t :: ts, last, h => by
    have := asc_len h.2.2
    have := h.1
    simp only [lastP, List.foldl_cons, List.length_cons] at *
    omega
theorem asc_top {box : Nat} : ∀ {ts : List St} {last : Nat}, last ≤ 2 * box → Asc box last ts → lastP last ts ≤ 2 * box
  | [], last, h, _ => by simpa [lastP] using h
  | t :: ts, last, h, a => by
    have := a.2.1.hi
    have hp : t.p ≤ 2 * box := by unfold St.p; cases h : t.b <;> simp only [h, bN] at * <;> omega
    simpa [lastP] using asc_top hp a.2.2
theorem asc_short {box : Nat} (hb : box ≤ 60) {ts : List St} (h : Asc box 0 ts) : ts.length ≤ 120 := by
  have h1 := asc_len h
  have h2 := asc_top (by omega) h
  omega
/-- worths of all spaces -/
noncomputable def wsG (T : Nat) : List Nat → Nat → List St → List Nat
  | acc, cur, [] => acc ++ List.replicate (T - acc.length) cur
  | acc, cur, t :: ts => wsG T (acc ++ List.replicate (t.p - acc.length) cur) t.w ts
noncomputable def wsOf (box : Nat) (ts : List St) : List Nat := wsG (2 * box + 1) [] 0 ts
noncomputable def nD (n : Nat) : D := .int n
section
variable {P : Pr} {k : Nat} (H : HRl P)
include H
end
end Mini

set_option linter.all false
set_option Elab.async false
set_option maxRecDepth 100000
set_option maxHeartbeats 1000000
namespace Mini
open PySem L2 TL
section
variable {P : Pr} {k : Nat} (H : HRl P)
include H
end
end Mini

set_option linter.all false
set_option Elab.async false
set_option maxRecDepth 100000
set_option maxHeartbeats 1000000
namespace Mini
open PySem L2 TL
/-! ### the text of a rule -/
theorem joinL_all {S : List Nat} {p : Nat → Prop} (hS : ∀ c ∈ S, p c) : ∀ ps : List (List Nat), (∀ q ∈ ps, ∀ c ∈ q, p c) → ∀ c ∈ joinL S ps, p c
  | [], _, c, hc => by simp [joinL] at hc
  | [q], h, c, hc => h q List.mem_cons_self c (by simpa [joinL] using hc)
  | q :: r :: ps, h, c, hc => by
    simp only [joinL, List.mem_append] at hc
    rcases hc with hc | hc | hc
    · exact h q List.mem_cons_self c hc
    · exact hS c hc
    · exact joinL_all hS (r :: ps) (fun x hx => h x (List.mem_cons_of_mem _ hx)) c hc
theorem join_all {y : Str} {ws : List Str} {p : Nat → Prop} (hy : ∀ c ∈ tl y, p c) (h : ∀ x ∈ ws, ∀ c ∈ tl x, p c) : ∀ c ∈ tl (Txt.join y ws), p c := by
  rw [join_eq, tl_join]
  refine joinL_all hy _ fun q hq c hc => ?_
  obtain ⟨x, hx, rfl⟩ := List.mem_map.mp hq
  exact h x hx c hc
theorem ascii_iff {x : Str} : Txt.isascii x = true ↔ ∀ c ∈ tl x, c < 128 := by
  unfold Txt.isascii
  rw [Array.all_eq_true']
  constructor
  · intro h c hc
    exact of_decide_eq_true (h c (by simpa [tl] using hc))
  · intro h c hc
    exact decide_eq_true (h c (by simpa [tl] using hc))
theorem line_free {ws : List Str} (h : ∀ x ∈ ws, Wrd x) : 10 ∉ tl (Txt.join spS ws) := fun hc =>
  join_all (p := fun c => c ≠ 10) (by rw [tl_sp]; simp) (fun x hx c hc e => (h x hx).nl (e ▸ hc)) 10 hc rfl
theorem line_ascii {ws : List Str} (h : ∀ x ∈ ws, Wrd x) : Txt.isascii (Txt.join spS ws) = true :=
  ascii_iff.mpr (join_all (by rw [tl_sp]; simp) fun x hx => ascii_iff.mp (h x hx).as)
structure RV where
  box : Nat
  bound : Nat
  sts : List St
  deriving DecidableEq
noncomputable def RV.head1 (r : RV) : List Str := [Str.ofString "box", numS r.box]
noncomputable def RV.head2 (r : RV) : List Str := [Str.ofString "bound", numS r.bound]
noncomputable def RV.lines (r : RV) : List Str := Txt.join spS r.head1 :: Txt.join spS r.head2 :: r.sts.map St.line
noncomputable def RV.text (r : RV) : Str := Txt.join nlS r.lines
structure RV.Ok (r : RV) : Prop where
  b1 : 1 ≤ r.box
  b2 : r.box ≤ 60
  c1 : 1 ≤ r.bound
  c2 : r.bound < 1000000000
  asc : Asc r.box 0 r.sts
noncomputable def RV.d (r : RV) : D := .ins 28 [1, 2, 3, 4, 5] [.str r.text, .int r.box, .int r.bound, .tup (r.sts.map St.d), .tup ((wsOf r.box r.sts).map nD)]
theorem asc_ok {box : Nat} : ∀ {ts : List St} {last : Nat}, Asc box last ts → ∀ t ∈ ts, t.Ok box
  | [], _, _, _, h => absurd h List.not_mem_nil
  | t :: ts, _, a, u, h => by
    rcases List.mem_cons.mp h with rfl | h
    · exact a.2.1
    · exact asc_ok a.2.2 u h
theorem RV.Ok.h1 {r : RV} (h : r.Ok) : ∀ x ∈ r.head1, Wrd x := fun x hx => by
  have := h.b2
  rcases List.mem_cons.mp hx with rfl | hx
  · exact wrd_box
  · rw [List.mem_singleton.mp hx]; exact wrd_num (by omega)
theorem RV.Ok.h2 {r : RV} (h : r.Ok) : ∀ x ∈ r.head2, Wrd x := fun x hx => by
  have := h.c2
  rcases List.mem_cons.mp hx with rfl | hx
  · exact wrd_bound
  · rw [List.mem_singleton.mp hx]; exact wrd_num (by omega)
theorem RV.Ok.line {r : RV} (h : r.Ok) : ∀ x ∈ r.lines, 10 ∉ tl x ∧ x.length ≤ 100 ∧ Txt.isascii x = true := fun x hx => by
  have := h.b2
  rcases List.mem_cons.mp hx with rfl | hx
  · exact ⟨line_free h.h1, line_len h.h1 (by simp [RV.head1]), line_ascii h.h1⟩
  rcases List.mem_cons.mp hx with rfl | hx
  · exact ⟨line_free h.h2, line_len h.h2 (by simp [RV.head2]), line_ascii h.h2⟩
  obtain ⟨t, ht, rfl⟩ := List.mem_map.mp hx
  have w := t.words h.b2 (asc_ok h.asc t ht)
  exact ⟨line_free w, line_len w (by simp), line_ascii w⟩
theorem RV.Ok.split {r : RV} (h : r.Ok) : Txt.split r.text nlS = r.lines := split_join tl_nl (by decide +kernel) (by simp [RV.lines]) fun p hp => (h.line p hp).1
theorem RV.Ok.len {r : RV} (h : r.Ok) : r.text.length ≤ 16777000 := by
  have h1 := join_len nlS r.lines
  have hl : r.lines.length ≤ 122 := by
    have := asc_short h.b2 h.asc
    simp [RV.lines]
    omega
  have h2 : ∀ (l : List Str), (∀ x ∈ l, x.length ≤ 100) → (l.map (·.length)).sum ≤ l.length * 100 := fun l => by
    induction l with
    | nil => simp
    | cons w ws ih =>
      intro hh
      have := ih fun x hx => hh x (List.mem_cons_of_mem _ hx)
      have h3 := hh w List.mem_cons_self
      simp only [List.map_cons, List.sum_cons, List.length_cons]
      omega
  have h3 := h2 r.lines fun x hx => (h.line x hx).2.1
  have h4 : nlS.length = 1 := by decide +kernel
  rw [h4] at h1
  unfold RV.text
  omega
theorem RV.Ok.ascii {r : RV} (h : r.Ok) : Txt.isascii r.text = true :=
  ascii_iff.mpr (join_all (by rw [tl_nl]; simp) fun x hx => ascii_iff.mp (h.line x hx).2.2)
theorem RV.Ok.strOk {r : RV} (h : r.Ok) : PyData.strOk r.text = true := ok_ascii h.ascii
section
variable {P : Pr} {k : Nat} (H : HRl P)
include H
end
end Mini

set_option linter.all false
set_option Elab.async false
set_option maxRecDepth 100000
set_option maxHeartbeats 1000000
namespace Mini
open PySem L2 TL
noncomputable def S.rE : S → E | .ret e => e | .asg _ e => e | .expr e => e | .ife t _ _ => t | _ => .nil
noncomputable def E.args : E → E | .bi _ l => l | .and l => l | .or l => l | .call _ l => l | .bm _ _ l => l | .make _ l => l | .meth _ _ l => l | .cmp _ a b => .cons a (.cons b .nil) | .not a => .cons a .nil | e => e
noncomputable def E.nth : Nat → E → E
  | 0, .cons a _ => a
  | n + 1, .cons _ l => E.nth n l
  | _, e => e
noncomputable def compOf (C : Cb) : E → D → Fm → R (Option D × Fm)
  | .comp e t _ c vs => compF C e t c vs
  | .lset e t _ c vs => compF C e t c vs
  | _ => fun _ _ => .bad
theorem compLoop_map {α : Type} {f : D → Fm → R (Option D × Fm)} {g h : α → D} {σ : Fm} : ∀ (xs : List α) (acc : List D), (∀ x ∈ xs, f (g x) σ = .ok (some (h x), σ)) → acc.length + xs.length ≤ 16777216 → compLoop f (xs.map g) σ acc = .ok (acc ++ xs.map h, σ)
  | [], acc, _, _ => by simp [compLoop_nil]
  | x :: xs, acc, hf, hl => by
    simp only [List.length_cons] at hl
    rw [List.map_cons, compLoop_some (hf x List.mem_cons_self) (by omega), compLoop_map xs _ (fun y hy => hf y (List.mem_cons_of_mem _ hy)) (by simp; omega)]
    simp
theorem boolsD_map {α : Type} {f : α → Bool} (xs : List α) : boolsD (xs.map fun x => .bl (f x)) = some (xs.map f) := by
  induction xs with
  | nil => rfl
  | cons x xs ih => simp [boolsD, ih]
theorem biAll_map {α : Type} {f : α → Bool} (xs : List α) : biAll [.lst (xs.map fun x => .bl (f x))] = .ok (.bl (xs.all f), false) := by
  simp [biAll, boolsD_map]
/-! ### worths -/
noncomputable def spI (a b : Int) : Int := 2 * (a / b) + if 1 < b then 1 else 0
noncomputable def RV.w (r : RV) (a b : Int) : Int := (((wsOf r.box r.sts)[(spI a b).toNat]?.getD 0 : Nat) : Int)
section
variable {P : Pr} {k : Nat} (H : HRl P)
include H
end
end Mini

set_option linter.all false
set_option Elab.async false
set_option maxRecDepth 100000
set_option maxHeartbeats 1000000
namespace Mini
open PySem L2 TL
/-- a part of a lot -/
structure LP where
  a : Int
  b : Int
  m : Int
noncomputable def LP.d (p : LP) : D := .tup [sz p.a p.b, .int p.m]
structure LP.Ok (p : LP) : Prop where
  n : IsNum p.a p.b
  a : 0 < p.a
  m : 1 ≤ p.m
  bb : Bd 7000 p.b
  bm : Bd 7000 p.m
noncomputable def lotD (ps : List LP) : D := .tup (ps.map LP.d)
structure LotOk (ps : List LP) : Prop where
  ok : ∀ p ∈ ps, p.Ok
  un : unlike (ps.map fun p => [p.a, p.b]) = ps.length
  len : ps.length < 63
structure HLot (P : Pr) : Prop extends HRl P where
  lot : P.fn n_is_lot = some Fx_is_lot
  lot_up : P.fn n_is_lot_up_to = some Fx_is_lot_up_to
  reckoned : P.fn n_Rule_reckoned = some Fx_Rule_reckoned
  m_reckoned : P.meth 506 = some (28, 22)
theorem forLoop_same {α : Type} {f : D → Fm → R Fl} {g : α → D} {τ : D → Fm} : ∀ (xs : List α) (o : Option D) (τ0 : Option D → Fm), (∀ x ∈ xs, ∀ o, f (g x) (τ0 o) = .ok (.nx (τ0 (some (g x))))) → ∃ o', forLoop f (xs.map g) (τ0 o) = .ok (.nx (τ0 o'))
  | [], o, τ0, _ => ⟨o, rfl⟩
  | x :: xs, o, τ0, h => by
    obtain ⟨o', e⟩ := forLoop_same (τ := τ) xs (some (g x)) τ0 fun y hy => h y (List.mem_cons_of_mem _ hy)
    exact ⟨o', by rw [List.map_cons, forLoop_nx (h x List.mem_cons_self o), e]⟩
theorem tupIs_map (ps : List LP) : tupIs (ps.map fun p => sz p.a p.b) = some (ps.map fun p => [p.a, p.b]) := by
  induction ps with
  | nil => rfl
  | cons p ps ih => simp only [sz] at ih; simp [tupIs, tupI, intsD, sz, ih]
theorem lenSet_lot {ps : List LP} (h : LotOk ps) : lenSet (ps.map fun p => sz p.a p.b) = .ok ps.length := by
  unfold lenSet
  rw [tupIs_map]
  have : decide ((ps.map fun p => [p.a, p.b]).length < 63) = true := decide_eq_true (by simpa using h.len)
  simp only [R.of_some, R.bind_ok, this, R.guard_true, h.un]
section
variable {P : Pr} {k : Nat} (H : HLot P)
include H
end
end Mini

set_option linter.all false
set_option Elab.async false
set_option maxRecDepth 100000
set_option maxHeartbeats 1000000
namespace Mini
open PySem L2 TL
noncomputable def lotUp (c : Int) (ps : List LP) : Bool := ps.all fun p => decide (p.a ≤ c * p.b)
noncomputable def RV.reck (r : RV) (ps : List LP) : Int := (ps.map fun p => p.m * r.w p.a p.b).sum
theorem w_bd {r : RV} (hr : r.Ok) (hw : ∀ t ∈ r.sts, t.w < 1000000000) (a b : Int) : Bd 30 (r.w a b) := by
  have g : ∀ (ts : List St) (acc : List Nat) (cur T : Nat), (∀ t ∈ ts, t.w < 1000000000) → cur < 1000000000 → (∀ x ∈ acc, x < 1000000000) → ∀ x ∈ wsG T acc cur ts, x < 1000000000 := fun ts => by
    induction ts with
    | nil =>
      intro acc cur T _ hc ha x hx
      simp only [wsG, List.mem_append, List.mem_replicate] at hx
      rcases hx with hx | ⟨_, rfl⟩
      · exact ha x hx
      · exact hc
    | cons t ts ih =>
      intro acc cur T ht hc ha x hx
      refine ih _ _ T (fun u hu => ht u (List.mem_cons_of_mem _ hu)) (ht t List.mem_cons_self) (fun y hy => ?_) x hx
      simp only [List.mem_append, List.mem_replicate] at hy
      rcases hy with hy | ⟨_, rfl⟩
      · exact ha y hy
      · exact hc
  have h := g r.sts [] 0 (2 * r.box + 1) hw (by omega) (by simp)
  unfold RV.w
  refine .of (by omega) ?_
  by_cases hi : (spI a b).toNat < (wsOf r.box r.sts).length
  · rw [List.getElem?_eq_getElem hi]
    have := h _ (List.getElem_mem hi)
    simp only [Option.getD_some]
    omega
  · rw [List.getElem?_eq_none (by omega)]
    simp
theorem RV.Ok.wb {r : RV} (hr : r.Ok) (a b : Int) : Bd 30 (r.w a b) := w_bd hr (fun t ht => (asc_ok hr.asc t ht).w) a b
section
variable {P : Pr} {k : Nat} (H : HLot P)
include H
end
end Mini

set_option linter.all false
set_option Elab.async false
set_option maxRecDepth 100000
set_option maxHeartbeats 1000000
namespace Mini
open PySem L2 TL
/-! ### the text of a rule, made -/
theorem tl_inj {x y : Str} (h : tl x = tl y) : x = y := by
  obtain ⟨⟨a⟩⟩ := x
  obtain ⟨⟨b⟩⟩ := y
  simp only [tl] at h
  rw [h]
structure HTx (P : Pr) : Prop extends HLot P where
  rule_text : P.fn n_rule_text = some Fx_rule_text
section
variable {P : Pr} {k : Nat} (H : HTx P)
include H
end
end Mini

set_option linter.all false
set_option Elab.async false
set_option maxRecDepth 100000
set_option maxHeartbeats 1000000
namespace Mini
open PySem L2 TL
theorem asc_mono {box : Nat} {i j : Nat} (h : i ≤ j) : ∀ {ts : List St}, Asc box j ts → Asc box i ts
  | [], _ => trivial
  | t :: ts, a => ⟨by have := a.1; omega, a.2.1, a.2.2⟩
noncomputable def plainL : Nat → List St → List St
  | _, [] => []
  | last, t :: ts => if t.w = last then plainL t.w ts else t :: plainL t.w ts
theorem asc_plain {box : Nat} : ∀ {ts : List St} {last w : Nat}, Asc box last ts → Asc box last (plainL w ts)
  | [], _, _, _ => trivial
  | t :: ts, last, w, a => by
    have q := asc_plain (w := t.w) a.2.2
    unfold plainL
    by_cases h : t.w = w
    · rw [if_pos h]
      exact asc_mono (by have := a.1; omega) q
    · rw [if_neg h]
      exact ⟨a.1, a.2.1, q⟩
noncomputable def RV.plain (r : RV) : RV := ⟨r.box, r.bound, plainL 0 r.sts⟩
theorem RV.Ok.plain {r : RV} (h : r.Ok) : r.plain.Ok := ⟨h.b1, h.b2, h.c1, h.c2, asc_plain h.asc⟩
structure HPl (P : Pr) : Prop extends HTx P where
  plain : P.fn n_plain = some Fx_plain
section
variable {P : Pr} {k : Nat} (H : HRl P)
include H
end
section
variable {P : Pr} {k : Nat} (H : HPl P)
include H
end
end Mini

set_option linter.all false
set_option Elab.async false
set_option maxRecDepth 100000
set_option maxHeartbeats 1000000
namespace Mini
open PySem L2 TL
theorem biMin_int (i j : Int) : biMin [.int i, .int j] = .ok (.int (if j < i then j else i), false) := rfl
noncomputable def RV.wb (o : RV) (w : Nat) : Nat := if w = 0 then 0 else (wsOf o.box o.sts)[(spI (if (o.box : Int) < w then o.box else w) 1).toNat]?.getD 0
theorem w_lt' {o : RV} (ho : o.Ok) (i : Nat) : (wsOf o.box o.sts)[i]?.getD 0 < 1000000000 := by
    have g : ∀ (ts : List St) (acc : List Nat) (cur T : Nat), (∀ t ∈ ts, t.w < 1000000000) → cur < 1000000000 → (∀ x ∈ acc, x < 1000000000) → ∀ x ∈ wsG T acc cur ts, x < 1000000000 := fun ts => by
      induction ts with
      | nil =>
        intro acc cur T _ hc ha x hx
        simp only [wsG, List.mem_append, List.mem_replicate] at hx
        rcases hx with hx | ⟨_, rfl⟩
        · exact ha x hx
        · exact hc
      | cons t ts ih =>
        intro acc cur T ht hc ha x hx
        refine ih _ _ T (fun u hu => ht u (List.mem_cons_of_mem _ hu)) (ht t List.mem_cons_self) (fun y hy => ?_) x hx
        simp only [List.mem_append, List.mem_replicate] at hy
        rcases hy with hy | ⟨_, rfl⟩
        · exact ha y hy
        · exact hc
    have h := g o.sts [] 0 (2 * o.box + 1) (fun t ht => (asc_ok ho.asc t ht).w) (by omega) (by simp)
    by_cases hi : i < (wsOf o.box o.sts).length
    · rw [List.getElem?_eq_getElem hi]
      exact h _ (List.getElem_mem hi)
    · rw [List.getElem?_eq_none (by omega)]
      decide
theorem RV.Ok.wb_lt {o : RV} (ho : o.Ok) (w : Nat) : o.wb w < 1000000000 := by
  unfold RV.wb
  by_cases h : w = 0
  · rw [if_pos h]; decide
  · rw [if_neg h]
    have g := w_lt' ho (spI (if (o.box : Int) < w then o.box else w) 1).toNat
    exact g
noncomputable def RV.behind0 (r o : RV) : RV := ⟨r.box, o.bound, r.sts.map fun t => ⟨t.b, t.s, o.wb t.w⟩⟩
theorem asc_map {box : Nat} {f : Nat → Nat} (hf : ∀ w, f w < 1000000000) : ∀ {ts : List St} {last : Nat}, Asc box last ts → Asc box last (ts.map fun t => ⟨t.b, t.s, f t.w⟩)
  | [], _, _ => trivial
  | t :: ts, _, a => ⟨a.1, ⟨a.2.1.lo, a.2.1.hi, hf _⟩, asc_map hf a.2.2⟩
theorem RV.Ok.behind0 {r o : RV} (hr : r.Ok) (ho : o.Ok) : (r.behind0 o).Ok := ⟨hr.b1, hr.b2, ho.c1, ho.c2, asc_map ho.wb_lt hr.asc⟩
structure HBh (P : Pr) : Prop extends HPl P where
  worth_behind : P.fn n_worth_behind = some Fx_worth_behind
  behind : P.fn n_behind = some Fx_behind
  m_worth : P.meth 505 = some (28, 21)
section
variable {P : Pr} {k : Nat} (H : HBh P)
include H
end
end Mini

set_option linter.all false
set_option Elab.async false
set_option maxRecDepth 100000
set_option maxHeartbeats 1000000
namespace Mini
open PySem L2 TL
structure HWu (P : Pr) : Prop extends HTx P where
  is_whole_up_to : P.fn n_is_whole_up_to = some Fx_is_whole_up_to
structure HFn (P : Pr) : Prop extends HWu P where
  finer : P.fn n_finer = some Fx_finer
structure HMk (P : Pr) : Prop extends HBh P, HFn P where
  rounding : P.fn n_rounding = some Fx_rounding
theorem bdN {n : Nat} (h : n < 1000000000) : Bd 30 (n : Int) := .of (by omega) (by omega)
section
variable {P : Pr} {k : Nat} (H : HWu P)
include H
end
section
variable {P : Pr} {k : Nat} (H : HFn P)
include H
end
section
variable {P : Pr} {k : Nat} (H : HMk P)
include H
end
end Mini

set_option linter.all false
set_option Elab.async false
set_option maxRecDepth 100000
set_option maxHeartbeats 1000000
namespace Mini
open PySem L2 TL
/-! ### rounding -/
noncomputable def roundG (n : Nat) : Nat → Nat → List St
  | _, 0 => []
  | lo, c + 1 => ⟨false, lo, lo * n⟩ :: ⟨true, lo, lo * (n + 1)⟩ :: roundG n (lo + 1) c
noncomputable def RV.round (n : Nat) : RV := ⟨n + 1, n * (n + 1), roundG n 1 n⟩
section
variable {P : Pr} {k : Nat} (H : HMk P)
include H
end
/-! ### boxes, equal rules -/
structure HBx (P : Pr) : Prop extends HLot P where
  boxes : P.fn n_Rule_boxes = some Fx_Rule_boxes
  m_boxes : P.meth 507 = some (28, 23)
section
variable {P : Pr} {k : Nat}
end
end Mini

set_option linter.all false
set_option Elab.async false
set_option maxRecDepth 100000
set_option maxHeartbeats 1000000
namespace Mini
open PySem L2 TL
structure HTi (P : Pr) : Prop extends HWu P where
  times : P.fn n_Rule_times = some Fx_Rule_times
structure HTm (P : Pr) : Prop extends HMk P, HTi P
section
variable {P : Pr} {k : Nat} (H : HTi P)
include H
end
section
variable {P : Pr} {k : Nat} (H : HTm P)
include H
end
end Mini

set_option linter.all false
set_option Elab.async false
set_option maxRecDepth 100000
set_option maxHeartbeats 1000000
namespace Mini
open PySem L2 TL
/-! ### sums of numbers -/
noncomputable abbrev Pt := Int × Int
noncomputable def Pt.d (p : Pt) : D := sz p.1 p.2
noncomputable def dN : List Pt → Int | [] => 1 | p :: l => p.2 * dN l
noncomputable def nN : List Pt → Int | [] => 0 | p :: l => p.1 * dN l + nN l * p.2
theorem dN_app : ∀ l m, dN (l ++ m) = dN l * dN m
  | [], m => by simp [dN]
  | p :: l, m => by simp only [List.cons_append, dN, dN_app l m, Int.mul_assoc]
theorem nN_app : ∀ l m, nN (l ++ m) = nN l * dN m + nN m * dN l
  | [], m => by simp [nN, dN]
  | p :: l, m => by
    simp only [List.cons_append, nN, dN, dN_app l m, nN_app l m]
    simp only [Int.add_mul]
    ac_rfl
noncomputable def gN (n d : Int) : Int := (Int.gcd n d : Int)
noncomputable def low (n d : Int) : Pt := (n / gN n d, d / gN n d)
theorem gN_pos {n d : Int} (h : 0 < d) : 0 < gN n d := by
  have := Int.gcd_pos_of_ne_zero_right n (show d ≠ 0 by omega)
  unfold gN; omega
theorem low_mul {n d c : Int} (hc : 0 < c) (hd : 0 < d) : low (c * n) (c * d) = low n d := by
  have e : gN (c * n) (c * d) = c * gN n d := by
    unfold gN
    rw [Int.gcd_mul_left, Int.natCast_mul, Int.natAbs_of_nonneg (by omega)]
  unfold low
  rw [e, Int.mul_ediv_mul_of_pos _ _ hc, Int.mul_ediv_mul_of_pos _ _ hc]
theorem low_eq {n d : Int} : (low n d).1 * gN n d = n ∧ (low n d).2 * gN n d = d := ⟨Int.ediv_mul_cancel (Int.gcd_dvd_left ..), Int.ediv_mul_cancel (Int.gcd_dvd_right ..)⟩
theorem low_sum {n1 d1 n2 d2 : Int} (h1 : 0 < d1) (h2 : 0 < d2) :
    low ((low n1 d1).1 * (low n2 d2).2 + (low n2 d2).1 * (low n1 d1).2) ((low n1 d1).2 * (low n2 d2).2) = low (n1 * d2 + n2 * d1) (d1 * d2) := by
  obtain ⟨a1, b1⟩ := low_eq (n := n1) (d := d1)
  obtain ⟨a2, b2⟩ := low_eq (n := n2) (d := d2)
  have g1 := gN_pos (n := n1) h1
  have g2 := gN_pos (n := n2) h2
  generalize (low n1 d1).1 = x1 at *
  generalize (low n1 d1).2 = y1 at *
  generalize (low n2 d2).1 = x2 at *
  generalize (low n2 d2).2 = y2 at *
  generalize gN n1 d1 = c1 at *
  generalize gN n2 d2 = c2 at *
  subst a1 b1 a2 b2
  have p1 : 0 < y1 := Int.pos_of_mul_pos_left h1 (by omega)
  have p2 : 0 < y2 := Int.pos_of_mul_pos_left h2 (by omega)
  have q : 0 < y1 * y2 := Int.mul_pos p1 p2
  have hc : 0 < c1 * c2 := Int.mul_pos g1 g2
  rw [← low_mul (c := c1 * c2) hc q]
  congr 1
  · rw [Int.mul_add]; congr 1 <;> ac_rfl
  · ac_rfl
theorem dN_pos : ∀ {l : List Pt}, (∀ p ∈ l, 0 < p.2) → 0 < dN l
  | [], _ => by decide
  | p :: l, h => Int.mul_pos (h p List.mem_cons_self) (dN_pos fun q hq => h q (List.mem_cons_of_mem _ hq))
theorem nN_pos : ∀ {l : List Pt}, (∀ p ∈ l, 0 ≤ p.1 ∧ 0 < p.2) → 0 ≤ nN l
  | [], _ => by decide
  | p :: l, h => by
    have h0 := h p List.mem_cons_self
    have hd := dN_pos (l := l) fun q hq => (h q (List.mem_cons_of_mem _ hq)).2
    have hn := nN_pos (l := l) fun q hq => h q (List.mem_cons_of_mem _ hq)
    show 0 ≤ p.1 * dN l + nN l * p.2
    have a := Int.mul_nonneg h0.1 (Int.le_of_lt hd)
    have b := Int.mul_nonneg hn (Int.le_of_lt h0.2)
    omega
theorem dN_bd {B : Nat} : ∀ {l : List Pt}, (∀ p ∈ l, Bd B p.2) → Bd (l.length * B + 1) (dN l)
  | [], _ => by unfold Bd dN; simp
  | p :: l, h => by
    have := (h p List.mem_cons_self).mul (dN_bd (B := B) (l := l) fun q hq => h q (List.mem_cons_of_mem _ hq))
    refine Bd.mono this ?_
    rw [List.length_cons, Nat.add_mul]
    omega
theorem nN_bd {B : Nat} : ∀ {l : List Pt}, (∀ p ∈ l, Bd B p.1 ∧ Bd B p.2) → Bd (l.length * (B + 1) + 1) (nN l)
  | [], _ => by unfold Bd nN; simp
  | p :: l, h => by
    have h0 := h p List.mem_cons_self
    have a := h0.1.mul (dN_bd (B := B) (l := l) fun q hq => (h q (List.mem_cons_of_mem _ hq)).2)
    have b := (nN_bd (B := B) (l := l) fun q hq => h q (List.mem_cons_of_mem _ hq)).mul h0.2
    have e1 : B + (l.length * B + 1) ≤ l.length * (B + 1) + 1 + B := by rw [Nat.mul_add]; omega
    refine Bd.mono ((a.mono e1).add b) ?_
    rw [List.length_cons, Nat.add_mul]
    omega
theorem low_bd {B : Nat} {n d : Int} (hn : 0 ≤ n) (hd : 0 < d) (h : Bd B n) (g : Bd B d) : 0 ≤ (low n d).1 ∧ 0 < (low n d).2 ∧ Bd B (low n d).1 ∧ Bd B (low n d).2 := by
  have hg := gN_pos (n := n) hd
  obtain ⟨a, b⟩ := low_eq (n := n) (d := d)
  have h1 : 0 ≤ (low n d).1 := Int.ediv_nonneg hn (by omega)
  have h2 : 0 < (low n d).2 := Int.pos_of_mul_pos_left (by rw [b]; exact hd) (by omega)
  exact ⟨h1, h2, h.le h1 (Int.ediv_le_self _ hn), g.le (by omega) (Int.ediv_le_self _ (by omega))⟩
theorem cut_to (l : List D) (k : Nat) (h : k ≤ l.length) : cutL l none (some (k : Int)) = l.take k := by
  unfold cutL
  rw [HT.sIx_none, HT.sIx_nat, Nat.min_eq_left h, List.drop_zero, Nat.sub_zero]
theorem cut_from (l : List D) (k : Nat) (h : k ≤ l.length) : cutL l (some (k : Int)) none = l.drop k := by
  unfold cutL
  rw [HT.sIx_none, HT.sIx_nat, Nat.min_eq_left h, List.take_of_length_le (by simp)]
end Mini

set_option linter.all false
set_option Elab.async false
set_option maxRecDepth 100000
set_option maxHeartbeats 1000000
namespace Mini
open PySem L2 TL
structure HAd (P : Pr) : Prop extends HLot P where
  lowest : P.fn n_lowest = some Fx_lowest
  added : P.fn n_added = some Fx_added
  filled : P.fn n_filled = some Fx_filled
theorem slice_lst (l : List D) (lo hi : Option Int) : slice (.lst l) lo hi = .ok (.lst (cutL l lo hi), true) := rfl
theorem atL0 (d : D) (l : List D) : L2.atI (d :: l) 0 = some d := atI_nat (xs := d :: l) (j := 0) rfl
section
variable {P : Pr} {k : Nat} (H : HAd P)
include H
end
end Mini

set_option linter.all false
set_option Elab.async false
set_option maxRecDepth 100000
set_option maxHeartbeats 1000000
namespace Mini
open PySem L2 TL
noncomputable def LP.pt (p : LP) : Pt := (p.a * p.m, p.b)
noncomputable def fillP (ps : List LP) : Pt := low (nN (ps.map LP.pt)) (dN (ps.map LP.pt))
section
variable {P : Pr} {k : Nat} (H : HAd P)
include H
end
end Mini

set_option linter.all false
set_option Elab.async false
set_option maxRecDepth 100000
set_option maxHeartbeats 1000000
namespace Mini
open PySem L2 TL
theorem potI (a b c : D) : item (.lst [a, b, c]) (.int 0) = .ok a := rfl
theorem potI1 (a b c : D) : item (.lst [a, b, c]) (.int 1) = .ok b := rfl
theorem potI2 (a b c : D) : item (.lst [a, b, c]) (.int 2) = .ok c := rfl
theorem potS0 (a b c y : D) : setD (.int 0) y (.lst [a, b, c]) = .ok (.lst [y, b, c]) := rfl
theorem potS2 (a b c y : D) : setD (.int 2) y (.lst [a, b, c]) = .ok (.lst [a, b, y]) := rfl
theorem biInt_int (i : Int) : biInt [.int i] = .ok (.int i, false) := rfl
noncomputable def potD (a b c : Int) : D := .lst [.int a, .int b, .int c]
theorem bits_le {k : Nat} {i : Int} (h : Bd k i) (h0 : 0 < k) : Builtin.Int.intBits i ≤ k := by
  have := h.log h0
  unfold Builtin.Int.intBits
  split <;> omega
theorem prime_at (j : Int) (h0 : 0 ≤ j) (h : j < 5) : ∃ p : Int, 0 < p ∧ p < 2 ^ 31 ∧ item (.lst [.int 2147483647, .int 2147483629, .int 2147483587, .int 2147483579, .int 2147483563]) (.int j) = .ok (.int p) := by
  have : j = 0 ∨ j = 1 ∨ j = 2 ∨ j = 3 ∨ j = 4 := by omega
  rcases this with rfl | rfl | rfl | rfl | rfl <;> exact ⟨_, by decide, by decide, rfl⟩
theorem e_take {P : Pr} {k : Nat} (H : P.fn n__law_take = some Fx__law_take) {a b c u : Int} (ha : 0 ≤ a) (hb : 0 ≤ b) (hb2 : Bd 62 b) (hc : 0 ≤ c) (hc2 : c < 1000000) (hu : 1 ≤ u) (hu2 : Bd 64 u) :
    ∃ r a' c', evF P (k + 1) n__law_take [.io (potD a b c), .im (.int u)] = .ok (.int r, false, [.io (potD a' b c'), .im (.int u)]) ∧ 0 ≤ r ∧ r < u ∧ 0 ≤ a' ∧ a' ≤ a ∧ c ≤ c' ∧ c' ≤ c + 1 := by
  have hul : u.natAbs.log2 < 9000 := by have := hu2.log (by decide); omega
  by_cases g : 0 < a
  · refine ⟨a % u, a / u, c, ?_, Int.emod_nonneg _ (by omega), Int.emod_lt_of_pos _ (by omega), Int.ediv_nonneg ha (by omega), Int.ediv_le_self _ ha, by omega, by omega⟩
    rw [evF_succ H]
    simp_arith [Fx__law_take, potD, potI, potI1, potI2, potS0, potS2, biInt_int, decide_eq_true g, binop_mod (show 0 < u by omega), binop_div (show 0 < u by omega) hul]
  · have hd : decide (0 < a) = false := decide_eq_false g
    obtain ⟨p, p0, p1, ep⟩ := prime_at ((c + 1) % 5) (Int.emod_nonneg _ (by decide)) (Int.emod_lt_of_pos _ (by decide))
    have bc : Bd 30 (c + 1) := .of (by omega) (by omega)
    have b1 : Bd 30 98897 := by unfold Bd; decide
    have b2 := b1.mul bc
    have b3 := b2.mul bc
    have b4 : Bd 91 (b + 98897 * (c + 1) * (c + 1)) := (hb2.mono (by decide)).add b3
    have b5 : Bd 92 (b + 98897 * (c + 1) * (c + 1) + 101) := b4.add (by unfold Bd; decide)
    have hbits := bits_le b5 (by decide)
    have m1 := Int.emod_nonneg ((b + 98897 * (c + 1) * (c + 1) + 101) ^ 3) (show p ≠ 0 by omega)
    have m2 := Int.emod_lt_of_pos ((b + 98897 * (c + 1) * (c + 1) + 101) ^ 3) p0
    generalize hx : (b + 98897 * (c + 1) * (c + 1) + 101) ^ 3 % p = x at *
    have bx : Bd 31 x := .of m1 (by omega)
    have b6 : Bd 30 197 := by unfold Bd; decide
    have n1 := Int.emod_nonneg x (show (10531 : Int) ≠ 0 by decide)
    have n2 := Int.emod_lt_of_pos x (show (0 : Int) < 10531 by decide)
    have b7 : Bd 61 (x % 10531 + 197 * (c + 1)) := Bd.add (k := 60) (.of n1 (by omega)) (b6.mul bc)
    have hp3 : (Builtin.Int.intBits (b + 98897 * (c + 1) * (c + 1) + 101) : Int) * 3 ≤ 134217728 := by omega
    have hpow := binop_pow (i := b + 98897 * (c + 1) * (c + 1) + 101) (j := 3) (by decide) hp3
    rw [show ((3 : Int)).toNat = 3 from rfl] at hpow
    have hz : sizeOk 5 = true := by decide
    refine ⟨(x * (x % 10531 + 197 * (c + 1)) % 2305843009213693907 / 179) % u, a, c + 1, ?_, Int.emod_nonneg _ (by omega), Int.emod_lt_of_pos _ (by omega), ha, by omega, by omega, by omega⟩
    rw [evF_succ H]
    simp_arith [Fx__law_take, potD, potI, potI1, potI2, potS0, potS2, biInt_int, hd, hz, ep, hpow, hx, binop_mod (show (0 : Int) < 5 by decide), binop_mod p0, binop_mod (show (0 : Int) < 10531 by decide), binop_mod (show (0 : Int) < 2305843009213693907 by decide), binop_mod (show 0 < u by omega), binop_div (show (0 : Int) < 179 by decide) (show ((179 : Int)).natAbs.log2 < 9000 by decide), mul_ok b1 bc (by decide) (by decide) (by decide), mul_ok b2 bc (by decide) (by decide) (by decide), mul_ok b6 bc (by decide) (by decide) (by decide), mul_ok bx b7 (by decide) (by decide) (by decide)]
end Mini

set_option linter.all false
set_option Elab.async false
set_option maxRecDepth 100000
set_option maxHeartbeats 1000000
set_option exponentiation.threshold 2000
namespace Mini
open PySem L2 TL
theorem biAbs_int (i : Int) : biAbs [.int i] = .ok (.int (if i < 0 then -i else i), false) := rfl
theorem biInt_bl (b : Bool) : biInt [.bl b] = .ok (.int (if b then 1 else 0), false) := rfl
theorem item_frz (l : List D) (i : Int) : item (.frz l) (.int i) = R.of (L2.atI l i) := rfl
theorem biLen_frz (l : List D) : biLen [.frz l] = .ok (.int l.length, false) := rfl
noncomputable def bigM : Int := (10 ^ 60) ^ 5
theorem bigM_pos : 0 < bigM := by decide +kernel
theorem bigM_bd : Bd 1000 bigM := by unfold Bd; decide +kernel
theorem pow1 : binop .Pow (.int 10) (.int 60) = .ok (.int (10 ^ 60), false) := binop_pow (by decide) (by decide +kernel)
theorem pow2 : binop .Pow (.int (10 ^ 60)) (.int 5) = .ok (.int bigM, false) := binop_pow (by decide) (by decide +kernel)
theorem pow3 : binop .Pow (.int 10) (.int 18) = .ok (.int (10 ^ 18), false) := binop_pow (by decide) (by decide +kernel)
theorem ifb_bd (q : Bool) : Bd 2 (if q = true then (1 : Int) else 0) := by cases q <;> (unfold Bd; decide)
theorem ifb_nn (q : Bool) : 0 ≤ (if q = true then (1 : Int) else 0) := by cases q <;> decide
theorem rangeD_len (lo : Int) (n : Nat) : (rangeD lo n).length = n := by simp [rangeD]
theorem e_pot {P : Pr} {k : Nat} (H : P.fn n__law_pot = some Fx__law_pot) {ns : List Int} {j : Nat} (hj : j < 1000) (hl : ns.length < 1000) :
    ∃ a b, evF P (k + 1) n__law_pot [.im (.frz (ns.map .int)), .im (.int j)] = .ok (potD a b 0, true, [.im (.frz (ns.map .int)), .im (.int j)]) ∧ 0 ≤ a ∧ 0 ≤ b ∧ Bd 62 b := by
  have key : ∀ v : Int, (if (j : Int) < ns.length then item (.frz (ns.map .int)) (.int j) = .ok (.int v) else v = 293 * j + 139) →
      ∃ a b, evF P (k + 1) n__law_pot [.im (.frz (ns.map .int)), .im (.int j)] = .ok (potD a b 0, true, [.im (.frz (ns.map .int)), .im (.int j)]) ∧ 0 ≤ a ∧ 0 ≤ b ∧ Bd 62 b := fun v hv => by
    have bj : Bd 30 (j : Int) := bdN (by omega)
    have b1 : Bd 30 293 := by unfold Bd; decide
    have b2 : Bd 30 7841 := by unfold Bd; decide
    have b3 : Bd 30 74561 := by unfold Bd; decide
    have m1 := Int.emod_nonneg (if v < 0 then -v else v) (show bigM ≠ 0 by have := bigM_pos; omega)
    have m2 := Int.emod_lt_of_pos (if v < 0 then -v else v) bigM_pos
    have bm : Bd 1000 ((if v < 0 then -v else v) % bigM) := bigM_bd.le m1 (by omega)
    have bone : Bd 2 (if decide (10 ^ 18 ≤ (if v < 0 then -v else v)) = true then (1 : Int) else 0) := ifb_bd _
    have n1 := Int.emod_nonneg v (show (2305843009213693951 : Int) ≠ 0 by decide)
    have n2 := Int.emod_lt_of_pos v (show (0 : Int) < 2305843009213693951 by decide)
    have bn : Bd 62 (v % 2305843009213693951) := .of n1 (by omega)
    have hz : sizeOk 3 = true := by decide
    refine ⟨(if v < 0 then -v else v) % bigM * (if decide (10 ^ 18 ≤ (if v < 0 then -v else v)) = true then (1 : Int) else 0), (v % 2305843009213693951 * 74561 + 7841 * (j : Int) * j + 211) % 2305843009213693921, ?_, Int.mul_nonneg m1 (ifb_nn _), Int.emod_nonneg _ (by decide), .of (Int.emod_nonneg _ (by decide)) (Int.lt_trans (Int.emod_lt_of_pos _ (by decide)) (by decide))⟩
    rw [evF_succ H]
    by_cases g : (j : Int) < ns.length
    · rw [if_pos g] at hv
      simp_arith [Fx__law_pot, potD, biLen_frz, List.length_map, decide_eq_true g, hv, biAbs_int, biInt_int, biInt_bl, pow1, pow2, pow3, binop_mod bigM_pos, mul_ok bm bone (by decide) (by decide) (by decide), binop_mod (show (0 : Int) < 2305843009213693951 by decide), binop_mod (show (0 : Int) < 2305843009213693921 by decide), mul_ok bn b3 (by decide) (by decide) (by decide), mul_ok b2 bj (by decide) (by decide) (by decide), mul_ok (b2.mul bj) bj (by decide) (by decide) (by decide), hz]
    · rw [if_neg g] at hv
      simp_arith [Fx__law_pot, potD, biLen_frz, List.length_map, decide_eq_false g, mul_ok b1 bj (by decide) (by decide) (by decide), ← hv, biAbs_int, biInt_int, biInt_bl, pow1, pow2, pow3, binop_mod bigM_pos, mul_ok bm bone (by decide) (by decide) (by decide), binop_mod (show (0 : Int) < 2305843009213693951 by decide), binop_mod (show (0 : Int) < 2305843009213693921 by decide), mul_ok bn b3 (by decide) (by decide) (by decide), mul_ok b2 bj (by decide) (by decide) (by decide), mul_ok (b2.mul bj) bj (by decide) (by decide) (by decide), hz]
  by_cases g : (j : Int) < ns.length
  · have hj2 : j < ns.length := by omega
    refine key ns[j] ?_
    rw [if_pos g, item_frz, atI_nat (xs := ns.map D.int) (j := j) (v := .int ns[j]) (by simp [hj2])]
    rfl
  · refine key (293 * j + 139) ?_
    rw [if_neg g]
theorem rng_cells (m : Int) (h0 : 1 ≤ m) (h1 : m ≤ 1000) : ranged [.int m] = .ok (rangeD 0 m.toNat) := ranged1 (by omega) (by omega)
theorem biMax_int (i j : Int) : biMax [.int i, .int j] = .ok (.int (if j > i then j else i), false) := rfl
theorem e_cells {P : Pr} {k : Nat} (H : P.fn n__law_cells = some Fx__law_cells) {ns : List Int} {lim : Int} (h : lim ≤ 1000) :
    ∃ n : Nat, n ≤ 1000 ∧ evF P (k + 1) n__law_cells [.im (.frz (ns.map .int)), .im (.int lim)] = .ok (.lst (rangeD 0 n), true, [.im (.frz (ns.map .int)), .im (.int lim)]) := by
  have h1 : 1 ≤ (if (if (ns.length : Int) < lim then (ns.length : Int) else lim) > 1 then (if (ns.length : Int) < lim then (ns.length : Int) else lim) else 1) := by split <;> omega
  have h2 : (if (if (ns.length : Int) < lim then (ns.length : Int) else lim) > 1 then (if (ns.length : Int) < lim then (ns.length : Int) else lim) else 1) ≤ 1000 := by split <;> (try split) <;> omega
  have hr := rng_cells _ h1 h2
  refine ⟨(if (if (ns.length : Int) < lim then (ns.length : Int) else lim) > 1 then (if (ns.length : Int) < lim then (ns.length : Int) else lim) else 1).toNat, by omega, ?_⟩
  rw [evF_succ H]
  have hz : sizeOk (rangeD 0 (if (if (ns.length : Int) < lim then (ns.length : Int) else lim) > 1 then (if (ns.length : Int) < lim then (ns.length : Int) else lim) else 1).toNat).length = true := decide_eq_true (by rw [rangeD_len]; omega)
  simp_arith [Fx__law_cells, biLen_frz, List.length_map, biMin_int, biMax_int, hr, hz]
end Mini

set_option linter.all false
set_option Elab.async false
set_option maxRecDepth 100000
set_option maxHeartbeats 1000000
namespace Mini
open PySem L2 TL
/-! ### texts that laws write -/
/-- a whole text of a rule, as one literal -/
theorem text_lit {x : Str} {r : RV} (h : tl x = tl r.text) : x = r.text := tl_inj h
end Mini

set_option linter.all false
set_option Elab.async false
set_option maxRecDepth 100000
set_option maxHeartbeats 1000000
namespace Mini
open PySem L2 TL
/-! ### equality of nested plain data -/
mutual
noncomputable def dOk : D → Bool
  | .non => true | .bl _ => true | .int _ => true
  | .str z => PyData.strOk z
  | .tup l => dOkL l | .lst l => dOkL l
  | _ => false
noncomputable def dOkL : List D → Bool
  | [] => true
  | d :: l => dOk d && dOkL l
end
mutual
noncomputable def dDep : D → Nat
  | .tup l => dDepL l + 1 | .lst l => dDepL l + 1
  | _ => 0
noncomputable def dDepL : List D → Nat
  | [] => 0
  | d :: l => max (dDep d) (dDepL l)
end
mutual
noncomputable def dEq : D → D → Bool
  | .non, .non => true
  | .bl a, .bl b => a == b
  | .bl a, .int j => (if a then 1 else 0) == j
  | .int i, .bl b => i == (if b then 1 else 0)
  | .int i, .int j => i == j
  | .str x, .str y => x == y
  | .lst x, .lst y => dEqL x y
  | .tup x, .tup y => dEqL x y
  | _, _ => false
noncomputable def dEqL : List D → List D → Bool
  | [], [] => true
  | x :: xs, y :: ys => dEq x y && dEqL xs ys
  | _, _ => false
end
mutual
theorem toPy_ok : ∀ {d : D}, dOk d = true → ∃ p, toPy d = some p ∧ p.canLay0 = true ∧ p.depth = dDep d
  | .non, _ => ⟨_, rfl, rfl, rfl⟩
  | .bl _, _ => ⟨_, rfl, rfl, rfl⟩
  | .int _, _ => ⟨_, rfl, rfl, rfl⟩
  | .str _, h => ⟨_, rfl, by simpa [dOk, PyData.canLay0] using h, rfl⟩
  | .tup l, h => by
    obtain ⟨ps, h1, h2, h3⟩ := toPyL_ok (l := l) (by simpa [dOk] using h)
    exact ⟨.tuple ps, by simp only [toPy, h1, Option.map_some], by simpa [PyData.canLay0] using h2, by simp only [PyData.depth, dDep, h3]⟩
  | .lst l, h => by
    obtain ⟨ps, h1, h2, h3⟩ := toPyL_ok (l := l) (by simpa [dOk] using h)
    exact ⟨.list ps, by simp only [toPy, h1, Option.map_some], by simpa [PyData.canLay0] using h2, by simp only [PyData.depth, dDep, h3]⟩
  | .dic _ _, h => by simp [dOk] at h
  | .frz _, h => by simp [dOk] at h
  | .ins _ _ _, h => by simp [dOk] at h
  | .exc _ _, h => by simp [dOk] at h
theorem toPyL_ok : ∀ {l : List D}, dOkL l = true → ∃ ps, toPyL l = some ps ∧ PyData.canLayAll0 ps = true ∧ PyData.depthAll ps = dDepL l
  | [], _ => ⟨[], rfl, rfl, rfl⟩
  | d :: l, h => by
    simp only [dOkL, Bool.and_eq_true] at h
    obtain ⟨p, h1, h2, h3⟩ := toPy_ok h.1
    obtain ⟨ps, g1, g2, g3⟩ := toPyL_ok h.2
    exact ⟨p :: ps, by simp only [toPyL, h1, g1, Option.bind_some, Option.map_some], by simp only [PyData.canLayAll0, h2, g2, Bool.and_self], by simp only [PyData.depthAll, dDepL, h3, g3]⟩
end
mutual
theorem eqv_dEq : ∀ {d e : D} {p q : PyData}, toPy d = some p → toPy e = some q → PyData.eqv p q = dEq d e
  | d, e, p, q, h1, h2 => by
    cases d <;> cases e <;> simp only [toPy, Option.some.injEq, reduceCtorEq] at h1 h2 <;> first
      | (subst h1; subst h2; simp only [PyData.eqv, dEq]; done)
      | (obtain ⟨ps, a1, rfl⟩ := Option.map_eq_some_iff.mp h1; obtain ⟨qs, b1, rfl⟩ := Option.map_eq_some_iff.mp h2; simp only [PyData.eqv, dEq]; first | done | exact eqv_dEqL a1 b1)
      | (obtain ⟨ps, a1, rfl⟩ := Option.map_eq_some_iff.mp h1; subst h2; simp only [PyData.eqv, dEq]; done)
      | (obtain ⟨ps, a1, rfl⟩ := Option.map_eq_some_iff.mp h2; subst h1; simp only [PyData.eqv, dEq]; done)
theorem eqv_dEqL : ∀ {l m : List D} {ps qs : List PyData}, toPyL l = some ps → toPyL m = some qs → PyData.eqvAll ps qs = dEqL l m
  | [], [], _, _, h1, h2 => by
    simp only [toPyL, Option.some.injEq] at h1 h2; subst h1; subst h2; simp only [PyData.eqvAll, dEqL]
  | [], e :: m, _, _, h1, h2 => by
    simp only [toPyL, Option.some.injEq, Option.bind_eq_some_iff, Option.map_eq_some_iff] at h1 h2
    obtain ⟨q, _, qs, _, rfl⟩ := h2
    subst h1; simp only [PyData.eqvAll, dEqL]
  | d :: l, [], _, _, h1, h2 => by
    simp only [toPyL, Option.some.injEq, Option.bind_eq_some_iff, Option.map_eq_some_iff] at h1 h2
    obtain ⟨q, _, qs, _, rfl⟩ := h1
    subst h2; simp only [PyData.eqvAll, dEqL]
  | d :: l, e :: m, _, _, h1, h2 => by
    simp only [toPyL, Option.bind_eq_some_iff, Option.map_eq_some_iff] at h1 h2
    obtain ⟨p, p1, ps, p2, rfl⟩ := h1
    obtain ⟨q, q1, qs, q2, rfl⟩ := h2
    simp only [PyData.eqvAll, dEqL, eqv_dEq p1 q1, eqv_dEqL p2 q2]
end
theorem deq_dEq {d e : D} (h1 : dOk d = true) (h2 : dOk e = true) (h3 : dDep d ≤ 64) (h4 : dDep e ≤ 64) : deq d e = .ok (dEq d e) := by
  obtain ⟨p, p1, p2, p3⟩ := toPy_ok h1
  obtain ⟨q, q1, q2, q3⟩ := toPy_ok h2
  have s1 : SeqAt.shaped p = true := by simp only [SeqAt.shaped, p2, p3, Bool.true_and, decide_eq_true_eq]; exact h3
  have s2 : SeqAt.shaped q = true := by simp only [SeqAt.shaped, q2, q3, Bool.true_and, decide_eq_true_eq]; exact h4
  simp only [deq, p1, q1, R.of_some, R.bind_ok, s1, s2, Bool.and_self, R.guard_true, eqv_dEq p1 q1]
mutual
theorem dEq_refl : ∀ {d : D}, dOk d = true → dEq d d = true
  | .non, _ => by simp only [dEq]
  | .bl _, _ => by simp only [dEq, beq_self_eq_true]
  | .int _, _ => by simp only [dEq, beq_self_eq_true]
  | .str _, _ => by simp only [dEq, beq_self_eq_true]
  | .tup l, h => by simp only [dEq]; exact dEqL_refl (by simpa [dOk] using h)
  | .lst l, h => by simp only [dEq]; exact dEqL_refl (by simpa [dOk] using h)
  | .dic _ _, h => by simp [dOk] at h
  | .frz _, h => by simp [dOk] at h
  | .ins _ _ _, h => by simp [dOk] at h
  | .exc _ _, h => by simp [dOk] at h
theorem dEqL_refl : ∀ {l : List D}, dOkL l = true → dEqL l l = true
  | [], _ => by simp only [dEqL]
  | d :: l, h => by
    simp only [dOkL, Bool.and_eq_true] at h
    simp only [dEqL, dEq_refl h.1, dEqL_refl h.2, Bool.and_self]
end
theorem deq_self {d : D} (h : dOk d = true) (h3 : dDep d ≤ 64) : deq d d = .ok true := by rw [deq_dEq h h h3 h3, dEq_refl h]
end Mini

set_option linter.all false
set_option Elab.async false
set_option maxRecDepth 100000
set_option maxHeartbeats 2000000
namespace Mini
open PySem L2 TL
instance (k : Nat) (i : Int) : Decidable (Bd k i) := by unfold Bd; infer_instance
structure HK13 (P : Pr) : Prop extends HTm P, HAd P, HBx P where
  m_times : P.meth 508 = some (28, 24)
  take : P.fn n__law_take = some Fx__law_take
  pot : P.fn n__law_pot = some Fx__law_pot
  cells : P.fn n__law_cells = some Fx__law_cells
  worths_right : P.fn n__law_are_worths_right = some Fx__law_are_worths_right
  plain_right : P.fn n__law_are_plain_right = some Fx__law_are_plain_right
  made_right : P.fn n__law_are_made_right = some Fx__law_are_made_right
/-! ### worths -/
end Mini

set_option linter.all false
set_option Elab.async false
set_option maxRecDepth 100000
set_option maxHeartbeats 2000000
namespace Mini
open PySem L2 TL
section
variable {P : Pr} {k : Nat} (H : HK13 P)
include H
end
end Mini

set_option linter.all false
set_option Elab.async false
set_option maxRecDepth 100000
set_option maxHeartbeats 2000000
namespace Mini
open PySem L2 TL
/-! ### plain -/
section
variable {P : Pr} {k : Nat} (H : HK13 P)
include H
end
end Mini

set_option linter.all false
set_option Elab.async false
set_option maxRecDepth 100000
set_option maxHeartbeats 4000000
namespace Mini
open PySem L2 TL
/-! ### rules made of rules -/
noncomputable def mHalf : RV := ⟨2, 2, [⟨false, 1, 1⟩, ⟨true, 1, 2⟩]⟩
noncomputable def mThirds : RV := ⟨6, 2, [⟨true, 2, 1⟩, ⟨true, 4, 2⟩]⟩
noncomputable def mR2 : RV := ⟨3, 6, [⟨false, 1, 2⟩, ⟨true, 1, 3⟩, ⟨false, 2, 4⟩, ⟨true, 2, 6⟩]⟩
theorem m1 : RV.round 1 = mHalf := by decide +kernel
theorem m2 : RV.round 2 = mR2 := by decide +kernel
theorem m3 : (mHalf.behind0 mHalf).plain = mHalf := by decide +kernel
theorem m4 : (mThirds.behind0 mHalf).plain = mThirds := by decide +kernel
theorem x1 : Str.ofString "box 2\nbound 2\nfrom 1 1\nbeyond 1 2" = mHalf.text := text_lit (by decide +kernel)
theorem x2 : Str.ofString "box 3\nbound 6\nfrom 1 2\nbeyond 1 3\nfrom 2 4\nbeyond 2 6" = mR2.text := text_lit (by decide +kernel)
section
variable {P : Pr} {k : Nat} (H : HK13 P)
include H
end
end Mini

set_option linter.all false
set_option Elab.async false
set_option maxRecDepth 100000
set_option maxHeartbeats 2000000
namespace Mini
open PySem L2 TL
/-! ### pots -/
noncomputable def Pot (n : Nat) (p : D) : Prop := ∃ a b c, p = potD a b c ∧ 0 ≤ a ∧ 0 ≤ b ∧ Bd 62 b ∧ 0 ≤ c ∧ c ≤ n
theorem Pot.mono {n m : Nat} {p : D} (h : Pot n p) (hm : n ≤ m) : Pot m p := by
  obtain ⟨a, b, c, e, h1, h2, h3, h4, h5⟩ := h
  exact ⟨a, b, c, e, h1, h2, h3, h4, by omega⟩
structure HTk (P : Pr) : Prop where
  take : P.fn n__law_take = some Fx__law_take
section
variable {P : Pr} {k : Nat} (H : HTk P)
include H
theorem pot_take {n : Nat} {p : D} (hp : Pot n p) (hn : n < 900000) {u : Int} (hu : 1 ≤ u) (hu2 : Bd 64 u) :
    ∃ (r : Nat) (p' : D), evF P (k + 1) n__law_take [.io p, .im (.int u)] = .ok (.int r, false, [.io p', .im (.int u)]) ∧ (r : Int) < u ∧ Pot (n + 1) p' := by
  obtain ⟨a, b, c, rfl, h1, h2, h3, h4, h5⟩ := hp
  obtain ⟨r, a', c', e, g1, g2, g3, g4, g5, g6⟩ := e_take (k := k) H.take h1 h2 h3 h4 (by omega) hu hu2
  refine ⟨r.toNat, potD a' b c', ?_, by omega, a', b, c', rfl, g3, h2, h3, by omega, by omega⟩
  rw [e, show ((r.toNat : Nat) : Int) = r by omega]
theorem take_io0 {j : Nat} : (cbOf P j).io 501 = true := by
  show ((P.fn 501).map (·.io)).getD false = true
  rw [show P.fn 501 = some Fx__law_take from H.take]
  rfl
/-- a take from a slot that has it lent -/
theorem take_ix {n : Nat} {p : D} (hp : Pot n p) (hn : n < 900000) {u : Int} (hu : 1 ≤ u) (hu2 : Bd 64 u) :
    ∃ (r : Nat) (p' : D), (∀ (i : Nat) (σ : Fm), lendS (cbOf P (k + 1)) 501 i [.int u] σ (some (.io p)) = .ok (.int r, false, σ.set i (.io p'))) ∧ (r : Int) < u ∧ Pot (n + 1) p' := by
  obtain ⟨r, p', e, h1, h2⟩ := pot_take (k := k) H hp hn hu hu2
  exact ⟨r, p', fun i σ => lendS_io e, h1, h2⟩
end
structure HGn (P : Pr) : Prop extends HTk P where
  of : P.fn n__law_of = some Fx__law_of
section
variable {P : Pr} {k : Nat} (H : HGn P)
include H
theorem e_of {n : Nat} {p : D} (hp : Pot n p) (hn : n < 900000) {l : List D} (hl : 0 < l.length) (hl2 : l.length < 1000000) :
    ∃ (j : Nat) (d : D) (p' : D), evF P (k + 2) n__law_of [.io p, .im (.lst l)] = .ok (d, false, [.io p', .im (.lst l)]) ∧ l[j]? = some d ∧ Pot (n + 1) p' := by
  obtain ⟨r, p', e, h1, h2⟩ := take_ix (k := k) H.toHTk hp hn (u := (l.length : Int)) (by omega) (.of (by omega) (by omega))
  have hr : r < l.length := by omega
  refine ⟨r, l[r], p', ?_, by simp [hr], h2⟩
  rw [evF_succ H.of]
  have hi : item (.lst l) (.int r) = .ok l[r] := by rw [item_lst, atI_nat (xs := l) (j := r) (v := l[r]) (by simp [hr])]; rfl
  simp_arith [Fx__law_of, biLen_lst, q_callio _ _ (take_io0 H.toHTk), callX_r, e, hi]
theorem of_io0 {j : Nat} : (cbOf P j).io 502 = true := by
  show ((P.fn 502).map (·.io)).getD false = true
  rw [show P.fn 502 = some Fx__law_of from H.of]
  rfl
theorem of_ix {n : Nat} {p : D} (hp : Pot n p) (hn : n < 900000) {l : List D} (hl : 0 < l.length) (hl2 : l.length < 1000000) :
    ∃ (j : Nat) (d : D) (p' : D), (∀ (i : Nat) (σ : Fm), lendS (cbOf P (k + 2)) 502 i [.lst l] σ (some (.io p)) = .ok (d, false, σ.set i (.io p'))) ∧ l[j]? = some d ∧ Pot (n + 1) p' := by
  obtain ⟨j, d, p', e, h1, h2⟩ := e_of (k := k) H hp hn hl hl2
  exact ⟨j, d, p', fun i σ => lendS_io e, h1, h2⟩
end
end Mini

set_option linter.all false
set_option Elab.async false
set_option maxRecDepth 100000
set_option maxHeartbeats 2000000
namespace Mini
open PySem L2 TL
/-! ### some out of a row -/
structure HSm (P : Pr) : Prop extends HGn P where
  some_ : P.fn n__law_some = some Fx__law_some
section
variable {P : Pr} {k : Nat} (H : HSm P)
include H
end
end Mini

set_option linter.all false
set_option Elab.async false
set_option maxRecDepth 100000
set_option maxHeartbeats 2000000
namespace Mini
open PySem L2 TL
/-! ### what a rule tells of a space -/
noncomputable def atF : Nat → List St → Nat → Nat
  | cur, [], _ => cur
  | cur, t :: ts, x => if x < t.p then cur else atF t.w ts x
structure HTr (P : Pr) : Prop extends HRl P where
  text : P.fn n__law_text = some Fx__law_text
  rule : P.fn n__law_rule = some Fx__law_rule
structure HLr (P : Pr) : Prop extends HRl P where
  text : P.fn n__law_text = some Fx__law_text
  rule : P.fn n__law_rule = some Fx__law_rule
  spot : P.fn n__law_spot = some Fx__law_spot
  at_ : P.fn n__law_at = some Fx__law_at
section
variable {P : Pr} {k : Nat} (H : HLr P)
include H
end
end Mini

set_option linter.all false
set_option Elab.async false
set_option maxRecDepth 100000
set_option maxHeartbeats 2000000
namespace Mini
open PySem L2 TL
section
variable {P : Pr} {k : Nat} (H : HLr P)
include H
end
section
variable {P : Pr} {k : Nat} (H : HTr P)
include H
end
section
variable {P : Pr} {k : Nat} (H : HLr P)
include H
end
end Mini

set_option linter.all false
set_option Elab.async false
set_option maxRecDepth 100000
set_option maxHeartbeats 2000000
namespace Mini
open PySem L2 TL
/-! ### a rule's lore otherwise -/
structure HLw (P : Pr) : Prop where
  with_ : P.fn n__law_with = some Fx__law_with
section
variable {P : Pr} {k : Nat} (H : HLw P)
include H
end
/-! ### numbers in lowest terms, by the law's own way -/
structure HNb (P : Pr) : Prop where
  number : P.fn n__law_number = some Fx__law_number
  lim : 10000 ≤ P.lim
theorem gcd_turn {b r : Nat} {a : Nat} (h : 0 < b) : Nat.gcd a b = Nat.gcd b (a % b) := by
  rw [Nat.gcd_comm a b, Nat.gcd_rec b a, Nat.gcd_comm]
section
variable {P : Pr} {k : Nat} (H : HNb P)
include H
noncomputable def numT (P : Pr) (k : Nat) : Fm → R (Bool × Fm) := fun σ => tst (ev (cbOf P k) (.cmp .Gt (.var 3) (.lit (.int 0))) σ)
noncomputable def numB (P : Pr) (k : Nat) : Fm → R Fl := ex (cbOf P k) (.seq (.par [2, 3] (.cons (.var 3) (.cons (.bin .Mod (.var 2) (.var 3)) .nil))) .done)
theorem num_loop {X Y : D} : ∀ (m fuel a b : Nat), b < 2 ^ m → 2 * m + 1 ≤ fuel → whileLoop (numT P k) (numB P k) fuel [.im X, .im Y, .im (.int a), .im (.int b)] = .ok (.nx [.im X, .im Y, .im (.int (Nat.gcd a b : Nat)), .im (.int (0 : Nat))]) := by
  have stop : ∀ (fuel a : Nat), whileLoop (numT P k) (numB P k) (fuel + 1) [.im X, .im Y, .im (.int a), .im (.int (0 : Nat))] = .ok (.nx [.im X, .im Y, .im (.int a), .im (.int (0 : Nat))]) := fun fuel a => by
    refine whileLoop_end ?_
    have hg : decide ((0 : Int) < ((0 : Nat) : Int)) = false := rfl
    unfold numT
    simp_arith [hg]
  have go : ∀ (fuel a b : Nat), 0 < b → whileLoop (numT P k) (numB P k) (fuel + 1) [.im X, .im Y, .im (.int a), .im (.int b)] = whileLoop (numT P k) (numB P k) fuel [.im X, .im Y, .im (.int b), .im (.int (a % b : Nat))] := fun fuel a b hb => by
    have hg : decide ((0 : Int) < (b : Int)) = true := decide_eq_true (by omega)
    have hm : binop .Mod (.int (a : Int)) (.int (b : Int)) = .ok (.int ((a : Int) % b), false) := binop_mod (by omega)
    refine whileLoop_nx (σ' := [.im X, .im Y, .im (.int a), .im (.int b)]) ?_ ?_
    · unfold numT
      simp_arith [hg]
    · unfold numB
      simp_arith [hm, Int.natCast_emod]
  intro m
  induction m with
  | zero =>
    intro fuel a b hb hf
    have e : b = 0 := by simpa using hb
    subst e
    obtain ⟨f, rfl⟩ : ∃ f, fuel = f + 1 := ⟨fuel - 1, by omega⟩
    rw [stop, Nat.gcd_zero_right]
  | succ m ih =>
    intro fuel a b hb hf
    rcases Nat.eq_zero_or_pos b with e | e
    · subst e
      obtain ⟨f, rfl⟩ : ∃ f, fuel = f + 1 := ⟨fuel - 1, by omega⟩
      rw [stop, Nat.gcd_zero_right]
    · obtain ⟨f, rfl⟩ : ∃ f, fuel = (f + 1) + 1 := ⟨fuel - 2, by omega⟩
      rw [go _ a b e, gcd_turn (r := 0) e]
      rcases Nat.eq_zero_or_pos (a % b) with e2 | e2
      · rw [e2, stop, Nat.gcd_zero_right]
      · rw [go _ b (a % b) e2, gcd_turn (r := 0) e2]
        refine ih f (a % b) (b % (a % b)) ?_ (by omega)
        have h1 : a % b < b := Nat.mod_lt _ e
        have h2 : b % (a % b) < a % b := Nat.mod_lt _ e2
        have h3 : b % (a % b) + (a % b) ≤ b := by
          have := Nat.mod_add_div b (a % b)
          have h4 : 1 ≤ b / (a % b) := (Nat.one_le_div_iff e2).mpr (by omega)
          have h5 : (a % b) * 1 ≤ (a % b) * (b / (a % b)) := Nat.mul_le_mul_left _ h4
          omega
        have h6 : 2 ^ (m + 1) = 2 * 2 ^ m := by rw [Nat.pow_succ]; omega
        omega
theorem e_number {a b : Nat} (hb : 0 < b) (ha : a < 2 ^ 64) (hb2 : b < 2 ^ 64) : evF P (k + 1) n__law_number [.im (.int a), .im (.int b)] = .ok (Pt.d (low a b), false, [.im (.int a), .im (.int b)]) := by
  rw [evF_succ H.number]
  have hl := num_loop (P := P) (k := k) H (X := .int a) (Y := .int b) 64 P.lim a b hb2 (by have := H.lim; omega)
  have hg : 0 < Nat.gcd a b := Nat.gcd_pos_of_pos_right _ hb
  have hgl : Nat.gcd a b ≤ b := Nat.gcd_le_right _ hb
  have bg : Bd 64 ((Nat.gcd a b : Nat) : Int) := by unfold Bd; rw [Int.natAbs_natCast]; omega
  have lg : (((Nat.gcd a b : Nat) : Int)).natAbs.log2 < 9000 := by have := bg.log (by decide); omega
  have d1 : binop .FloorDiv (.int (a : Int)) (.int ((Nat.gcd a b : Nat) : Int)) = .ok (.int ((a : Int) / (Nat.gcd a b : Nat)), false) := binop_div (by omega) lg
  have d2 : binop .FloorDiv (.int (b : Int)) (.int ((Nat.gcd a b : Nat) : Int)) = .ok (.int ((b : Int) / (Nat.gcd a b : Nat)), false) := binop_div (by omega) lg
  have hz : sizeOk 2 = true := by decide
  have ht : (fun σ => tst (ev (cbOf P k) (.cmp .Gt (.var 3) (.lit (.int 0))) σ)) = numT P k := rfl
  have hb' : ex (cbOf P k) (.seq (.par [2, 3] (.cons (.var 3) (.cons (.bin .Mod (.var 2) (.var 3)) .nil))) .done) = numB P k := rfl
  have hw : ex (cbOf P k) (.whl (.cmp .Gt (.var 3) (.lit (.int 0))) (.seq (.par [2, 3] (.cons (.var 3) (.cons (.bin .Mod (.var 2) (.var 3)) .nil))) .done)) [.im (.int a), .im (.int b), .im (.int a), .im (.int b)] = .ok (.nx [.im (.int a), .im (.int b), .im (.int (Nat.gcd a b : Nat)), .im (.int (0 : Nat))]) := hl
  have hlow : Pt.d (low a b) = .tup [.int ((a : Int) / (Nat.gcd a b : Nat)), .int ((b : Int) / (Nat.gcd a b : Nat))] := rfl
  rw [hlow]
  simp_arith [Fx__law_number, biInt_int, hw, d1, d2, hz, -x_whl]
end
end Mini

set_option linter.all false
set_option Elab.async false
set_option maxRecDepth 100000
set_option maxHeartbeats 2000000
namespace Mini
open PySem L2 TL
/-! ### sizes -/
theorem low_num {n d : Int} (h0 : 0 ≤ n) (hd : 0 < d) : IsNum (low n d).1 (low n d).2 := by
  have hg := gN_pos (n := n) hd
  have e := low_eq (n := n) (d := d)
  refine ⟨Int.ediv_nonneg h0 (by omega), ?_, ?_⟩
  · rcases Int.lt_or_le 0 (low n d).2 with h | h
    · exact h
    · have : (low n d).2 * gN n d ≤ 0 := Int.mul_nonpos_of_nonpos_of_nonneg h (by omega)
      omega
  · have h1 : Int.gcd ((low n d).1 * gN n d) ((low n d).2 * gN n d) = Int.gcd (low n d).1 (low n d).2 * (gN n d).natAbs := Int.gcd_mul_right ..
    rw [e.1, e.2] at h1
    have h2 : (gN n d).natAbs = Int.gcd n d := by unfold gN; exact Int.natAbs_natCast _
    rw [h2] at h1
    have h3 : 0 < Int.gcd n d := by unfold gN at hg; omega
    have h4 : 1 * Int.gcd n d = Int.gcd (low n d).1 (low n d).2 * Int.gcd n d := by rw [Nat.one_mul]; exact h1
    exact (Nat.eq_of_mul_eq_mul_right h3 h4).symm
theorem low_le {n d c : Int} (hd : 0 < d) (h : n ≤ c * d) : (low n d).1 ≤ c * (low n d).2 := by
  have hg := gN_pos (n := n) hd
  have e := low_eq (n := n) (d := d)
  have h1 : (low n d).1 * gN n d ≤ (c * (low n d).2) * gN n d := by
    rw [e.1, Int.mul_assoc, e.2]; exact h
  exact Int.le_of_mul_le_mul_right h1 hg
theorem low_pos {n d : Int} (h : 0 < n) (hd : 0 < d) : 0 < (low n d).1 := by
  have hg := gN_pos (n := n) hd
  have e := (low_eq (n := n) (d := d)).1
  rcases Int.lt_or_le 0 (low n d).1 with h2 | h2
  · exact h2
  · have : (low n d).1 * gN n d ≤ 0 := Int.mul_nonpos_of_nonpos_of_nonneg h2 (by omega)
    omega
/-- a size of a box -/
structure Siz (box : Nat) (a b : Int) : Prop where
  n : IsNum a b
  pos : 0 < a
  le : a ≤ box * b
  bd : Bd 64 b
theorem low_siz {box a b : Nat} (ha : 0 < a) (hb : 0 < b) (hle : a ≤ box * b) (hB : b < 2 ^ 64) : Siz box (low a b).1 (low a b).2 := by
  have hb' : (0 : Int) < b := by omega
  refine ⟨low_num (by omega) hb', low_pos (by omega) hb', low_le hb' (by rw [← Int.natCast_mul]; omega), ?_⟩
  have h1 := low_num (n := a) (d := b) (by omega) hb'
  have h2 : (low (a : Int) (b : Int)).2 ≤ b := Int.ediv_le_self _ (by omega)
  have := h1.2.1
  unfold Bd
  omega
structure HSp (P : Pr) : Prop where
  space : P.fn n__law_space = some Fx__law_space
section
variable {P : Pr} {k : Nat} (H : HSp P)
include H
end
structure HWo (P : Pr) : Prop extends HLr P, HSp P where
  worth : P.fn n__law_worth = some Fx__law_worth
section
variable {P : Pr} {k : Nat} (H : HWo P)
include H
end
end Mini

set_option linter.all false
set_option Elab.async false
set_option maxRecDepth 100000
set_option maxHeartbeats 2000000
namespace Mini
open PySem L2 TL
theorem e_numberI {P : Pr} {k : Nat} (H : HNb P) {a b : Int} (h0 : 0 ≤ a) (hb : 0 < b) (ha : a < 2 ^ 64) (hb2 : b < 2 ^ 64) : evF P (k + 1) n__law_number [.im (.int a), .im (.int b)] = .ok (Pt.d (low a b), false, [.im (.int a), .im (.int b)]) := by
  obtain ⟨n, rfl⟩ := Int.eq_ofNat_of_zero_le h0
  obtain ⟨m, rfl⟩ := Int.eq_ofNat_of_zero_le (Int.le_of_lt hb)
  exact e_number H (by omega) (by omega) (by omega)
theorem low_sizI {box : Nat} {a b : Int} (ha : 0 < a) (hb : 0 < b) (hle : a ≤ box * b) (hB : b < 2 ^ 64) : Siz box (low a b).1 (low a b).2 := by
  obtain ⟨n, rfl⟩ := Int.eq_ofNat_of_zero_le (Int.le_of_lt ha)
  obtain ⟨m, rfl⟩ := Int.eq_ofNat_of_zero_le (Int.le_of_lt hb)
  exact low_siz (by omega) (by omega) (by rw [← Int.natCast_mul] at hle; omega) (by omega)
structure HSz (P : Pr) : Prop extends HGn P, HNb P where
  size : P.fn n__law_size = some Fx__law_size
theorem pow6 : binop .Pow (.int 10) (.int 6) = .ok (.int 1000000, false) := binop_pow (by decide) (by decide +kernel)
section
variable {P : Pr} {k : Nat} (H : HSz P)
include H
theorem e_sizeB {n : Nat} {p : D} (hp : Pot n p) (hn : n < 800000) {box : Nat} (h1 : 1 ≤ box) (h2 : box ≤ 1000) :
    ∃ (a b : Int) (p' : D), evF P (k + 3) n__law_size [.io p, .im (.int box)] = .ok (sz a b, false, [.io p', .im (.int box)]) ∧ Siz box a b ∧ b < 2 ^ 30 ∧ Pot (n + 5) p' := by
  obtain ⟨w, p1, e1, w5, hp1⟩ := take_ix (k := k + 1) H.toHTk hp (by omega) (u := 5) (by decide) (by decide)
  obtain ⟨at_, p2, e2, hat, hp2⟩ := take_ix (k := k + 1) H.toHTk hp1 (by omega) (u := (box : Int)) (by omega) (.of (by omega) (by omega))
  obtain ⟨j, d, p3, e3, hj, hp3⟩ := of_ix (k := k) H.toHGn hp2 (by omega) (l := [.int 3, .int 9, .int 1000000]) (by decide) (by decide)
  have hd : ∃ u : Int, d = .int u ∧ 3 ≤ u ∧ u ≤ 1000000 := by
    match j, hj with
    | 0, e => cases e; exact ⟨3, rfl, by decide, by decide⟩
    | 1, e => cases e; exact ⟨9, rfl, by decide, by decide⟩
    | 2, e => cases e; exact ⟨1000000, rfl, by decide, by decide⟩
    | j + 3, e => simp at e
  obtain ⟨u, rfl, u1, u2⟩ := hd
  obtain ⟨v, p4, e4, hv, hp4⟩ := take_ix (k := k + 1) H.toHTk hp3 (by omega) (u := u) (by omega) (.of (by omega) (by omega))
  have hU : (0 : Int) < 2 + (v : Int) := by omega
  have bU : Bd 30 (2 + (v : Int)) := .of (by omega) (by omega)
  have bA : Bd 30 (at_ : Int) := .of (by omega) (by omega)
  have hm := mul_ok bA bU (by decide) (by decide) (by decide)
  have hM0 : 0 ≤ (at_ : Int) * (2 + (v : Int)) := Int.mul_nonneg (by omega) (by omega)
  have hM1 : (at_ : Int) * (2 + (v : Int)) ≤ (box - 1) * (2 + (v : Int)) := Int.mul_le_mul_of_nonneg_right (by omega) (by omega)
  have hM2 : ((box : Int) - 1) * (2 + (v : Int)) = box * (2 + (v : Int)) - (2 + (v : Int)) := by rw [Int.sub_mul, Int.one_mul]
  have hM3 : (box : Int) * (2 + (v : Int)) ≤ 1000 * (2 + (v : Int)) := Int.mul_le_mul_of_nonneg_right (by omega) (by omega)
  have hz1 : sizeOk 2 = true := by decide
  have hz3 : sizeOk 3 = true := by decide
  simp only [Nat.add_assoc, Nat.reduceAdd] at e1 e2 e4
  generalize hMM : (at_ : Int) * (2 + (v : Int)) = M at *
  by_cases g1 : (w : Int) < 2
  · refine ⟨at_ + 1, 1, p4, ?_, ⟨⟨by omega, by decide, ?_⟩, by omega, by omega, by unfold Bd; decide⟩, by decide, hp4.mono (by omega)⟩
    · rw [evF_succ H.size]
      simp_arith [Fx__law_size, q_callio _ _ (take_io0 H.toHTk), q_callio _ _ (of_io0 H.toHGn), callX_r, e1, e2, e3, e4, pow6, hz1, hz3, decide_eq_true g1, sz]
    · exact Int.gcd_one_right _
  · by_cases g2 : (w : Int) = 4
    · obtain ⟨x, p5, e5, hx, hp5⟩ := take_ix (k := k + 1) H.toHTk hp4 (by omega) (u := 2 + (v : Int)) (by omega) (bU.mono (by decide))
      simp only [Nat.add_assoc, Nat.reduceAdd] at e5
      have en := e_numberI (k := k + 1) H.toHNb (a := M + 1 + (x : Int)) (b := 2 + (v : Int)) (by omega) hU (by omega) (by omega)
      have hs := low_sizI (box := box) (a := M + 1 + (x : Int)) (b := 2 + (v : Int)) (by omega) hU (by omega) (by omega)
      refine ⟨_, _, p5, ?_, hs, by have : (low (M + 1 + (x : Int)) (2 + (v : Int))).2 ≤ 2 + (v : Int) := Int.ediv_le_self _ (by omega); omega, hp5.mono (by omega)⟩
      rw [evF_succ H.size]
      simp only [Pt.d, sz] at en ⊢
      simp_arith [Fx__law_size, q_callio _ _ (take_io0 H.toHTk), q_callio _ _ (of_io0 H.toHGn), callX_r, e1, e2, e3, e4, e5, pow6, hz1, hz3, decide_eq_false g1, deq_int, decide_eq_true g2, hm, q_call _ (cb_io H.number), Fx__law_number, cb_call, en]
    · have hw : (w : Int) = 2 ∨ (w : Int) = 3 := by omega
      have hx : ∃ x : Int, item (.lst [.int 1, .int (2 + (v : Int) - 1)]) (.int ((w : Int) - 2)) = .ok (.int x) ∧ 1 ≤ x ∧ x ≤ 2 + (v : Int) := by
        rcases hw with e | e
        · rw [e]; exact ⟨1, rfl, by decide, by omega⟩
        · rw [e]; exact ⟨2 + (v : Int) - 1, rfl, by omega, by omega⟩
      obtain ⟨x, e5, x1, x2⟩ := hx
      have en := e_numberI (k := k + 1) H.toHNb (a := M + x) (b := 2 + (v : Int)) (by omega) hU (by omega) (by omega)
      have hs := low_sizI (box := box) (a := M + x) (b := 2 + (v : Int)) (by omega) hU (by omega) (by omega)
      refine ⟨_, _, p4, ?_, hs, by have : (low (M + x) (2 + (v : Int))).2 ≤ 2 + (v : Int) := Int.ediv_le_self _ (by omega); omega, hp4.mono (by omega)⟩
      rw [evF_succ H.size]
      simp only [Pt.d, sz] at en ⊢
      simp_arith [Fx__law_size, q_callio _ _ (take_io0 H.toHTk), q_callio _ _ (of_io0 H.toHGn), callX_r, e1, e2, e3, e4, e5, pow6, hz1, hz3, decide_eq_false g1, deq_int, decide_eq_false g2, hm, q_call _ (cb_io H.number), Fx__law_number, cb_call, en]
theorem e_size {n : Nat} {p : D} (hp : Pot n p) (hn : n < 800000) {box : Nat} (h1 : 1 ≤ box) (h2 : box ≤ 1000) :
    ∃ (a b : Int) (p' : D), evF P (k + 3) n__law_size [.io p, .im (.int box)] = .ok (sz a b, false, [.io p', .im (.int box)]) ∧ Siz box a b ∧ Pot (n + 5) p' := by
  obtain ⟨a, b, p', e, h1, _, h2⟩ := e_sizeB (k := k) H hp hn h1 h2
  exact ⟨a, b, p', e, h1, h2⟩
end
end Mini

set_option linter.all false
set_option Elab.async false
set_option maxRecDepth 100000
set_option maxHeartbeats 2000000
namespace Mini
open PySem L2 TL
/-! ### plain rules, by what they tell -/
/-! texts tell the rule -/
end Mini

set_option linter.all false
set_option Elab.async false
set_option maxRecDepth 100000
set_option maxHeartbeats 2000000
namespace Mini
open PySem L2 TL
/-! ### the laws' own turns, padding, likeness -/
structure HRo (P : Pr) : Prop where
  rounding : P.fn n__law_rounding = some Fx__law_rounding
section
variable {P : Pr} {k : Nat} (H : HRo P)
include H
end
structure HTu (P : Pr) : Prop extends HLr P where
  turns : P.fn n__law_turns = some Fx__law_turns
section
variable {P : Pr} {k : Nat} (H : HTu P)
include H
end
end Mini

set_option linter.all false
set_option Elab.async false
set_option maxRecDepth 100000
set_option maxHeartbeats 2000000
namespace Mini
open PySem L2 TL
structure HPd (P : Pr) : Prop extends HTu P, HLw P, HTk P where
  padded : P.fn n__law_padded = some Fx__law_padded
section
variable {P : Pr} {k : Nat} (H : HPd P)
include H
end
end Mini

set_option linter.all false
set_option Elab.async false
set_option maxRecDepth 100000
set_option maxHeartbeats 2000000
namespace Mini
open PySem L2 TL
structure HAl (P : Pr) : Prop extends HLr P where
  alike : P.fn n__law_is_alike = some Fx__law_is_alike
section
variable {P : Pr} {k : Nat} (H : HAl P)
include H
end
/-! ### drawn rules -/
structure HLo (P : Pr) : Prop extends HSm P where
  lore : P.fn n__law_lore = some Fx__law_lore
section
variable {P : Pr} {k : Nat} (H : HLo P)
include H
end
end Mini

set_option linter.all false
set_option Elab.async false
set_option maxRecDepth 100000
set_option maxHeartbeats 4000000
namespace Mini
open PySem L2 TL
section
variable {P : Pr} {k : Nat} (H : HLo P)
include H
end
end Mini

set_option linter.all false
set_option Elab.async false
set_option maxRecDepth 100000
set_option maxHeartbeats 2000000
namespace Mini
open PySem L2 TL
/-! ### drawn lots -/
noncomputable def LP.k (p : LP) : List Key := [.inl p.a, .inl p.b]
theorem LP.k_inj {p q : LP} : p.k = q.k ↔ p.a = q.a ∧ p.b = q.b := by
  unfold LP.k
  constructor
  · intro h
    injection h with h1 h2
    injection h2 with h2 _
    exact ⟨Sum.inl.inj h1, Sum.inl.inj h2⟩
  · rintro ⟨h1, h2⟩
    rw [h1, h2]
noncomputable def addL (ps : List LP) (p : LP) : List LP := if memK p.k (ps.map LP.k) then ps.map (fun q => ⟨q.a, q.b, if q.k = p.k then p.m else q.m⟩) else ps ++ [p]
theorem addL_keys (ps : List LP) (p : LP) : (addL ps p).map LP.k = putKs p.k (ps.map LP.k) := by
  unfold addL putKs
  split
  · rw [List.map_map]; rfl
  · rw [List.map_append]; rfl
theorem repV_map (p : LP) : ∀ ps : List LP, repV p.k (.int p.m) (ps.map LP.k) (ps.map fun q => .int q.m) = ps.map fun q => D.int (if q.k = p.k then p.m else q.m)
  | [] => rfl
  | q :: ps => by
    simp only [List.map_cons, repV, repV_map p ps]
    congr 1
    split <;> rfl
theorem addL_vals (ps : List LP) (p : LP) : (addL ps p).map (fun q => D.int q.m) = putVs p.k (.int p.m) (ps.map LP.k) (ps.map fun q => .int q.m) := by
  unfold addL putVs
  split
  · rw [List.map_map, repV_map]; rfl
  · rw [List.map_append]; rfl
theorem addL_len (ps : List LP) (p : LP) : (addL ps p).length ≤ ps.length + 1 := by
  unfold addL
  split <;> simp
/-- what a drawn lot keeps -/
structure LotI (box : Nat) (ps : List LP) : Prop where
  siz : ∀ q ∈ ps, Siz box q.a q.b ∧ 1 ≤ q.m ∧ q.m ≤ 1000
  nod : (ps.map fun q => [q.a, q.b]).Nodup
theorem memK_iff (p : LP) (ps : List LP) : memK p.k (ps.map LP.k) = true ↔ ∃ q ∈ ps, q.a = p.a ∧ q.b = p.b := by
  unfold memK
  rw [List.any_map, List.any_eq_true]
  constructor
  · rintro ⟨q, hq, h⟩
    exact ⟨q, hq, LP.k_inj.mp (of_decide_eq_true h)⟩
  · rintro ⟨q, hq, h⟩
    exact ⟨q, hq, decide_eq_true (LP.k_inj.mpr h)⟩
theorem LotI.add {box : Nat} {ps : List LP} {p : LP} (h : LotI box ps) (hp : Siz box p.a p.b ∧ 1 ≤ p.m ∧ p.m ≤ 1000) : LotI box (addL ps p) := by
  unfold addL
  by_cases g : memK p.k (ps.map LP.k) = true
  · rw [if_pos g]
    refine ⟨fun q hq => ?_, ?_⟩
    · obtain ⟨q', h1, rfl⟩ := List.mem_map.mp hq
      have h2 := h.siz q' h1
      refine ⟨h2.1, ?_⟩
      show 1 ≤ (if q'.k = p.k then p.m else q'.m) ∧ (if q'.k = p.k then p.m else q'.m) ≤ 1000
      split
      · exact hp.2
      · exact h2.2
    · rw [List.map_map]
      exact h.nod
  · rw [if_neg g]
    refine ⟨fun q hq => ?_, ?_⟩
    · rcases List.mem_append.mp hq with hq | hq
      · exact h.siz q hq
      · rw [List.mem_singleton.mp hq]; exact hp
    · rw [List.map_append, List.nodup_append]
      refine ⟨h.nod, by simp, fun x hx y hy => ?_⟩
      rw [List.map_cons, List.map_nil] at hy
      rw [List.mem_singleton.mp hy]
      intro e
      subst e
      obtain ⟨q, h1, h2⟩ := List.mem_map.mp hx
      refine g ((memK_iff p ps).mpr ⟨q, h1, ?_⟩)
      injection h2 with h3 h4
      injection h4 with h4 _
      exact ⟨h3, h4⟩
theorem LotI.ok {box : Nat} {ps : List LP} (h : LotI box ps) (hb : box ≤ 1000) (hl : ps.length < 63) : LotOk ps := by
  refine ⟨fun q hq => ?_, ?_, hl⟩
  · have g := h.siz q hq
    exact ⟨g.1.n, g.1.pos, g.2.1, g.1.bd.mono (by decide), (Bd.of (k := 30) (by omega) (by omega)).mono (by decide)⟩
  · have := unlike_len (M := ps.map fun q => [q.a, q.b]) (ks := ps.map fun q => [q.a, q.b]) h.nod fun _ => Iff.rfl
    rw [← this, List.length_map]
theorem items_lot : ∀ ps : List LP, itemsD (.dit (ps.map LP.k) (ps.map fun q => .int q.m)) = .ok (ps.map LP.d) := fun ps => by
  show R.ok (((ps.map LP.k).zip (ps.map fun q => D.int q.m)).map fun p => D.tup [.tup (p.1.map kD), p.2]) = _
  congr 1
  induction ps with
  | nil => rfl
  | cons q ps ih =>
    simp only [List.map_cons, List.zip_cons_cons, ih]
    rfl
structure HLt (P : Pr) : Prop extends HSz P where
  lot : P.fn n__law_lot = some Fx__law_lot
section
variable {P : Pr} {k : Nat} (H : HLt P)
include H
theorem size_io0 {j : Nat} : (cbOf P j).io 527 = true := by
  show ((P.fn 527).map (·.io)).getD false = true
  rw [show P.fn 527 = some Fx__law_size from H.size]
  rfl
theorem lt_turn {n box : Nat} {p x b2 : D} (hp : Pot n p) (hn : n < 700000) (h1 : 1 ≤ box) (h2 : box ≤ 1000) {ps : List LP} (hI : LotI box ps) (hl : ps.length < 60) {o : Option D} :
    ∃ (ps' : List LP) (p' : D), turn (cbOf P (k + 3)) (S.forT (S.nth 1 Fx__law_lot.body)) (S.forB (S.nth 1 Fx__law_lot.body)) x [.io p, .im (.int box), .im b2, .mu (.dit (ps.map LP.k) (ps.map fun q => .int q.m)), frs o]
      = .ok (.nx [.io p', .im (.int box), .im b2, .mu (.dit (ps'.map LP.k) (ps'.map fun q => .int q.m)), frs (some x)]) ∧ LotI box ps' ∧ ps'.length ≤ ps.length + 1 ∧ Pot (n + 7) p' := by
  obtain ⟨j, d, p1, e1, hj, hp1⟩ := of_ix (k := k + 1) H.toHGn hp (by omega) (l := [.int 1, .int 3, .int 9, .int 1000]) (by decide) (by decide)
  have hd : ∃ u : Int, d = .int u ∧ 1 ≤ u ∧ u ≤ 1000 := by
    match j, hj with
    | 0, e => cases e; exact ⟨1, rfl, by decide, by decide⟩
    | 1, e => cases e; exact ⟨3, rfl, by decide, by decide⟩
    | 2, e => cases e; exact ⟨9, rfl, by decide, by decide⟩
    | 3, e => cases e; exact ⟨1000, rfl, by decide, by decide⟩
    | j + 4, e => simp at e
  obtain ⟨u, rfl, u1, u2⟩ := hd
  obtain ⟨v, p2, e2, hv, hp2⟩ := take_ix (k := k + 2) H.toHTk hp1 (by omega) (u := u) (by omega) (.of (by omega) (by omega))
  obtain ⟨a, b, p3, e3, hs, hp3⟩ := e_size (k := k) H.toHSz hp2 (by omega) h1 h2
  have e3' := fun (i : Nat) (σ : Fm) => lendS_io (i := i) (σ := σ) (f := 527) (ds := [.int box]) (C := cbOf P (k + 3)) e3
  have hm : (1 : Int) ≤ 1 + v ∧ (1 : Int) + v ≤ 1000 := by omega
  refine ⟨addL ps ⟨a, b, 1 + v⟩, p3, ?_, hI.add (p := ⟨a, b, 1 + v⟩) ⟨hs, hm⟩, addL_len _ _, hp3.mono (by omega)⟩
  have hset : setK (sz a b) (.int (1 + (v : Int))) (.dit (ps.map LP.k) (ps.map fun q => .int q.m)) = .ok (.dit ((addL ps ⟨a, b, 1 + v⟩).map LP.k) ((addL ps ⟨a, b, 1 + v⟩).map fun q => .int q.m)) := by
    rw [addL_keys, addL_vals]
    have hk : keysD [.int a, .int b] = some (LP.k ⟨a, b, 1 + v⟩) := rfl
    simp only [setK, sz, hk, R.of_some, R.bind_ok, List.length_map]
    rw [decide_eq_true (show True ∧ ps.length < 16777216 from ⟨trivial, by omega⟩)]
    rfl
  have hz4 : sizeOk 4 = true := by decide
  simp only [Nat.add_assoc, Nat.reduceAdd] at e1 e2
  rw [turn_eq]
  simp_arith [Fx__law_lot, S.nth, S.forT, S.forB, q_callio _ _ (take_io0 H.toHTk), q_callio _ _ (of_io0 H.toHGn), q_callio _ _ (size_io0 H), callX_r, e1, e2, e3', hz4, hset]
theorem lt_loop {box : Nat} {b2 : D} (h1 : 1 ≤ box) (h2 : box ≤ 1000) : ∀ (xs : List D) (n : Nat) (p : D) (ps : List LP) (o : Option D), Pot n p → n + 7 * xs.length < 700000 → LotI box ps → ps.length + xs.length < 60 →
    ∃ (ps' : List LP) (p' : D) (o' : Option D), forLoop (turn (cbOf P (k + 3)) (S.forT (S.nth 1 Fx__law_lot.body)) (S.forB (S.nth 1 Fx__law_lot.body))) xs [.io p, .im (.int box), .im b2, .mu (.dit (ps.map LP.k) (ps.map fun q => .int q.m)), frs o]
      = .ok (.nx [.io p', .im (.int box), .im b2, .mu (.dit (ps'.map LP.k) (ps'.map fun q => .int q.m)), frs o']) ∧ LotI box ps' ∧ ps'.length ≤ ps.length + xs.length ∧ Pot (n + 7 * xs.length) p'
  | [], n, p, ps, o, hp, _, hI, _ => ⟨ps, p, o, by rw [forLoop_nil], hI, by simp, hp⟩
  | x :: xs, n, p, ps, o, hp, hn, hI, hl => by
    simp only [List.length_cons] at hn hl
    obtain ⟨ps1, p1, e1, hI1, l1, hp1⟩ := lt_turn (k := k) H (x := x) (b2 := b2) hp (by omega) h1 h2 hI (by omega) (o := o)
    obtain ⟨ps2, p2, o', e2, hI2, l2, hp2⟩ := lt_loop h1 h2 xs (n + 7) p1 ps1 (some x) hp1 (by omega) hI1 (by omega)
    exact ⟨ps2, p2, o', by rw [forLoop_nx e1, e2], hI2, by simp only [List.length_cons]; omega, hp2.mono (by simp only [List.length_cons]; omega)⟩
theorem e_lot {n box lim : Nat} {p : D} (hp : Pot n p) (hn : n < 600000) (h1 : 1 ≤ box) (h2 : box ≤ 1000) (hl : lim < 50) :
    ∃ (ps : List LP) (p' : D), evF P (k + 4) n__law_lot [.io p, .im (.int box), .im (.int lim)] = .ok (lotD ps, false, [.io p', .im (.int box), .im (.int lim)]) ∧ LotI box ps ∧ ps.length ≤ lim ∧ Pot (n + 1 + 7 * lim) p' := by
  obtain ⟨t, p1, e1, ht, hp1⟩ := take_ix (k := k + 2) H.toHTk hp (by omega) (u := (lim : Int) + 1) (by omega) (.of (by omega) (by omega))
  obtain ⟨ps, p2, o', e2, hI, hlen, hp2⟩ := lt_loop (k := k) H (b2 := .int lim) h1 h2 (rangeD 0 t) (n + 1) p1 [] none hp1 (by rw [rangeD_len]; omega) ⟨by simp, by simp⟩ (by rw [rangeD_len]; simp; omega)
  rw [rangeD_len] at hlen hp2
  refine ⟨ps, p2, ?_, hI, by simp at hlen; omega, hp2.mono (by omega)⟩
  rw [evF_succ H.lot]
  have hr : ranged [.int (t : Int)] = .ok (rangeD 0 t) := by
    have := ranged1 (j := (t : Int)) (by omega) (by omega)
    rw [this]; rfl
  simp only [Nat.add_assoc, Nat.reduceAdd] at e1
  simp only [Fx__law_lot, S.nth, S.forT, S.forB, ← frs_no, List.map_nil] at e2
  simp_arith [Fx__law_lot, q_callio _ _ (take_io0 H.toHTk), callX_r, e1, hr, e2, items_lot, biTuple_lst, lotD]
end
end Mini

set_option linter.all false
set_option Elab.async false
set_option maxRecDepth 100000
set_option maxHeartbeats 2000000
namespace Mini
open PySem L2 TL
/-! ### the last step that a size reaches -/
structure HRe (P : Pr) : Prop extends HTr P where
  reached : P.fn n__law_reached = some Fx__law_reached
section
variable {P : Pr} {k : Nat} (H : HRe P)
include H
end
/-! ### rounded up -/
end Mini

set_option linter.all false
set_option Elab.async false
set_option maxRecDepth 100000
set_option maxHeartbeats 2000000
namespace Mini
open PySem L2 TL
/-! ### texts of numbers, parts of lots, what lots are reckoned -/
theorem LotI.sub {box : Nat} {ps qs : List LP} (h : LotI box ps) (hs : qs.Sublist ps) : LotI box qs :=
  ⟨fun q hq => h.siz q (hs.subset hq), h.nod.sublist (hs.map _)⟩
theorem LotI.rev {box : Nat} {ps : List LP} (h : LotI box ps) : LotI box ps.reverse :=
  ⟨fun q hq => h.siz q (List.mem_reverse.mp hq), by rw [List.map_reverse]; exact List.pairwise_reverse.mpr (h.nod.imp fun h => Ne.symm h)⟩
theorem LotI.up {box : Nat} {ps : List LP} (h : LotI box ps) : lotUp box ps = true := by
  unfold lotUp
  rw [List.all_eq_true]
  exact fun p hp => decide_eq_true (h.siz p hp).1.le
theorem LotI.nil {box : Nat} : LotI box [] := ⟨by simp, by simp⟩
theorem LotI.whole {box : Nat} (h : 1 ≤ box) : LotI box [⟨box, 1, 3⟩] := by
  refine ⟨fun q hq => ?_, by simp⟩
  rw [List.mem_singleton.mp hq]
  exact ⟨⟨⟨by show (0 : Int) ≤ box; omega, by show (0 : Int) < 1; decide, Int.gcd_one⟩, by show (0 : Int) < box; omega, by show (box : Int) ≤ box * 1; omega, by show Bd 64 1; decide⟩, by show (1 : Int) ≤ 3; decide, by show (3 : Int) ≤ 1000; decide⟩
theorem lotD_take (ps : List LP) (n : Nat) : D.tup ((ps.map LP.d).take n) = lotD (ps.take n) := by rw [← List.map_take]; rfl
theorem lotD_drop (ps : List LP) (n : Nat) : D.tup ((ps.map LP.d).drop n) = lotD (ps.drop n) := by rw [← List.map_drop]; rfl
theorem lotD_rev (ps : List LP) : D.tup (ps.map LP.d).reverse = lotD ps.reverse := by rw [← List.map_reverse]; rfl
end Mini

set_option linter.all false
set_option Elab.async false
set_option maxRecDepth 100000
set_option maxHeartbeats 2000000
namespace Mini
open PySem L2 TL
/-! ### the most within whole numbers -/
noncomputable abbrev gD (l : List Nat) (i : Nat) : Nat := l[i]?.getD 0
/-- the greatest of a row, at least m -/
noncomputable def topN (m : Nat) (l : List Nat) : Nat := l.foldl max m
/-- the table so far, the things that are kept -/
structure MW (al T : List Nat) (n : Nat) (kept : List (Nat × Nat)) : Prop where
  len : T.length = n + 1
  z : gD T 0 = 0
  sup : ∀ a b, a + b ≤ n → gD T a + gD T b ≤ gD T (a + b)
  al_ : ∀ s, 1 ≤ s → s ≤ n → gD al s ≤ gD T s
  at_ : ∀ m, 1 ≤ m → m ≤ n → gD T m = 0 ∨ ∃ p ∈ kept, p.1 ≤ m ∧ gD T m = gD T (m - p.1) + p.2
  kp : ∀ p ∈ kept, 1 ≤ p.1 ∧ p.1 ≤ n ∧ p.2 = gD al p.1 ∧ 0 < p.2
  kl : kept.length ≤ n
theorem MW.mono {al T : List Nat} {n : Nat} {kept : List (Nat × Nat)} (M : MW al T n kept) {a b : Nat} (h : a ≤ b) (hb : b ≤ n) : gD T a ≤ gD T b := by
  have := M.sup a (b - a) (by omega)
  rw [show a + (b - a) = b by omega] at this
  omega
/-- what is known of the whole table -/
structure Most (box : Nat) (ts : List St) (T : List Nat) : Prop where
  len : T.length = box + 1
  z : gD T 0 = 0
  sup : ∀ a b, a + b ≤ box → gD T a + gD T b ≤ gD T (a + b)
  ge : ∀ t ∈ ts, 1 ≤ t.s → t.w ≤ gD T t.s
  at_ : ∀ m, m ≤ box → gD T m = 0 ∨ ∃ t ∈ ts, 1 ≤ t.s ∧ t.s ≤ m ∧ gD T m = gD T (m - t.s) + t.w
end Mini

set_option linter.all false
set_option Elab.async false
set_option maxRecDepth 100000
set_option maxHeartbeats 2000000
namespace Mini
open PySem L2 TL
structure HMw (P : Pr) : Prop extends HRl P where
  most_within : P.fn n_most_within = some Fx_most_within
section
variable {P : Pr} {k : Nat} (H : HMw P)
include H
end
end Mini

set_option linter.all false
set_option Elab.async false
set_option maxRecDepth 100000
set_option maxHeartbeats 2000000
namespace Mini
open PySem L2 TL
/-! ### the least table of a rule -/
noncomputable def joinN (a b : Nat) : Nat := a + b - a % 2 * (b % 2)
theorem joinN_cases (a b : Nat) : (a % 2 = 1 ∧ b % 2 = 1 ∧ joinN a b = a + b - 1) ∨ ((a % 2 = 0 ∨ b % 2 = 0) ∧ joinN a b = a + b) := by
  unfold joinN
  rcases Nat.mod_two_eq_zero_or_one a with ha | ha <;> rcases Nat.mod_two_eq_zero_or_one b with hb | hb <;> rw [ha, hb] <;> simp
/-- what is known of a least table -/
structure Lt (box : Nat) (ts : List St) (T : List Nat) : Prop where
  len : T.length = 2 * box + 1
  z : gD T 0 = 0
  mono : ∀ a b, a ≤ b → b ≤ 2 * box → gD T a ≤ gD T b
  sup : ∀ a b, joinN a b ≤ 2 * box → gD T a + gD T b ≤ gD T (joinN a b)
  ge : ∀ t ∈ ts, t.w ≤ gD T t.p
  at_ : ∀ s, 1 ≤ s → s ≤ 2 * box → gD T s = gD T (s - 1) ∨ ∃ t ∈ ts, ∃ a, a < s ∧ joinN a t.p = s ∧ gD T s = gD T a + t.w
theorem Most.mono {box : Nat} {ts : List St} {T : List Nat} (M : Most box ts T) {a b : Nat} (h : a ≤ b) (hb : b ≤ box) : gD T a ≤ gD T b := by
  have := M.sup a (b - a) (by omega)
  rw [show a + (b - a) = b by omega] at this
  omega
/-! the same, space by space -/
noncomputable def ltC (T : List Nat) (s : Nat) (t : St) : List Nat := (((if t.p ≤ s then [s - t.p] else []) ++ (if t.p ≤ s + 1 then [s + 1 - t.p] else [])).filter fun a => decide (a < s) && decide (joinN a t.p = s)).map fun a => gD T a + t.w
noncomputable def ltS (ts : List St) (T : List Nat) : List Nat := T ++ [topN (gD T (T.length - 1)) (ts.flatMap (ltC T T.length))]
noncomputable def ltF (ts : List St) : Nat → List Nat
  | 0 => [0]
  | n + 1 => ltS ts (ltF ts n)
noncomputable def RV.lt (r : RV) : List Nat := ltF r.sts (2 * r.box)
noncomputable def RV.crumb (r : RV) : Nat := gD (wsOf r.box r.sts) 1
end Mini

set_option linter.all false
set_option Elab.async false
set_option maxRecDepth 100000
set_option maxHeartbeats 2000000
namespace Mini
open PySem L2 TL
structure HLs (P : Pr) : Prop extends HMw P where
  least_table : P.fn n_least_table = some Fx_least_table
  crumb_worth : P.fn n_crumb_worth = some Fx_crumb_worth
section
variable {P : Pr} {k : Nat} (H : HLs P)
include H
end
end Mini

set_option linter.all false
set_option Elab.async false
set_option maxRecDepth 100000
set_option maxHeartbeats 2000000
namespace Mini
open PySem L2 TL
/-! ### the least table of rules that round, of a rule of one step -/
noncomputable def RV.one (box bound : Nat) (b : Bool) (s w : Nat) : RV := ⟨box, bound, [⟨b, s, w⟩]⟩
end Mini

set_option linter.all false
set_option Elab.async false
set_option maxRecDepth 100000
set_option maxHeartbeats 2000000
namespace Mini
open PySem L2 TL
/-! ### written rows, walked; laws that hold for all places -/
/-- all of them, at each place -/
noncomputable def lawA (lim : Nat) : Fn := ⟨1, 2, false, (.seq (.ret (.bi .all (.cons (.comp (.call 508 (.cons (.call 500 (.cons (.var 0) (.cons (.var 1) .nil))) .nil)) (.var 1) (.itm (.call 503 (.cons (.var 0) (.cons (.lit (.int lim)) .nil)))) .nil [1]) .nil))) .done)⟩
theorem io_of {P : Pr} {n f : Nat} {F : Fn} (h : P.fn f = some F) : (cbOf P n).io f = F.io := by
  show ((P.fn f).map (·.io)).getD false = _
  rw [h]
  rfl
theorem law_all {P : Pr} {N lim : Nat} {F : Fn} (hl : lim ≤ 1000) (hlaw : P.fn 509 = some (lawA lim)) (hpot : P.fn n__law_pot = some Fx__law_pot) (hcells : P.fn n__law_cells = some Fx__law_cells) (hr : P.fn 508 = some F) (hio : F.io = true)
    (right : ∀ a b : Int, 0 ≤ a → 0 ≤ b → Bd 62 b → ∃ p', evF P (N + 1) 508 [.io (potD a b 0)] = .ok (.bl true, false, [.io p'])) (ns : List Int) (hn : ns.length ≤ 63) : ∃ o as', evF P (N + 1 + 1) 509 [.im (.frz (ns.map D.int))] = .ok (.bl true, o, as') := by
  rw [evF_succ hlaw]
  obtain ⟨n, hn2, e⟩ := e_cells (k := N) hcells (ns := ns) (lim := lim) (by omega)
  have io8 : ∀ j, (cbOf P j).io 508 = true := fun j => (io_of hr).trans hio
  have hc := compLoop_map (f := compOf (cbOf P (N + 1)) (E.nth 0 (E.args (S.rE (S.nth 0 (lawA lim).body))))) (g := fun i : Nat => D.int (0 + (i : Int))) (h := fun _ => .bl true) (σ := [.im (.frz (ns.map D.int)), .no]) (List.range n) [] (fun j hj => by
    have hj := List.mem_range.mp hj
    obtain ⟨a, b, e, h1, h2, h3⟩ := e_pot (k := N) hpot (ns := ns) (j := j) (by omega) (by omega)
    obtain ⟨p, e2⟩ := right a b h1 h2 h3
    simp_arith [lawA, S.nth, S.rE, E.args, E.nth, compOf, q_compF, Int.zero_add, q_callio _ _ (io8 _), q_call _ (cb_io hpot), Fx__law_pot, callX_new, cb_call, e, e2]) (by simp; omega)
  have ha := biAll_map (f := fun _ : Nat => true) (List.range n)
  simp only [lawA, S.nth, S.rE, E.args, E.nth, compOf, List.nil_append, Nat.reduceAdd] at hc e
  refine ⟨false, [.im (.frz (ns.map D.int))], ?_⟩
  have hall : ((List.range n).all fun _ => true) = true := by simp
  rw [hall] at ha
  simp_arith [lawA, q_call _ (cb_io hcells), Fx__law_cells, cb_call, e, rangeD, hc, ha]
end Mini

set_option linter.all false
set_option Elab.async false
set_option maxRecDepth 100000
set_option maxHeartbeats 2000000
namespace Mini
open PySem L2 TL
/-! ### the space to which two come; the last way into a space -/
structure HCo (P : Pr) : Prop extends HRl P where
  comes_to : P.fn n_comes_to = some Fx_comes_to
  last_way : P.fn n_last_way_into = some Fx_last_way_into
section
variable {P : Pr} {k : Nat} (H : HCo P)
include H
end
end Mini

set_option linter.all false
set_option Elab.async false
set_option maxRecDepth 100000
set_option maxHeartbeats 2000000
namespace Mini
open PySem L2 TL
section
variable {P : Pr} {k : Nat} (H : HCo P)
include H
end
/-! ### the steps that a table takes -/
noncomputable def sumBy (f : St → Nat) : List St → List Nat → Nat
  | t :: ts, c :: cs => f t * c + sumBy f ts cs
  | _, _ => 0
/-- the space to which the things taken come -/
noncomputable def cumX (ts : List St) (c : List Nat) : Nat := 2 * sumBy St.s ts c + (if 0 < sumBy (fun t => bN t.b) ts c then 1 else 0)
structure Tk (ts : List St) (T : List Nat) (top : Nat) (c : List Nat) (s : Nat) : Prop where
  len : c.length = ts.length
  w : sumBy St.w ts c + gD T s = gD T top
  x : joinN (cumX ts c) s ≤ top
  n : sumBy (fun _ => 1) ts c + s ≤ top
structure HSt (P : Pr) : Prop extends HCo P where
  steps_taken : P.fn n_steps_taken = some Fx_steps_taken
  lim : 10000 ≤ P.lim
section
variable {P : Pr} {k : Nat} (H : HSt P)
include H
end
end Mini

set_option linter.all false
set_option Elab.async false
set_option maxRecDepth 100000
set_option maxHeartbeats 2000000
namespace Mini
open PySem L2 TL
/-! ### the lot that a table takes; judged -/
structure HLf (P : Pr) : Prop extends HSt P where
  lot_of : P.fn n_lot_of = some Fx_lot_of
section
variable {P : Pr} {k : Nat} (H : HLf P)
include H
end
/-! judged -/
structure HJu (P : Pr) : Prop extends HLf P, HLs P where
  judged : P.fn n_judged = some Fx_judged
noncomputable def RV.top (r : RV) : Nat := gD r.lt (2 * r.box)
noncomputable def RV.sound (r : RV) : Bool := decide (r.crumb = 0) && decide (r.top ≤ r.bound)
end Mini

set_option linter.all false
set_option Elab.async false
set_option maxRecDepth 100000
set_option maxHeartbeats 2000000
namespace Mini
open PySem L2 TL
/-! ### plain rules: the same table; the law's own plain rule -/
structure HLp (P : Pr) : Prop extends HLr P, HLw P where
  lplain : P.fn n__law_plain = some Fx__law_plain
section
variable {P : Pr} {k : Nat} (H : HLp P)
include H
end
end Mini

set_option linter.all false
set_option Elab.async false
set_option maxRecDepth 100000
set_option maxHeartbeats 2000000
namespace Mini
open PySem L2 TL
/-! ### as few steps as can be -/
theorem slice_tup (l : List D) (lo hi : Option Int) : slice (.tup l) lo hi = .ok (.tup (cutL l lo hi), false) := rfl
end Mini

set_option linter.all false
set_option Elab.async false
set_option maxRecDepth 100000
set_option maxHeartbeats 2000000
namespace Mini
open PySem L2 TL
/-! ### the laws' own least table -/
structure HTb (P : Pr) : Prop extends HLr P where
  join : P.fn n__law_join = some Fx__law_join
  table : P.fn n__law_table = some Fx__law_table
section
variable {P : Pr} {k : Nat} (H : HTb P)
include H
end
end Mini

set_option linter.all false
set_option Elab.async false
set_option maxRecDepth 100000
set_option maxHeartbeats 2000000
namespace Mini
open PySem L2 TL
/-! ### sound rules, and rules behind rules -/
theorem Lt.le {box W : Nat} {ts : List St} {T : List Nat} (L : Lt box ts T) (hW : ∀ t ∈ ts, t.w ≤ W) : ∀ n s, s ≤ n → s ≤ 2 * box → gD T s ≤ s * W
  | 0, s, h, _ => by
    rw [show s = 0 by omega, L.z]; omega
  | n + 1, s, h, hb => by
    by_cases g : s = 0
    · rw [g, L.z]; omega
    · rcases L.at_ s (by omega) hb with e | ⟨t, ht, a, ha, _, e⟩
      · rw [e]
        have := L.le hW n (s - 1) (by omega) (by omega)
        have h2 : (s - 1) * W ≤ s * W := Nat.mul_le_mul_right W (by omega)
        omega
      · rw [e]
        have := L.le hW n a (by omega) (by omega)
        have h2 : (a + 1) * W ≤ s * W := Nat.mul_le_mul_right W (by omega)
        have h3 := hW t ht
        rw [Nat.succ_mul] at h2
        omega
/-! all spaces told -/
end Mini

set_option linter.all false
set_option Elab.async false
set_option maxRecDepth 100000
set_option maxHeartbeats 2000000
namespace Mini
open PySem L2 TL
theorem ob_int (i : Int) : Mini.isObj (.int i) = false := rfl
structure HSd (P : Pr) : Prop extends HTb P, HLo P, HRo P, HLw P where
  sound : P.fn n__law_sound = some Fx__law_sound
section
variable {P : Pr} {k : Nat} (H : HSd P)
include H
end
end Mini

set_option linter.all false
set_option Elab.async false
set_option maxRecDepth 100000
set_option maxHeartbeats 2000000
namespace Mini
open PySem L2 TL
structure HTw (P : Pr) : Prop extends HSd P, HLp P where
  two : P.fn n__law_two_of_one = some Fx__law_two_of_one
  anyt : P.fn n__law_any_two = some Fx__law_any_two
  led : P.fn n__law_led = some Fx__law_led
  lbeh : P.fn n__law_behind = some Fx__law_behind
section
variable {P : Pr} {k : Nat} (H : HTw P)
include H
end
end Mini

set_option linter.all false
set_option Elab.async false
set_option maxRecDepth 100000
set_option maxHeartbeats 2000000
namespace Mini
open PySem L2 TL
section
variable {P : Pr} {k : Nat} (H : HTw P)
include H
end
end Mini

set_option linter.all false
set_option Elab.async false
set_option maxRecDepth 100000
set_option maxHeartbeats 2000000
namespace Mini
open PySem L2 TL
/-! ### what shows a judgement: tables -/
structure HTa (P : Pr) : Prop extends HRl P where
  is_table : P.fn n_is_table = some Fx_is_table
  holds : P.fn n_holds = some Fx_holds
  shows : P.fn n_shows_judged = some Fx_shows_judged
section
variable {P : Pr} {k : Nat} (H : HTa P)
include H
end
end Mini

set_option linter.all false
set_option Elab.async false
set_option maxRecDepth 100000
set_option maxHeartbeats 2000000
namespace Mini
open PySem L2 TL
/-! ### the laws' least table of whole sizes -/
structure WM (f d : Nat → Nat) : Prop where
  z : d 0 = 0
  up : ∀ n, d n ≤ d (n + 1)
  ge : ∀ n x, 1 ≤ x → x ≤ n → d (n - x) + f x ≤ d n
  at_ : ∀ n, d (n + 1) = d n ∨ ∃ x, 1 ≤ x ∧ x ≤ n + 1 ∧ d (n + 1) = d (n + 1 - x) + f x
theorem WM.mono {f d : Nat → Nat} (W : WM f d) : ∀ {m n : Nat}, m ≤ n → d m ≤ d n := fun {m n} h => by
  induction n with
  | zero => rw [show m = 0 by omega]; exact Nat.le_refl _
  | succ n ih =>
    by_cases g : m = n + 1
    · rw [g]; exact Nat.le_refl _
    · exact Nat.le_trans (ih (by omega)) (W.up n)
theorem WM.sup {f d : Nat → Nat} (W : WM f d) (n : Nat) : ∀ k m, m ≤ k → d m + d n ≤ d (m + n)
  | 0, m, h => by rw [show m = 0 by omega, W.z, Nat.zero_add, Nat.zero_add]; exact Nat.le_refl _
  | k + 1, m, h => by
    by_cases g : m = 0
    · rw [g, W.z, Nat.zero_add, Nat.zero_add]; exact Nat.le_refl _
    · obtain ⟨j, rfl⟩ : ∃ j, m = j + 1 := ⟨m - 1, by omega⟩
      rcases W.at_ j with e | ⟨x, h1, h2, e⟩
      · rw [e]
        have := W.sup n k j (by omega)
        have h3 := W.mono (m := j + n) (n := j + 1 + n) (by omega)
        omega
      · rw [e]
        have := W.sup n k (j + 1 - x) (by omega)
        have h3 := W.ge (j + 1 + n) x h1 (by omega)
        rw [show j + 1 + n - x = j + 1 - x + n by omega] at h3
        omega
/-! the list that is built -/
/-! tables and pairs -/
end Mini

set_option linter.all false
set_option Elab.async false
set_option maxRecDepth 100000
set_option maxHeartbeats 2000000
namespace Mini
open PySem L2 TL
structure HWm (P : Pr) : Prop extends HWo P where
  whole_most : P.fn n__law_whole_most = some Fx__law_whole_most
section
variable {P : Pr} {k : Nat} (H : HWm P)
include H
end
end Mini

set_option linter.all false
set_option Elab.async false
set_option maxRecDepth 100000
set_option maxHeartbeats 2000000
namespace Mini
open PySem L2 TL
/-! ### a lot that is shown breaks its rule -/
/-! what it fills -/
end Mini

set_option linter.all false
set_option Elab.async false
set_option maxRecDepth 100000
set_option maxHeartbeats 2000000
namespace Mini
open PySem L2 TL
structure HBr (P : Pr) : Prop extends HTa P, HAd P where
  breaks : P.fn n_breaks = some Fx_breaks
noncomputable def breakB (r : RV) (ps : List LP) : Bool := decide ((fillP ps).1 ≤ (r.box : Int) * (fillP ps).2) && decide ((r.bound : Int) < r.reck ps)
section
variable {P : Pr} {k : Nat} (H : HBr P)
include H
end
end Mini

set_option linter.all false
set_option Elab.async false
set_option maxRecDepth 100000
set_option maxHeartbeats 2000000
namespace Mini
open PySem L2 TL
/-! ### what judged shows, shows it -/
section
variable {P : Pr} {k : Nat} (H : HBr P)
include H
end
end Mini

set_option linter.all false
set_option Elab.async false
set_option maxRecDepth 100000
set_option maxHeartbeats 2000000
namespace Mini
open PySem L2 TL
/-! ### so many times a rule -/
/-! ### so many times finer -/
end Mini

set_option linter.all false
set_option Elab.async false
set_option maxRecDepth 100000
set_option maxHeartbeats 2000000
namespace Mini
open PySem L2 TL
/-! ### the laws' times, endless, sound -/
structure HTt (P : Pr) : Prop extends HTb P, HNb P where
  ltimes : P.fn n__law_times = some Fx__law_times
  endless : P.fn n__law_is_endless = some Fx__law_is_endless
  issound : P.fn n__law_is_sound = some Fx__law_is_sound
section
variable {P : Pr} {k : Nat} (H : HTt P)
include H
end
end Mini

set_option linter.all false
set_option Elab.async false
set_option maxRecDepth 100000
set_option maxHeartbeats 2000000
namespace Mini
open PySem L2 TL
/-! ### what is shown, as lots and tables -/
structure LotB (r : RV) (B : Nat) (ps : List LP) : Prop where
  ok : LotOk ps
  up : lotUp r.box ps = true
  b0 : 0 < B
  b1 : B ≤ 31
  len6 : ps.length * (2 * B + 14) + 1 ≤ 3000
  bd : ∀ p ∈ ps, Bd B p.a ∧ Bd B p.b ∧ Bd B p.m
  siz : ∀ p ∈ ps, Siz r.box p.a p.b
  nod : (ps.map fun q => [q.a, q.b]).Nodup
  brk : breakB r ps = true
theorem LotB.len {r : RV} {B : Nat} {ps : List LP} (h : LotB r B ps) : ps.length * (2 * B + 2) + 1 ≤ 3000 := by
  have h1 := h.len6
  have : ps.length * (2 * B + 2) ≤ ps.length * (2 * B + 14) := Nat.mul_le_mul_left _ (by omega)
  omega
end Mini

set_option linter.all false
set_option Elab.async false
set_option maxRecDepth 100000
set_option maxHeartbeats 2000000
namespace Mini
open PySem L2 TL
/-! ### finer rules, sizes and lots -/
end Mini

set_option linter.all false
set_option Elab.async false
set_option maxRecDepth 100000
set_option maxHeartbeats 2000000
namespace Mini
open PySem L2 TL
/-! ### lots that are shown, finer -/
structure LotS (r : RV) (B : Nat) (ps : List LP) : Prop where
  ok : LotOk ps
  up : lotUp r.box ps = true
  b0 : 0 < B
  b1 : B ≤ 3000
  len : ps.length * (2 * B + 2) + 1 ≤ 3000
  bd : ∀ p ∈ ps, Bd B p.a ∧ Bd B p.b ∧ Bd B p.m
  brk : breakB r ps = true
end Mini

set_option linter.all false
set_option Elab.async false
set_option maxRecDepth 100000
set_option maxHeartbeats 2000000
namespace Mini
open PySem L2 TL
/-! ### rules with a lesser worth, with a greater bound -/
end Mini

set_option linter.all false
set_option Elab.async false
set_option maxRecDepth 100000
set_option maxHeartbeats 2000000
namespace Mini
open PySem L2 TL
/-! ### rules written by hand -/
structure HBy (P : Pr) : Prop extends HRl P where
  by_ : P.fn n__law_by = some Fx__law_by
section
variable {P : Pr} {k : Nat} (H : HBy P)
include H
end
end Mini

set_option linter.all false
set_option Elab.async false
set_option maxRecDepth 100000
set_option maxHeartbeats 2000000
namespace Mini
open PySem L2 TL
/-! ### rules of one step; lots of one or two pieces -/
end Mini

set_option linter.all false
set_option Elab.async false
set_option maxRecDepth 100000
set_option maxHeartbeats 2000000
namespace Mini
open PySem L2 TL
section
variable {P : Pr} {k : Nat} (H : HBr P)
include H
end
end Mini

set_option linter.all false
set_option Elab.async false
set_option maxRecDepth 100000
set_option maxHeartbeats 2000000
namespace Mini
open PySem L2 TL
/-! ### whether a rule is greatest: the room that there is -/
structure HSn (P : Pr) : Prop extends HRl P where
  lowest : P.fn n_lowest = some Fx_lowest
  size_in : P.fn n_size_in = some Fx_size_in
structure HRm (P : Pr) : Prop extends HSn P where
  room_of : P.fn n_room_of = some Fx_room_of
noncomputable abbrev RV.ws (r : RV) (s : Nat) : Nat := gD (wsOf r.box r.sts) s
noncomputable def roomT (s : Nat) (q : Pt) : D := .tup [.str (Str.ofString "room"), Pt.d (low s 2), Pt.d q]
noncomputable def RV.miss (r : RV) (s : Nat) : Int := (r.bound : Int) - (r.ws s : Nat) - (r.ws (2 * r.box - s) : Nat)
noncomputable def RV.many (r : RV) (s : Nat) : Int := (r.box : Int) * (low s 2).2 / (low s 2).1
noncomputable def RV.room1 (r : RV) (s : Nat) : Bool := decide (r.ws s < gD r.lt s)
noncomputable def RV.room2 (r : RV) (s : Nat) : Bool := decide (0 < r.miss s)
noncomputable def RV.roomA (r : RV) (s : Nat) : D := roomT s (((gD r.lt s : Nat) : Int), 1)
noncomputable def RV.roomB (r : RV) (s : Nat) : D := roomT s (low (r.many s * (r.ws s : Nat) + r.miss s) (r.many s))
noncomputable def RV.room (r : RV) : D := match (List.range' 1 (2 * r.box)).find? r.room1 with
  | some s => r.roomA s
  | none => match (List.range' 1 (2 * r.box)).find? r.room2 with
    | some s => r.roomB s
    | none => .tup [.str (Str.ofString "greatest")]
section
variable {P : Pr} {k : Nat} (H : HSn P)
include H
end
section
variable {P : Pr} {k : Nat} (H : HRm P)
include H
end
structure HGr (P : Pr) : Prop extends HRm P, HJu P where
  sound_table : P.fn n_sound_table = some Fx_sound_table
  greatest : P.fn n_greatest = some Fx_greatest
section
variable {P : Pr} {k : Nat} (H : HGr P)
include H
end
end Mini

set_option linter.all false
set_option Elab.async false
set_option maxRecDepth 100000
set_option maxHeartbeats 2000000
namespace Mini
open PySem L2 TL
/-! ### a finer rule is greatest just if the rule is -/
end Mini

set_option linter.all false
set_option Elab.async false
set_option maxRecDepth 100000
set_option maxHeartbeats 2000000
namespace Mini
open PySem L2 TL
/-! ### the laws' own finer rules -/
structure HLfi (P : Pr) : Prop extends HLw P where
  lfiner : P.fn n__law_finer = some Fx__law_finer
section
variable {P : Pr} {k : Nat} (H : HLfi P)
include H
end
end Mini

set_option linter.all false
set_option Elab.async false
set_option maxRecDepth 100000
set_option maxHeartbeats 2000000
namespace Mini
open PySem L2 TL
/-! ### rules within one another -/
structure HIn (P : Pr) : Prop extends HSn P where
  surplus : P.fn n_surplus = some Fx_surplus
  spaces : P.fn n_spaces_of = some Fx_spaces_of
  check : P.fn n_check_other = some Fx_check_other
  within : P.fn n_within = some Fx_within
  times_one : P.fn n_times_for_one = some Fx_times_for_one
section
variable {P : Pr} {k : Nat} (H : HIn P)
include H
end
end Mini

set_option linter.all false
set_option Elab.async false
set_option maxRecDepth 100000
set_option maxHeartbeats 4000000
namespace Mini
open PySem L2 TL
/-! ### rounding rules of any box -/
section
variable {P : Pr} {k : Nat} (H : HRo P)
include H
end
/-! ### unlike ones out of a row -/
section
variable {P : Pr} {k : Nat} (H : HSm P)
include H
end
end Mini

set_option linter.all false
set_option Elab.async false
set_option maxRecDepth 100000
set_option maxHeartbeats 4000000
namespace Mini
open PySem L2 TL
/-! ### the laws' own least table, by what it needs -/
structure HSpt (P : Pr) : Prop extends HRl P where
  spot : P.fn n__law_spot = some Fx__law_spot
structure HTb0 (P : Pr) : Prop extends HSpt P where
  join : P.fn n__law_join = some Fx__law_join
  table : P.fn n__law_table = some Fx__law_table
section
variable {P : Pr} {k : Nat} (H : HSpt P)
include H
end
section
variable {P : Pr} {k : Nat} (H : HTb0 P)
include H
end
/-! ### drawn rules of a told box -/
theorem Lt.whole {box W : Nat} {ts : List St} {T : List Nat} (L : Lt box ts T) (hp : ∀ t ∈ ts, 2 ≤ t.p) (hW : ∀ t ∈ ts, t.w ≤ W) : ∀ n s, s ≤ n → s ≤ 2 * box → gD T s ≤ s / 2 * W
  | 0, s, h, _ => by rw [show s = 0 by omega, L.z]; exact Nat.zero_le _
  | n + 1, s, h, hb => by
    by_cases g : s = 0
    · rw [g, L.z]; exact Nat.zero_le _
    · rcases L.at_ s (by omega) hb with e | ⟨t, ht, a, ha, hj, e⟩
      · rw [e]
        have h1 := Lt.whole L hp hW n (s - 1) (by omega) (by omega)
        have h2 : (s - 1) / 2 * W ≤ s / 2 * W := Nat.mul_le_mul_right W (by omega)
        omega
      · rw [e]
        have h1 := Lt.whole L hp hW n a (by omega) (by omega)
        have h2 := hp t ht
        have h3 := hW t ht
        have hc := joinN_cases a t.p
        have h4 : (a / 2 + 1) * W ≤ s / 2 * W := Nat.mul_le_mul_right W (by omega)
        rw [Nat.add_mul, Nat.one_mul] at h4
        omega
structure HRi (P : Pr) : Prop extends HSm P where
  rule_in : P.fn n__law_rule_in = some Fx__law_rule_in
section
variable {P : Pr} {k : Nat} (H : HRi P)
include H
end
structure HSi (P : Pr) : Prop extends HRi P, HTb0 P, HRo P, HLw P where
  sound_in : P.fn n__law_sound_in = some Fx__law_sound_in
section
variable {P : Pr} {k : Nat} (H : HSi P)
include H
end
end Mini

set_option linter.all false
set_option Elab.async false
set_option maxRecDepth 100000
set_option maxHeartbeats 2000000
namespace Mini
open PySem L2 TL
/-! ### times and endless without the rest -/
end Mini

set_option linter.all false
set_option Elab.async false
set_option maxRecDepth 100000
set_option maxHeartbeats 2000000
namespace Mini
open PySem L2 TL
/-! ### the same places, each worth no greater -/
noncomputable def Less : List St → List St → Prop
  | [], [] => True
  | t :: ts, u :: us => t.b = u.b ∧ t.s = u.s ∧ t.w ≤ u.w ∧ Less ts us
  | _, _ => False
theorem Less.refl : ∀ ts : List St, Less ts ts
  | [] => trivial
  | t :: ts => ⟨rfl, rfl, Nat.le_refl _, Less.refl ts⟩
theorem Less.p {t u : St} (hb : t.b = u.b) (hs : t.s = u.s) : t.p = u.p := by unfold St.p; rw [hb, hs]
theorem Less.asc {box : Nat} : ∀ {ts us : List St} {last : Nat}, Less ts us → Asc box last us → Asc box last ts
  | [], [], _, _, _ => trivial
  | t :: ts, u :: us, last, ⟨h1, h2, h3, h4⟩, a => by
    have hp := Less.p h1 h2
    refine ⟨by rw [hp]; exact a.1, ⟨by have := a.2.1.lo; rw [h1, h2]; exact this, by have := a.2.1.hi; rw [h1, h2]; exact this, by have := a.2.1.w; omega⟩, ?_⟩
    rw [hp]
    exact Less.asc h4 a.2.2
theorem Less.at_ {x : Nat} : ∀ {ts us : List St} {c d : Nat}, Less ts us → c ≤ d → atF c ts x ≤ atF d us x
  | [], [], _, _, _, h => h
  | t :: ts, u :: us, c, d, ⟨h1, h2, h3, h4⟩, h => by
    unfold atF
    rw [Less.p h1 h2]
    by_cases g : x < u.p
    · rw [if_pos g, if_pos g]; exact h
    · rw [if_neg g, if_neg g]; exact Less.at_ h4 h3
theorem Less.set : ∀ {ts : List St} {j w : Nat} {t : St}, ts[j]? = some t → t.w ≤ w → Less ts (ts.set j ⟨t.b, t.s, w⟩)
  | [], _, _, _, h, _ => by simp at h
  | u :: us, 0, w, t, h, hw => by
    simp only [List.getElem?_cons_zero, Option.some.injEq] at h
    subst h
    exact ⟨rfl, rfl, hw, Less.refl us⟩
  | u :: us, j + 1, w, t, h, hw => by
    simp only [List.getElem?_cons_succ] at h
    exact ⟨rfl, rfl, Nat.le_refl _, Less.set h hw⟩
/-! ### a rule with another worth -/
structure HWw (P : Pr) : Prop extends HWu P where
  with_worths : P.fn n_with_worths = some Fx_with_worths
section
variable {P : Pr} {k : Nat} (H : HWw P)
include H
end
end Mini

set_option linter.all false
set_option Elab.async false
set_option maxRecDepth 100000
set_option maxHeartbeats 2000000
namespace Mini
open PySem L2 TL
/-! ### what a lot fills, and what it is reckoned -/
end Mini

set_option linter.all false
set_option Elab.async false
set_option maxRecDepth 100000
set_option maxHeartbeats 2000000
namespace Mini
open PySem L2 TL
/-! ### lots that fit -/
structure HLe (P : Pr) : Prop where
  less : P.fn n__law_is_less = some Fx__law_is_less
structure FitI (box : Nat) (ps : List LP) (x y : Int) (e : Nat) : Prop where
  siz : ∀ q ∈ ps, Siz box q.a q.b ∧ 1 ≤ q.m ∧ Bd 64 q.m
  nod : (ps.map fun q => [q.a, q.b]).Nodup
  num : IsNum x y
  le : x ≤ box * y
  bd : Bd e y
  fill : x * dN (ps.map LP.pt) + nN (ps.map LP.pt) * y = box * (y * dN (ps.map LP.pt))
theorem FitI.ok {box : Nat} {ps : List LP} {x y : Int} {e : Nat} (h : FitI box ps x y e) (hl : ps.length < 63) : LotOk ps := by
  refine ⟨fun q hq => ?_, ?_, hl⟩
  · have g := h.siz q hq
    exact ⟨g.1.n, g.1.pos, g.2.1, g.1.bd.mono (by decide), g.2.2.mono (by decide)⟩
  · have := unlike_len (M := ps.map fun q => [q.a, q.b]) (ks := ps.map fun q => [q.a, q.b]) h.nod fun _ => Iff.rfl
    rw [← this, List.length_map]
theorem FitI.up {box : Nat} {ps : List LP} {x y : Int} {e : Nat} (h : FitI box ps x y e) : lotUp box ps = true := by
  unfold lotUp
  rw [List.all_eq_true]
  intro q hq
  exact decide_eq_true (h.siz q hq).1.le
theorem FitI.nil {box : Nat} (hb : box < 64) : FitI box [] (box : Int) 1 1 := ⟨by simp, by simp, ⟨by omega, by decide, by simp⟩, by omega, .of (by decide) (by decide), by simp [nN, dN]⟩
structure HFl (P : Pr) : Prop extends HSz P, HLe P where
  fitting : P.fn n__law_fitting_lot = some Fx__law_fitting_lot
section
variable {P : Pr} {k : Nat} (H : HFl P)
include H
end
end Mini

set_option linter.all false
set_option Elab.async false
set_option maxRecDepth 100000
set_option maxHeartbeats 2000000
namespace Mini
open PySem L2 TL
/-! ### rounding rules are plain, and greatest -/
end Mini

set_option linter.all false
set_option Elab.async false
set_option maxRecDepth 100000
set_option maxHeartbeats 2000000
namespace Mini
open PySem L2 TL
/-! ### texts of rules, rounding, by what they need -/
structure HTxt (P : Pr) : Prop where
  text : P.fn n__law_text = some Fx__law_text
structure HRd (P : Pr) : Prop extends HWu P where
  rounding : P.fn n_rounding = some Fx_rounding
section
variable {P : Pr} {k : Nat} (H : HTxt P)
include H
end
section
variable {P : Pr} {k : Nat} (H : HRd P)
include H
end
end Mini

set_option linter.all false
set_option Elab.async false
set_option maxRecDepth 100000
set_option maxHeartbeats 2000000
namespace Mini
open PySem L2 TL
/-! ### ints within bounds, numbers in lowest terms -/
section
variable {P : Pr} {k : Nat}
end
end Mini

set_option linter.all false
set_option Elab.async false
set_option maxRecDepth 100000
set_option maxHeartbeats 2000000
namespace Mini
open PySem L2 TL
/-! ### sizes, as the laws judge them -/
section
variable {P : Pr} {k : Nat}
end
end Mini

set_option linter.all false
set_option Elab.async false
set_option maxRecDepth 100000
set_option maxHeartbeats 2000000
namespace Mini
open PySem L2 TL
/-! ### how many fit beside, no more than a bound -/
structure HMtl (P : Pr) : Prop where
  most_times : P.fn n__law_most_times = some Fx__law_most_times
structure HNml (P : Pr) : Prop where
  no_more : P.fn n__law_is_no_more = some Fx__law_is_no_more
section
variable {P : Pr} {k : Nat}
end
end Mini

set_option linter.all false
set_option Elab.async false
set_option maxRecDepth 100000
set_option maxHeartbeats 2000000
namespace Mini
open PySem L2 TL
/-! ### the laws' own sums of parts, lots, what they reckon -/
theorem e_numberC {P : Pr} {k : Nat} (H : HNb P) {a b : Int} (h0 : 0 ≤ a) (hb : 0 < b) (hb2 : Bd 4000 b) : evF P (k + 1) n__law_number [.im (.int a), .im (.int b)] = .ok (Pt.d (low a b), false, [.im (.int a), .im (.int b)]) := by
  obtain ⟨a, rfl⟩ := Int.eq_ofNat_of_zero_le h0
  obtain ⟨b, rfl⟩ := Int.eq_ofNat_of_zero_le (Int.le_of_lt hb)
  have hb : 0 < b := by omega
  rw [evF_succ H.number]
  have hb3 : b < 2 ^ 4000 := by unfold Bd at hb2; rw [Int.natAbs_natCast] at hb2; exact hb2
  have hl := num_loop (P := P) (k := k) H (X := .int a) (Y := .int b) 4000 P.lim a b hb3 (by have := H.lim; omega)
  have hg : 0 < Nat.gcd a b := Nat.gcd_pos_of_pos_right _ hb
  have hgl : Nat.gcd a b ≤ b := Nat.gcd_le_right _ hb
  have bg : Bd 4000 ((Nat.gcd a b : Nat) : Int) := by unfold Bd; rw [Int.natAbs_natCast]; omega
  have lg : (((Nat.gcd a b : Nat) : Int)).natAbs.log2 < 9000 := by have := bg.log (by decide); omega
  have d1 : binop .FloorDiv (.int (a : Int)) (.int ((Nat.gcd a b : Nat) : Int)) = .ok (.int ((a : Int) / (Nat.gcd a b : Nat)), false) := binop_div (by omega) lg
  have d2 : binop .FloorDiv (.int (b : Int)) (.int ((Nat.gcd a b : Nat) : Int)) = .ok (.int ((b : Int) / (Nat.gcd a b : Nat)), false) := binop_div (by omega) lg
  have hz : sizeOk 2 = true := by decide
  have hw : ex (cbOf P k) (.whl (.cmp .Gt (.var 3) (.lit (.int 0))) (.seq (.par [2, 3] (.cons (.var 3) (.cons (.bin .Mod (.var 2) (.var 3)) .nil))) .done)) [.im (.int a), .im (.int b), .im (.int a), .im (.int b)] = .ok (.nx [.im (.int a), .im (.int b), .im (.int (Nat.gcd a b : Nat)), .im (.int (0 : Nat))]) := hl
  have hlow : Pt.d (low a b) = .tup [.int ((a : Int) / (Nat.gcd a b : Nat)), .int ((b : Int) / (Nat.gcd a b : Nat))] := rfl
  rw [hlow]
  simp_arith [Fx__law_number, biInt_int, hw, d1, d2, hz, -x_whl]
structure HSu (P : Pr) : Prop extends HNb P where
  sum : P.fn n__law_sum = some Fx__law_sum
theorem low_next {n d a b : Int} (hd : 0 < d) (hb : 0 < b) : low ((low n d).1 * b + a * (low n d).2) ((low n d).2 * b) = low (n * b + a * d) (d * b) := by
  obtain ⟨e1, e2⟩ := low_eq (n := n) (d := d)
  have hg := gN_pos (n := n) hd
  generalize (low n d).1 = x at *
  generalize (low n d).2 = y at *
  generalize gN n d = g at *
  have hy : 0 < y := Int.pos_of_mul_pos_left (by rw [e2]; exact hd) (by omega)
  rw [← low_mul (c := g) hg (Int.mul_pos hy hb), ← e1, ← e2]
  congr 1
  · rw [Int.mul_add]; congr 1 <;> ac_rfl
  · ac_rfl
section
variable {P : Pr} {k : Nat} (H : HSu P)
include H
theorem su_turn {B C : Nat} (hB : 0 < B) (hC : 0 < C) (h4 : C + B ≤ 4000) {n d : Int} (hn : 0 ≤ n) (hd : 0 < d) (bn : Bd C n) (bd : Bd C d) {p : Pt} (hp : 0 ≤ p.1 ∧ 0 < p.2) (bp : Bd B p.1 ∧ Bd B p.2) {s0 : Slot} {o3 o4 : Option D} :
    turn (cbOf P (k + 1)) (S.forT (S.nth 1 Fx__law_sum.body)) (S.forB (S.nth 1 Fx__law_sum.body)) (Pt.d p) [s0, .im (.int (low n d).1), .im (.int (low n d).2), frs o3, frs o4]
      = .ok (.nx [s0, .im (.int (low (n * p.2 + p.1 * d) (d * p.2)).1), .im (.int (low (n * p.2 + p.1 * d) (d * p.2)).2), frs (some (.int p.1)), frs (some (.int p.2))]) := by
  obtain ⟨l1, l2, l3, l4⟩ := low_bd hn hd bn bd
  have e := e_numberC (k := k) H.toHNb (a := (low n d).1 * p.2 + p.1 * (low n d).2) (b := (low n d).2 * p.2) (Int.add_nonneg (Int.mul_nonneg l1 (Int.le_of_lt hp.2)) (Int.mul_nonneg hp.1 (Int.le_of_lt l2))) (Int.mul_pos l2 hp.2) ((l4.mul bp.2).mono h4)
  rw [low_next hd hp.2] at e
  have m1 := mul_ok l3 bp.2 hC hB (by omega)
  have m2 := mul_ok bp.1 l4 hB hC (by omega)
  have m3 := mul_ok l4 bp.2 hC hB (by omega)
  rw [turn_eq]
  generalize low (n * p.2 + p.1 * d) (d * p.2) = L at *
  generalize low n d = M at *
  simp_arith [Fx__law_sum, S.nth, S.forT, S.forB, Pt.d, sz, m1, m2, m3, q_call _ (cb_io H.number), Fx__law_number, cb_call, e]
theorem su_loop {B : Nat} (hB : 0 < B) {s0 : Slot} : ∀ (ps qs : List Pt) (o3 o4 : Option D), (∀ p ∈ qs ++ ps, 0 ≤ p.1 ∧ 0 < p.2) → (∀ p ∈ qs ++ ps, Bd B p.1 ∧ Bd B p.2) → (qs ++ ps).length * (B + 1) + 1 ≤ 4000 →
    ∃ o3' o4' : Option D, forLoop (turn (cbOf P (k + 1)) (S.forT (S.nth 1 Fx__law_sum.body)) (S.forB (S.nth 1 Fx__law_sum.body))) (ps.map Pt.d) [s0, .im (.int (low (nN qs) (dN qs)).1), .im (.int (low (nN qs) (dN qs)).2), frs o3, frs o4]
      = .ok (.nx [s0, .im (.int (low (nN (qs ++ ps)) (dN (qs ++ ps))).1), .im (.int (low (nN (qs ++ ps)) (dN (qs ++ ps))).2), frs o3', frs o4'])
  | [], qs, o3, o4, _, _, _ => ⟨o3, o4, by rw [List.append_nil]; rfl⟩
  | p :: ps, qs, o3, o4, h, b, hl => by
    have hq : ∀ q ∈ qs, 0 ≤ q.1 ∧ 0 < q.2 := fun q hq => h q (List.mem_append_left _ hq)
    have bq : ∀ q ∈ qs, Bd B q.1 ∧ Bd B q.2 := fun q hq => b q (List.mem_append_left _ hq)
    have hp := h p (by simp)
    have bp := b p (by simp)
    have ll : (qs ++ p :: ps).length = qs.length + 1 + ps.length := by simp; omega
    rw [ll] at hl
    have m1 : (qs.length + 1) * (B + 1) ≤ (qs.length + 1 + ps.length) * (B + 1) := Nat.mul_le_mul_right _ (by omega)
    rw [Nat.add_mul, Nat.one_mul] at m1
    have c1 : Bd (qs.length * (B + 1) + 1) (nN qs) := nN_bd bq
    have c2 : Bd (qs.length * (B + 1) + 1) (dN qs) := (dN_bd fun q hq => (bq q hq).2).mono (by rw [Nat.mul_add]; omega)
    have e1 := su_turn (k := k) H hB (C := qs.length * (B + 1) + 1) (by omega) (by omega) (nN_pos hq) (dN_pos fun q hq' => (hq q hq').2) c1 c2 hp bp (s0 := s0) (o3 := o3) (o4 := o4)
    have n1 : nN (qs ++ [p]) = nN qs * p.2 + p.1 * dN qs := by rw [nN_app]; simp [nN, dN]
    have d1 : dN (qs ++ [p]) = dN qs * p.2 := by rw [dN_app]; simp [dN]
    rw [← n1, ← d1] at e1
    have ha : qs ++ p :: ps = (qs ++ [p]) ++ ps := by simp
    rw [ha] at h b ⊢
    obtain ⟨a3, a4, e2⟩ := su_loop hB ps (qs ++ [p]) (some (.int p.1)) (some (.int p.2)) h b (by rw [← ha, ll]; exact hl) (s0 := s0)
    exact ⟨a3, a4, by rw [List.map_cons, forLoop_nx e1, e2]⟩
theorem e_lsum {ps : List Pt} {B : Nat} (hB : 0 < B) (h : ∀ p ∈ ps, 0 ≤ p.1 ∧ 0 < p.2) (b : ∀ p ∈ ps, Bd B p.1 ∧ Bd B p.2) (hl : ps.length * (B + 1) + 1 ≤ 4000) :
    evF P (k + 2) n__law_sum [.im (.lst (ps.map Pt.d))] = .ok (Pt.d (low (nN ps) (dN ps)), false, [.im (.lst (ps.map Pt.d))]) := by
  rw [evF_succ H.sum]
  obtain ⟨o3, o4, e⟩ := su_loop (k := k) H hB (s0 := .im (.lst (ps.map Pt.d))) ps [] none none h b hl
  have hz : sizeOk 2 = true := by decide
  have l0 : low (nN []) (dN []) = (0, 1) := by decide
  rw [l0, List.nil_append] at e
  simp only [Fx__law_sum, S.nth, S.forT, S.forB, ← frs_no] at e
  generalize low (nN ps) (dN ps) = L at *
  simp_arith [Fx__law_sum, e, hz, Pt.d, sz]
end
section
variable {P : Pr} {k : Nat}
end
end Mini

set_option linter.all false
set_option Elab.async false
set_option maxRecDepth 100000
set_option maxHeartbeats 2000000
namespace Mini
open PySem L2 TL
/-! ### the laws' own look at lots and tables -/
section
variable {P : Pr} {k : Nat}
end
end Mini

set_option linter.all false
set_option Elab.async false
set_option maxRecDepth 100000
set_option maxHeartbeats 2000000
namespace Mini
open PySem L2 TL
/-! ### the laws' own look at tables that hold -/
section
variable {P : Pr} {k : Nat}
/-! the steps at one space -/
end
section
variable {P : Pr} {k : Nat}
end
end Mini

set_option linter.all false
set_option Elab.async false
set_option maxRecDepth 100000
set_option maxHeartbeats 2000000
namespace Mini
open PySem L2 TL
/-! ### sound rules of boxes to sixty -/
section
variable {P : Pr} {k : Nat} (H : HSd P)
include H
end
end Mini

set_option linter.all false
set_option Elab.async false
set_option maxRecDepth 100000
set_option maxHeartbeats 2000000
namespace Mini
open PySem L2 TL
/-! ### whether a rule is sound, by the laws' own table -/
end Mini

set_option linter.all false
set_option Elab.async false
set_option maxRecDepth 100000
set_option maxHeartbeats 2000000
namespace Mini
open PySem L2 TL
/-! ### lores drawn (the other form: of four) -/
structure HLo2 (P : Pr) : Prop extends HSm P where
  lore : P.fn n__law_lore = some Fx__law_lore_v2
section
variable {P : Pr} {k : Nat} (H : HLo2 P)
include H
end
section
variable {P : Pr} {k : Nat} (H : HLo2 P)
include H
end
end Mini

set_option linter.all false
set_option Elab.async false
set_option maxRecDepth 100000
set_option maxHeartbeats 2000000
namespace Mini
open PySem L2 TL
/-! ### sound rules, from such lores -/
structure HSd2 (P : Pr) : Prop extends HTb P, HLo2 P, HRo P, HLw P where
  sound : P.fn n__law_sound = some Fx__law_sound
section
variable {P : Pr} {k : Nat} (H : HSd2 P)
include H
end
end Mini

set_option linter.all false
set_option Elab.async false
set_option maxRecDepth 100000
set_option maxHeartbeats 2000000
namespace Mini
open PySem L2 TL
/-! ### texts that repr writes -/
noncomputable def Asc7 (s : Str) : Prop := ∀ c ∈ s.cps.toList, c < 128
theorem Asc7.app {x y : Str} (h : Asc7 x) (g : Asc7 y) : Asc7 (x ++ y) := fun c hc => by
  have hc : c ∈ (x.cps ++ y.cps).toList := hc
  rw [Array.toList_append, List.mem_append] at hc
  exact hc.elim (h c) (g c)
theorem asc7_by {s : Str} (h : s.cps.toList.all (fun c => decide (c < 128)) = true) : Asc7 s := fun c hc => of_decide_eq_true (List.all_eq_true.mp h c hc)
theorem Asc7.ok {s : Str} (h : Asc7 s) : PyData.strOk s = true := by
  unfold PyData.strOk
  rw [Array.all_eq_true']
  exact fun c hc => decide_eq_true (by have := h c (Array.mem_toList_iff.mpr hc); omega)
theorem asc7_int (i : Int) : Asc7 (Str.ofString (toString i)) := fun c hc => by
  rw [Str.ofString_eq_toList] at hc
  have hc : c ∈ (toString i).toList.map Char.toNat := by simpa using hc
  obtain ⟨d, hd, rfl⟩ := List.mem_map.mp hc
  exact int_ascii i d hd
theorem asc7_join {sep : Str} (hs : Asc7 sep) : ∀ {l : List Str}, (∀ x ∈ l, Asc7 x) → Asc7 (Str.join sep l)
  | [], _ => fun c hc => by simp [Str.join, Str.empty] at hc
  | [x], h => h x List.mem_cons_self
  | x :: y :: l, h => ((h x List.mem_cons_self).app hs).app (asc7_join hs fun z hz => h z (List.mem_cons_of_mem _ hz))
theorem asc7_from : ∀ {l : List Str} {k : Nat} {acc : Str}, Asc7 acc → (∀ x ∈ l, Asc7 x) → Asc7 (textFrom k acc l)
  | [], k, acc, ha, _ => ha
  | x :: l, k, acc, ha, h => by
    unfold textFrom
    refine asc7_from ((ha.app ?_).app (h x List.mem_cons_self)) fun z hz => h z (List.mem_cons_of_mem _ hz)
    split <;> exact asc7_by (by decide)
theorem asc7_tup {l : List Str} (h : ∀ x ∈ l, Asc7 x) : Asc7 (tupleText l) := by
  unfold tupleText
  refine ((asc7_by (by decide)).app (asc7_join (asc7_by (by decide)) h)).app ?_
  split <;> exact asc7_by (by decide)
theorem asc7_lst {l : List Str} (h : ∀ x ∈ l, Asc7 x) : Asc7 (listText l) := (asc7_from (asc7_by (by decide)) h).app (asc7_by (by decide))
theorem asc7_char : ((List.range 128).all fun c => (PySem.Builtin.Str.reprChar 39 c).all (fun d => decide (d < 128)) && (PySem.Builtin.Str.reprChar 34 c).all (fun d => decide (d < 128))) = true := by decide +kernel
theorem asc7_repr {x : Str} (h : Asc7 x) : Asc7 (reprText x) := by
  have hq : reprQuote x = 34 ∨ reprQuote x = 39 := by unfold reprQuote; split <;> simp
  have hc : ∀ c, c < 128 → ∀ d ∈ PySem.Builtin.Str.reprChar (reprQuote x) c, d < 128 := fun c hc d hd => by
    have := List.all_eq_true.mp asc7_char c (List.mem_range.mpr hc)
    rw [Bool.and_eq_true, List.all_eq_true, List.all_eq_true] at this
    rcases hq with e | e <;> rw [e] at hd
    · exact of_decide_eq_true (this.2 d hd)
    · exact of_decide_eq_true (this.1 d hd)
  have fold : ∀ (l : List Nat) (acc : Array Nat), (∀ c ∈ l, c < 128) → (∀ c ∈ acc.toList, c < 128) → ∀ c ∈ (l.foldl (fun out c => out ++ (PySem.Builtin.Str.reprChar (reprQuote x) c).toArray) acc).toList, c < 128 := fun l => by
    induction l with
    | nil => exact fun acc _ h => h
    | cons a l ih =>
      intro acc h1 h2
      refine ih _ (fun c hc => h1 c (List.mem_cons_of_mem _ hc)) fun c hm => ?_
      rw [Array.toList_append, List.mem_append] at hm
      exact hm.elim (h2 c) fun z => hc a (h1 a List.mem_cons_self) c z
  intro c hm
  have hm : c ∈ ((x.cps.foldl (fun out c => out ++ (PySem.Builtin.Str.reprChar (reprQuote x) c).toArray) #[reprQuote x]).push (reprQuote x)).toList := hm
  rw [Array.toList_push, List.mem_append, List.mem_singleton] at hm
  have q128 : reprQuote x < 128 := by omega
  rcases hm with hm | rfl
  · rw [← Array.foldl_toList] at hm
    exact fold _ _ h (fun c hc => by simp at hc; omega) c hm
  · exact q128
mutual
/-- data whose repr is told -/
noncomputable def rOk : D → Bool
  | .non => true | .bl _ => true
  | .int i => decide (i.natAbs.log2 < 1900)
  | .str z => z.cps.toList.all fun c => decide (c < 128)
  | .tup l => rOkL l | .lst l => rOkL l
  | _ => false
noncomputable def rOkL : List D → Bool
  | [] => true
  | d :: l => rOk d && rOkL l
end
mutual
noncomputable def rWt : D → Nat
  | .int i => i.natAbs.log2 + 1
  | .str z => z.cps.size
  | .tup l => rWtL l | .lst l => rWtL l
  | _ => 0
noncomputable def rWtL : List D → Nat
  | [] => 0
  | d :: l => rWt d + 1 + rWtL l
end
mutual
theorem rOk_py : ∀ d : D, rOk d = true → ∃ p, toPy d = some p ∧ p.showable = true ∧ p.hasDict = false ∧ p.leavesShort 1902 = true ∧ p.weight ≤ rWt d ∧ p.depth = dDep d ∧ Asc7 p.shown
  | .non, _ => ⟨.none, rfl, rfl, rfl, rfl, Nat.le_refl _, rfl, asc7_by (by decide)⟩
  | .bl b, _ => ⟨.bool b, rfl, rfl, rfl, rfl, Nat.le_refl _, rfl, by cases b <;> exact asc7_by (by decide)⟩
  | .int i, h => by
    have h : i.natAbs.log2 < 1900 := of_decide_eq_true h
    refine ⟨.int i, rfl, decide_eq_true (by omega), rfl, decide_eq_true ?_, ?_, rfl, asc7_int i⟩
    · have := int_text_length_le (a := i) (k := 1900) (by decide) h
      show (Str.ofString (toString i)).length ≤ 1902
      rw [ofString_length]
      omega
    · show (if i == 0 then 0 else i.natAbs.log2 + 1) ≤ i.natAbs.log2 + 1
      split <;> omega
  | .str z, h => by
    have h : Asc7 z := asc7_by h
    refine ⟨.str z, rfl, rfl, rfl, ?_, Nat.le_refl _, rfl, asc7_repr h⟩
    show (z.cps.toList.all fun c => decide (c < 16 ^ 8)) = true
    exact List.all_eq_true.mpr fun c hc => decide_eq_true (by have := h c hc; have e : (16 : Nat) ^ 8 = 4294967296 := (by decide); omega)
  | .tup l, h => by
    obtain ⟨ps, h1, h2, h3, h4, h5, h6, h7⟩ := rOk_pyL l (by simpa [rOk] using h)
    refine ⟨.tuple ps, by simp only [toPy, h1, Option.map_some], by simpa [PyData.showable] using h2, by simpa [PyData.hasDict] using h3, by simpa [PyData.leavesShort] using h4, by simpa [PyData.weight, rWt] using h5, by simp only [PyData.depth, dDep, h6], ?_⟩
    simp only [PyData.shown]
    exact asc7_tup h7
  | .lst l, h => by
    obtain ⟨ps, h1, h2, h3, h4, h5, h6, h7⟩ := rOk_pyL l (by simpa [rOk] using h)
    refine ⟨.list ps, by simp only [toPy, h1, Option.map_some], by simpa [PyData.showable] using h2, by simpa [PyData.hasDict] using h3, by simpa [PyData.leavesShort] using h4, by simpa [PyData.weight, rWt] using h5, by simp only [PyData.depth, dDep, h6], ?_⟩
    simp only [PyData.shown]
    exact asc7_lst h7
  | .dic _ _, h => by simp [rOk] at h
  | .dit _ _, h => by simp [rOk] at h
  | .frz _, h => by simp [rOk] at h
  | .ins _ _ _, h => by simp [rOk] at h
  | .exc _ _, h => by simp [rOk] at h
theorem rOk_pyL : ∀ l : List D, rOkL l = true → ∃ ps, toPyL l = some ps ∧ PyData.showableAll ps = true ∧ PyData.hasDictAll ps = false ∧ PyData.leavesShortAll 1902 ps = true ∧ PyData.weightAll ps ≤ rWtL l ∧ PyData.depthAll ps = dDepL l ∧ ∀ x ∈ PyData.shownAll ps, Asc7 x
  | [], _ => ⟨[], rfl, rfl, rfl, rfl, Nat.le_refl _, rfl, fun x hx => by simp [PyData.shownAll] at hx⟩
  | d :: l, h => by
    have h : rOk d = true ∧ rOkL l = true := by simpa [rOkL] using h
    obtain ⟨p, a1, a2, a3, a4, a5, a6, a7⟩ := rOk_py d h.1
    obtain ⟨ps, h1, h2, h3, h4, h5, h6, h7⟩ := rOk_pyL l h.2
    refine ⟨p :: ps, by simp only [toPyL, a1, h1, Option.bind_some, Option.map_some], by simp [PyData.showableAll, a2, h2], by simp [PyData.hasDictAll, a3, h3], by simp [PyData.leavesShortAll, a4, h4], by simp only [PyData.weightAll, rWtL]; omega, by simp only [PyData.depthAll, dDepL, a6, h6], fun x hx => ?_⟩
    simp only [PyData.shownAll, List.mem_cons] at hx
    rcases hx with rfl | hx
    · exact a7
    · exact h7 x hx
end
theorem repr_ex {d : D} (h : rOk d = true) (hw : rWt d ≤ 8000) (hd : dDep d ≤ 50) : ∃ z, biRepr [d] = .ok (.str z, false) ∧ PyData.strOk z = true := by
  obtain ⟨p, h1, h2, h3, h4, h5, h6, h7⟩ := rOk_py d h
  have hl := PyData.shown_le 1902 (by decide) p h4
  have hl2 : (1902 + 2) * p.weight ≤ (1902 + 2) * 8000 := Nat.mul_le_mul_left _ (by omega)
  have hlen : p.shown.length ≤ 16777216 := by omega
  have ok : reprOk p = true := by
    unfold reprOk
    rw [h2, h3, decide_eq_true hlen, decide_eq_true (by omega)]
    rfl
  refine ⟨p.shown, ?_, h7.ok⟩
  cases d with
  | non => cases h1; rfl
  | bl b => cases h1; cases b <;> rfl
  | int i =>
    cases h1
    have h : i.natAbs.log2 < 1900 := of_decide_eq_true h
    show (R.guard (decide (i.natAbs.log2 < 1920))).bind _ = _
    rw [decide_eq_true (by omega)]
    rfl
  | str z =>
    cases h1
    have hs : PyData.shown (.str z) = reprText z := by simp only [PyData.shown]
    rw [hs] at hlen ⊢
    show (R.guard (decide ((reprText z).length ≤ 16777216))).bind _ = _
    rw [decide_eq_true hlen]
    rfl
  | tup l =>
    simp only [toPy] at h1
    obtain ⟨ps, e1, rfl⟩ := Option.map_eq_some_iff.mp h1
    show (R.of (toPyL l)).bind _ = _
    rw [e1]
    show (R.guard (reprOk (.tuple ps))).bind _ = _
    rw [ok]
    rfl
  | lst l =>
    simp only [toPy] at h1
    obtain ⟨ps, e1, rfl⟩ := Option.map_eq_some_iff.mp h1
    show (R.of (toPyL l)).bind _ = _
    rw [e1]
    show (R.guard (reprOk (.list ps))).bind _ = _
    rw [ok]
    rfl
  | dic _ _ => simp [rOk] at h
  | dit _ _ => simp [rOk] at h
  | frz _ => simp [rOk] at h
  | ins _ _ _ => simp [rOk] at h
  | exc _ _ => simp [rOk] at h
end Mini

set_option linter.all false
set_option Elab.async false
set_option maxRecDepth 100000
set_option maxHeartbeats 2000000
namespace Mini
open PySem L2 TL
/-! ### what lots fill, where no rule is told -/
structure HLotN (P : Pr) : Prop extends HNum P where
  lot : P.fn n_is_lot = some Fx_is_lot
structure HAdN (P : Pr) : Prop extends HLotN P where
  lowest : P.fn n_lowest = some Fx_lowest
  added : P.fn n_added = some Fx_added
  filled : P.fn n_filled = some Fx_filled
section
variable {P : Pr} {k : Nat} (H : HLotN P)
include H
theorem lot_turnN {S0 : D} {p : LP} (hp : p.Ok) (o1 : Option D) : turn (cbOf P (k + 3)) (S.forT (S.nth 1 Fx_is_lot.body)) (S.forB (S.nth 1 Fx_is_lot.body)) p.d [.im S0, frs o1, .no, .no] = .ok (.nx [.im S0, frs (some p.d), .no, .no]) := by
  rw [turn_eq]
  have e1 := e_is_pair (n := k + 2) H.is_pair (d := p.d) rfl
  have e2 := e_is_size (n := k) H.toHNum hp.n hp.a
  have e3 := e_is_whole (n := k + 2) H.toHNum (d := p.m) (lo := 1)
  rw [decide_eq_true hp.m] at e3
  have i0 : item p.d (.int 0) = .ok (sz p.a p.b) := rfl
  have i1 : item p.d (.int 1) = .ok (.int p.m) := rfl
  have hd : pairD p.d = true := rfl
  rw [hd] at e1
  simp_arith [Fx_is_lot, S.nth, S.forT, S.forB, q_call _ (cb_io H.is_pair), q_call _ (cb_io H.is_size), q_call _ (cb_io H.is_whole), Fx_is_pair, Fx_is_size, Fx_is_whole, cb_call, e1, e2, e3, i0, i1]
theorem lot_compN {S0 : D} {p : LP} {o1 : Option D} : compOf (cbOf P (k + 3)) (E.nth 0 (E.args (S.rE (S.nth 2 Fx_is_lot.body)))) p.d [.im S0, frs o1, .no, .no] = .ok (some (sz p.a p.b), [.im S0, frs o1, .no, .no]) := by
  simp_arith [Fx_is_lot, S.nth, S.rE, E.args, E.nth, compOf, q_compF, LP.d]
theorem e_is_lotN {ps : List LP} (h : LotOk ps) : evF P (k + 4) n_is_lot [.im (lotD ps)] = .ok (.bl true, false, [.im (lotD ps)]) := by
  rw [evF_succ H.lot]
  obtain ⟨o1, e⟩ := forLoop_same (τ := fun _ => []) (g := LP.d) ps none (fun o => [.im (lotD ps), frs o, .no, .no]) fun p hp o => lot_turnN (k := k) H (S0 := lotD ps) (h.ok p hp) o
  have hc := compLoop_map (f := compOf (cbOf P (k + 3)) (E.nth 0 (E.args (S.rE (S.nth 2 Fx_is_lot.body))))) (g := LP.d) (h := fun p => sz p.a p.b) (σ := [.im (lotD ps), frs o1, .no, .no]) ps [] (fun p hp => lot_compN (k := k) H) (by have := h.len; simp; omega)
  have hs := lenSet_lot h
  simp only [← frs_no, Fx_is_lot, S.nth, S.forT, S.forB, S.rE, E.args, E.nth, compOf, lotD, List.nil_append] at e hc
  simp_arith [Fx_is_lot, isInst_tup, lotD, e, hc, hs, biLen_tup, List.length_map, decide_true]
end
section
variable {P : Pr} {k : Nat} (H : HAdN P)
include H
theorem e_addedN : ∀ (f : Nat) (l : List Pt) (B : Nat), l ≠ [] → l.length ≤ 2 ^ f → (∀ p ∈ l, 0 ≤ p.1 ∧ 0 < p.2) → (∀ p ∈ l, Bd B p.1 ∧ Bd B p.2) → l.length * (B + 1) + 1 ≤ 3000 → l.length < 1000000 →
    evF P (k + f + 2) n_added [.im (.lst (l.map Pt.d))] = .ok (Pt.d (low (nN l) (dN l)), false, [.im (.lst (l.map Pt.d))])
  | f, [], _, h, _, _, _, _, _ => absurd rfl h
  | f, [p], B, _, _, hp, hb, hB, _ => by
    rw [evF_succ H.added]
    have h0 := hp p List.mem_cons_self
    have g0 := gN_pos (n := p.1) h0.2
    have b0 := hb p List.mem_cons_self
    have e1 := e_lowest (n := k + f) H.lowest (a := p.1) (b := p.2) g0 ((b0.2.mono (by simp only [List.length_cons, List.length_nil] at hB; omega)).le (by unfold gN at g0; omega) (Int.le_of_dvd h0.2 (Int.gcd_dvd_right ..)))
    have i0 : item (Pt.d p) (.int 0) = .ok (.int p.1) := rfl
    have i1 : item (Pt.d p) (.int 1) = .ok (.int p.2) := rfl
    have e2 : low (nN [p]) (dN [p]) = low p.1 p.2 := by simp [nN, dN]
    have e3 : Pt.d (low p.1 p.2) = sz (p.1 / (Int.gcd p.1 p.2 : Int)) (p.2 / (Int.gcd p.1 p.2 : Int)) := rfl
    rw [e2, e3]
    simp_arith [Fx_added, tr_lst, List.isEmpty_cons, biLen_lst, deq_int, Int.natCast_one, decide_true, item_lst, atL0, i0, i1, q_call _ (cb_io H.lowest), Fx_lowest, cb_call, e1]
  | 0, p :: q :: r, _, _, h, _, _, _, _ => by simp only [List.length_cons] at h; omega
  | f + 1, p :: q :: r, B, _, h, hp, hb, hB, hL => by
    rw [evF_succ H.added]
    have hlen : 2 ≤ (p :: q :: r).length := by simp
    have hne : (p :: q :: r).map Pt.d ≠ [] := by simp
    generalize hl : p :: q :: r = l at *
    have hm1 : 1 ≤ l.length / 2 := by omega
    have hm2 : l.length / 2 < l.length := by omega
    have hpow : 2 ^ (f + 1) = 2 * 2 ^ f := by rw [Nat.pow_succ, Nat.mul_comm]
    have ta : (l.take (l.length / 2)).length = l.length / 2 := by rw [List.length_take]; omega
    have td : (l.drop (l.length / 2)).length = l.length - l.length / 2 := by rw [List.length_drop]
    have sub1 : (l.length / 2) * (B + 1) ≤ l.length * (B + 1) := Nat.mul_le_mul_right _ (by omega)
    have sub2 : (l.length - l.length / 2) * (B + 1) ≤ l.length * (B + 1) := Nat.mul_le_mul_right _ (by omega)
    have e1 := e_addedN f (l.take (l.length / 2)) B (fun z => by rw [z] at ta; simp at ta; omega) (by omega) (fun x hx => hp x (List.mem_of_mem_take hx)) (fun x hx => hb x (List.mem_of_mem_take hx)) (by rw [ta]; omega) (by omega)
    have e2 := e_addedN f (l.drop (l.length / 2)) B (fun z => by rw [z] at td; simp at td; omega) (by omega) (fun x hx => hp x (List.mem_of_mem_drop hx)) (fun x hx => hb x (List.mem_of_mem_drop hx)) (by rw [td]; omega) (by omega)
    have dd : ∀ m : List Pt, (∀ x ∈ m, x ∈ l) → m.length ≤ l.length → 0 < dN m ∧ 0 ≤ (low (nN m) (dN m)).1 ∧ 0 < (low (nN m) (dN m)).2 ∧ Bd 3000 (low (nN m) (dN m)).1 ∧ Bd 3000 (low (nN m) (dN m)).2 := fun m hm hml => by
      have d0 := dN_pos (l := m) fun x hx => (hp x (hm x hx)).2
      have n0 := nN_pos (l := m) fun x hx => hp x (hm x hx)
      have b1 := nN_bd (B := B) (l := m) fun x hx => hb x (hm x hx)
      have b2 := dN_bd (B := B) (l := m) fun x hx => (hb x (hm x hx)).2
      have s3 : m.length * (B + 1) ≤ l.length * (B + 1) := Nat.mul_le_mul_right _ hml
      have s4 : m.length * B ≤ m.length * (B + 1) := Nat.mul_le_mul_left _ (by omega)
      exact ⟨d0, low_bd n0 d0 (b1.mono (by omega)) (b2.mono (by omega))⟩
    obtain ⟨d1, x1, y1, bx1, by1⟩ := dd (l.take (l.length / 2)) (fun x hx => List.mem_of_mem_take hx) (by rw [ta]; omega)
    obtain ⟨d2, x2, y2, bx2, by2⟩ := dd (l.drop (l.length / 2)) (fun x hx => List.mem_of_mem_drop hx) (by rw [td]; omega)
    have hs := low_sum (n1 := nN (l.take (l.length / 2))) (n2 := nN (l.drop (l.length / 2))) d1 d2
    rw [← nN_app, ← dN_app, List.take_append_drop] at hs
    have hy := Int.mul_pos y1 y2
    have hb3 := (by1.mul by2)
    have g0 := gN_pos (n := (low (nN (l.take (l.length / 2))) (dN (l.take (l.length / 2)))).1 * (low (nN (l.drop (l.length / 2))) (dN (l.drop (l.length / 2)))).2 + (low (nN (l.drop (l.length / 2))) (dN (l.drop (l.length / 2)))).1 * (low (nN (l.take (l.length / 2))) (dN (l.take (l.length / 2)))).2) hy
    have e3 := e_lowest (n := k + f + 1) H.lowest (a := (low (nN (l.take (l.length / 2))) (dN (l.take (l.length / 2)))).1 * (low (nN (l.drop (l.length / 2))) (dN (l.drop (l.length / 2)))).2 + (low (nN (l.drop (l.length / 2))) (dN (l.drop (l.length / 2)))).1 * (low (nN (l.take (l.length / 2))) (dN (l.take (l.length / 2)))).2) (b := (low (nN (l.take (l.length / 2))) (dN (l.take (l.length / 2)))).2 * (low (nN (l.drop (l.length / 2))) (dN (l.drop (l.length / 2)))).2) g0 ((hb3.mono (by decide)).le (by unfold gN at g0; omega) (Int.le_of_dvd hy (Int.gcd_dvd_right ..)))
    have e4 : ∀ n d : Int, sz (n / (Int.gcd n d : Int)) (d / (Int.gcd n d : Int)) = Pt.d (low n d) := fun _ _ => rfl
    rw [e4, hs] at e3
    have e5 : decide (((l.length : Nat) : Int) = 1) = false := decide_eq_false (by omega)
    have e6 : ((l.length : Nat) : Int) / 2 = ((l.length / 2 : Nat) : Int) := by omega
    have c1 := cut_to (l.map Pt.d) (l.length / 2) (by simp; omega)
    have c2 := cut_from (l.map Pt.d) (l.length / 2) (by simp; omega)
    rw [← List.map_take] at c1
    rw [← List.map_drop] at c2
    have e7 : (l.map Pt.d).isEmpty = false := by rw [← hl]; rfl
    generalize l.take (l.length / 2) = l1 at *
    generalize l.drop (l.length / 2) = l2 at *
    simp only [Pt.d, sz] at e1 e2
    rw [show k + (f + 1) + 1 = k + f + 2 by omega]
    rw [show k + f + 1 + 1 = k + f + 2 by omega] at e3
    simp_arith [Fx_added, tr_lst, e7, biLen_lst, List.length_map, deq_int, e5, q_call _ (cb_io H.lowest), q_call _ (cb_io H.added), Fx_lowest, Fx_added, cb_call, binop_div (show (0 : Int) < 2 by decide) (show ((2 : Int)).natAbs.log2 < 9000 by decide), e6, slice_lst, c1, c2, e1, e2, mul_ok bx1 by2 (by decide) (by decide) (by decide), mul_ok bx2 by1 (by decide) (by decide) (by decide), mul_ok by1 by2 (by decide) (by decide) (by decide), e3]
end
section
variable {P : Pr} {k : Nat} (H : HAdN P)
include H
theorem e_added_nilN : evF P (k + 1) n_added [.im (.lst [])] = .ok (sz 0 1, false, [.im (.lst [])]) := by
  rw [evF_succ H.added]
  have hz : sizeOk 2 = true := by decide
  simp_arith [Fx_added, tr_lst, List.isEmpty_nil, hz, sz]
theorem fill_compN {S0 : D} {p : LP} {B : Nat} (h0 : 0 < B) (hB : B ≤ 3000) (ha : Bd B p.a) (hm : Bd B p.m) : compOf (cbOf P k) (E.nth 0 (E.args (S.rE (S.nth 1 Fx_filled.body)))) p.d [.im S0, .no, .no] = .ok (some (Pt.d p.pt), [.im S0, .no, .no]) := by
  have hz : sizeOk 2 = true := by decide
  have i0 : item (.tup [.int p.a, .int p.b]) (.int 0) = .ok (.int p.a) := rfl
  have i1 : item (.tup [.int p.a, .int p.b]) (.int 1) = .ok (.int p.b) := rfl
  simp_arith [Fx_filled, S.nth, S.rE, E.args, E.nth, compOf, q_compF, LP.d, i0, i1, mul_ok ha hm h0 h0 (by omega), hz, Pt.d, LP.pt, sz]
theorem e_filledN {ps : List LP} (h : LotOk ps) {B : Nat} (h0 : 0 < B) (hB : B ≤ 3000) (ha : ∀ p ∈ ps, Bd B p.a ∧ Bd B p.b ∧ Bd B p.m) (hl : ps.length * (2 * B + 1) + 1 ≤ 3000) {f : Nat} (hf : ps.length ≤ 2 ^ f) :
    evF P (k + f + 5) n_filled [.im (lotD ps)] = .ok (Pt.d (fillP ps), false, [.im (lotD ps)]) := by
  rw [evF_succ H.filled]
  have e1 := e_is_lotN (k := k + f) H.toHLotN h
  have hlen := h.len
  have hc := compLoop_map (f := compOf (cbOf P (k + f + 4)) (E.nth 0 (E.args (S.rE (S.nth 1 Fx_filled.body))))) (g := LP.d) (h := fun p => Pt.d p.pt) (σ := [.im (lotD ps), .no, .no]) ps [] (fun p hp => fill_compN (k := k + f + 4) H h0 hB (ha p hp).1 (ha p hp).2.2) (by simp; omega)
  have e2 : evF P (k + f + 4) n_added [.im (.lst (ps.map fun p => Pt.d p.pt))] = .ok (Pt.d (fillP ps), false, [.im (.lst (ps.map fun p => Pt.d p.pt))]) := by
    have hmap : (ps.map fun p => Pt.d p.pt) = (ps.map LP.pt).map Pt.d := by rw [List.map_map]; rfl
    rw [hmap]
    by_cases hz : ps = []
    · subst hz
      have := e_added_nilN (k := k + f + 3) H
      exact this
    · have := e_addedN (k := k + 2) H f (ps.map LP.pt) (2 * B) (by simpa using hz) (by simpa using hf) (fun q hq => by
        obtain ⟨p, hp, rfl⟩ := List.mem_map.mp hq
        have o := h.ok p hp
        exact ⟨Int.mul_nonneg (Int.le_of_lt o.a) (by have := o.m; omega), o.n.2.1⟩) (fun q hq => by
        obtain ⟨p, hp, rfl⟩ := List.mem_map.mp hq
        have b := ha p hp
        exact ⟨(b.1.mul b.2.2).mono (by omega), b.2.1.mono (by omega)⟩) (by simpa using hl) (by simp; omega)
      rw [show k + 2 + f + 2 = k + f + 4 by omega] at this
      exact this
  simp only [Fx_filled, S.nth, S.rE, E.args, E.nth, compOf, lotD, List.nil_append] at e1 hc
  simp_arith [Fx_filled, q_call _ (cb_io H.lot), q_call _ (cb_io H.added), Fx_is_lot, Fx_added, cb_call, lotD, e1, hc, e2]
end
end Mini

set_option linter.all false
set_option Elab.async false
set_option maxRecDepth 100000
set_option maxHeartbeats 2000000
namespace Mini
open PySem L2 TL
/-! ### sums of parts, parted, backwards, so many times -/
theorem nd_rev : ∀ l : List Pt, nN l.reverse = nN l ∧ dN l.reverse = dN l
  | [] => ⟨rfl, rfl⟩
  | p :: l => by
    obtain ⟨h1, h2⟩ := nd_rev l
    rw [List.reverse_cons, nN_app, dN_app, h1, h2]
    constructor
    · show nN l * (p.2 * 1) + (p.1 * 1 + 0 * p.2) * dN l = p.1 * dN l + nN l * p.2
      rw [Int.mul_one, Int.mul_one, Int.zero_mul, Int.add_zero, Int.add_comm]
    · show dN l * (p.2 * 1) = p.2 * dN l
      rw [Int.mul_one, Int.mul_comm]
theorem fill_rev (ps : List LP) : fillP ps.reverse = fillP ps := by
  unfold fillP
  rw [List.map_reverse, (nd_rev _).1, (nd_rev _).2]
theorem fill_cut {ps : List LP} (h : ∀ p ∈ ps, 0 < p.b) (n : Nat) : low (nN [fillP (ps.take n), fillP (ps.drop n)]) (dN [fillP (ps.take n), fillP (ps.drop n)]) = fillP ps := by
  have d1 : 0 < dN ((ps.take n).map LP.pt) := dN_pos fun q hq => by
    obtain ⟨p, hp, rfl⟩ := List.mem_map.mp hq
    exact h p (List.mem_of_mem_take hp)
  have d2 : 0 < dN ((ps.drop n).map LP.pt) := dN_pos fun q hq => by
    obtain ⟨p, hp, rfl⟩ := List.mem_map.mp hq
    exact h p (List.mem_of_mem_drop hp)
  have e := low_sum (n1 := nN ((ps.take n).map LP.pt)) (n2 := nN ((ps.drop n).map LP.pt)) d1 d2
  rw [← nN_app, ← dN_app, ← List.map_append, List.take_append_drop] at e
  have e1 : nN [fillP (ps.take n), fillP (ps.drop n)] = (fillP (ps.take n)).1 * (fillP (ps.drop n)).2 + (fillP (ps.drop n)).1 * (fillP (ps.take n)).2 := by simp [nN, dN]
  have e2 : dN [fillP (ps.take n), fillP (ps.drop n)] = (fillP (ps.take n)).2 * (fillP (ps.drop n)).2 := by simp [dN]
  rw [e1, e2]
  exact e
noncomputable def LP.times (m : Int) (p : LP) : LP := ⟨p.a, p.b, m * p.m⟩
theorem nd_times (m : Int) : ∀ ps : List LP, nN ((ps.map (LP.times m)).map LP.pt) = m * nN (ps.map LP.pt) ∧ dN ((ps.map (LP.times m)).map LP.pt) = dN (ps.map LP.pt)
  | [] => ⟨by simp [nN], rfl⟩
  | p :: ps => by
    obtain ⟨h1, h2⟩ := nd_times m ps
    simp only [List.map_cons, nN, dN, h1, h2, LP.times, LP.pt]
    refine ⟨?_, trivial⟩
    rw [Int.mul_add]
    congr 1 <;> ac_rfl
theorem low_scale {n d m : Int} (hd : 0 < d) : low ((low n d).1 * m) ((low n d).2 * 1) = low (m * n) d := by
  obtain ⟨e1, e2⟩ := low_eq (n := n) (d := d)
  have hg := gN_pos (n := n) hd
  generalize (low n d).1 = x at *
  generalize (low n d).2 = y at *
  generalize gN n d = g at *
  have hy : 0 < y := Int.pos_of_mul_pos_left (by rw [e2]; exact hd) (by omega)
  rw [Int.mul_one, ← low_mul (c := g) hg hy, ← e1, ← e2]
  congr 1 <;> ac_rfl
theorem fill_times {ps : List LP} (h : ∀ p ∈ ps, 0 < p.b) (m : Int) : low ((fillP ps).1 * m) ((fillP ps).2 * 1) = fillP (ps.map (LP.times m)) := by
  have d1 : 0 < dN (ps.map LP.pt) := dN_pos fun q hq => by
    obtain ⟨p, hp, rfl⟩ := List.mem_map.mp hq
    exact h p hp
  unfold fillP
  rw [low_scale d1, (nd_times m ps).1, (nd_times m ps).2]
theorem deq_pt (F : Pt) : deq (Pt.d F) (Pt.d F) = .ok true := deq_self (by simp [Pt.d, sz, dOk, dOkL]) (by simp [Pt.d, sz, dDep, dDepL])
theorem repr_pt {F : Pt} (h1 : Bd 1800 F.1) (h2 : Bd 1800 F.2) : ∃ z, biRepr [Pt.d F] = .ok (.str z, false) ∧ PyData.strOk z = true := by
  have l1 := h1.log (by decide)
  have l2 := h2.log (by decide)
  refine repr_ex ?_ ?_ ?_
  · simp only [Pt.d, sz, rOk, rOkL, Bool.and_true, Bool.and_eq_true, decide_eq_true_eq]
    omega
  · simp only [Pt.d, sz, rWt, rWtL]
    omega
  · simp only [Pt.d, sz, dDep, dDepL]
    omega
structure HTmC (P : Pr) : Prop extends HNb P where
  ltimes : P.fn n__law_times = some Fx__law_times
theorem e_ltimesC {P : Pr} {k : Nat} (H : HTmC P) {a b c d : Int} (h0 : 0 ≤ a * c) (hb : 0 < b * d) {B : Nat} (hB : 0 < B) (hBB : B ≤ 2000) (ba : Bd B a) (bb : Bd B b) (bc : Bd B c) (bd : Bd B d) :
    evF P (k + 2) n__law_times [.im (sz a b), .im (sz c d)] = .ok (Pt.d (low (a * c) (b * d)), false, [.im (sz a b), .im (sz c d)]) := by
  rw [evF_succ H.ltimes]
  have e := e_numberC (k := k) H.toHNb h0 hb ((bb.mul bd).mono (by omega))
  have m1 := mul_ok ba bc hB hB (by omega)
  have m2 := mul_ok bb bd hB hB (by omega)
  generalize low (a * c) (b * d) = L at *
  simp_arith [Fx__law_times, sz, item0, item1, m1, m2, q_call _ (cb_io H.number), Fx__law_number, cb_call, e]
end Mini

set_option linter.all false
set_option Elab.async false
set_option maxRecDepth 100000
set_option maxHeartbeats 2000000
namespace Mini
open PySem L2 TL
/-! ### whether a rule has room for a worth of a size -/
structure HHr (P : Pr) : Prop where
  has_room : P.fn n_has_room = some Fx_has_room
  beside : P.fn n_room_beside = some Fx_room_beside
section
variable {P : Pr} {k : Nat} (H : HHr P)
include H
end
structure HMwo (P : Pr) : Prop extends HRl P where
  m_worth : P.meth 505 = some (28, 21)
structure HSg (P : Pr) : Prop extends HGr P, HHr P, HMwo P where
  shows_greatest : P.fn n_shows_greatest = some Fx_shows_greatest
section
variable {P : Pr} {k : Nat} (H : HSg P)
include H
end
end Mini

set_option linter.all false
set_option Elab.async false
set_option maxRecDepth 100000
set_option maxHeartbeats 2000000
namespace Mini
open PySem L2 TL
/-! ### the room that greatest tells is a room -/
theorem par (s : Nat) : (∃ q, s = 2 * q) ∨ ∃ q, s = 2 * q + 1 := by
  rcases Nat.mod_two_eq_zero_or_one s with h | h
  · exact .inl ⟨s / 2, by omega⟩
  · exact .inr ⟨s / 2, by omega⟩
end Mini

set_option linter.all false
set_option Elab.async false
set_option maxRecDepth 100000
set_option maxHeartbeats 2000000
namespace Mini
open PySem L2 TL
/-! ### the laws' own look at what is greatest -/
structure HBt (P : Pr) : Prop extends HTb P where
  isbest : P.fn n__law_is_best = some Fx__law_is_best
section
variable {P : Pr} {k : Nat} (H : HBt P)
include H
end
structure HBg (P : Pr) : Prop extends HBt P where
  worths : P.fn n__law_worths = some Fx__law_worths
  isgreat : P.fn n__law_is_greatest = some Fx__law_is_greatest
section
variable {P : Pr} {k : Nat} (H : HBg P)
include H
end
end Mini

set_option linter.all false
set_option Elab.async false
set_option maxRecDepth 100000
set_option maxHeartbeats 2000000
namespace Mini
open PySem L2 TL
/-! ### the laws' own look at room; best ones; rules with a worth less -/
structure HLhr (P : Pr) : Prop extends HTb P, HMtl P, HNml P where
  lhasroom : P.fn n__law_has_room = some Fx__law_has_room
section
variable {P : Pr} {k : Nat} (H : HLhr P)
include H
end
section
variable {P : Pr} {k : Nat}
end
end Mini

set_option linter.all false
set_option Elab.async false
set_option maxRecDepth 100000
set_option maxHeartbeats 2000000
namespace Mini
open PySem L2 TL
/-! ### texts by worths of all spaces, rules read from texts -/
structure HTy (P : Pr) : Prop extends HTr P where
  textby : P.fn n__law_text_by = some Fx__law_text_by
section
variable {P : Pr} {k : Nat} (H : HTy P)
include H
end
end Mini

set_option linter.all false
set_option Elab.async false
set_option maxRecDepth 100000
set_option maxHeartbeats 2000000
namespace Mini
open PySem L2 TL
/-! ### rules read from texts -/
noncomputable def St.ws (t : St) : List Str := [kwS t.b, numS t.s, numS t.w]
structure HLof (P : Pr) : Prop where
  loreof : P.fn n__law_lore_of = some Fx__law_lore_of
section
variable {P : Pr} {k : Nat} (H : HLof P)
include H
end
structure HNd (P : Pr) : Prop extends HTy P, HLof P where
  numbered : P.fn n__law_numbered = some Fx__law_numbered
section
variable {P : Pr} {k : Nat} (H : HNd P)
include H
end
end Mini

set_option linter.all false
set_option Elab.async false
set_option maxRecDepth 100000
set_option maxHeartbeats 2000000
namespace Mini
open PySem L2 TL
/-! ### lots by twenty-fourths -/
structure HFi (P : Pr) : Prop extends HWo P, HNb P where
  fills : P.fn n__law_fills = some Fx__law_fills
section
variable {P : Pr} {k : Nat} (H : HFi P)
include H
end
end Mini

set_option linter.all false
set_option Elab.async false
set_option maxRecDepth 100000
set_option maxHeartbeats 2000000
namespace Mini
open PySem L2 TL
/-! ### lots by twenty-fourths as by the table; no room in greatest rules -/
end Mini

set_option Elab.async false
set_option linter.all false
set_option maxRecDepth 100000
set_option maxHeartbeats 8000000
namespace Law
open PySem L2 Mini
/-- is_whole -/
noncomputable def Fx_is_whole : Fn := ⟨2, 2, false, (.seq (.ret (.and (.cons (.tyi (.var 0)) (.cons (.cmp .GtE (.var 0) (.var 1)) .nil)))) .done)⟩
noncomputable def Nx_is_whole : List Str := [Str.ofString "value", Str.ofString "low"]
/-- is_pair -/
noncomputable def Fx_is_pair : Fn := ⟨1, 1, false, (.seq (.ret (.and (.cons (.isi 3 (.var 0)) (.cons (.cmp .Eq (.bi .len (.cons (.var 0) .nil)) (.lit (.int 2))) .nil)))) .done)⟩
noncomputable def Nx_is_pair : List Str := [Str.ofString "value"]
/-- is_number -/
noncomputable def Fx_is_number : Fn := ⟨1, 3, false, (.seq (.ife (.not (.call 3 (.cons (.var 0) .nil))) (.seq (.ret (.lit (.bl false))) .done) .done) (.seq (.asg (.tup (.cons (.var 1) (.cons (.var 2) .nil))) (.var 0)) (.seq (.ret (.and (.cons (.tyi (.var 1)) (.cons (.tyi (.var 2)) (.cons (.cmp .GtE (.var 1) (.lit (.int 0))) (.cons (.cmp .Gt (.var 2) (.lit (.int 0))) (.cons (.cmp .Eq (.bi .gcd (.cons (.var 1) (.cons (.var 2) .nil))) (.lit (.int 1))) .nil))))))) .done)))⟩
noncomputable def Nx_is_number : List Str := [Str.ofString "value", Str.ofString "over", Str.ofString "under"]
/-- is_size -/
noncomputable def Fx_is_size : Fn := ⟨1, 1, false, (.seq (.ret (.and (.cons (.call 4 (.cons (.var 0) .nil)) (.cons (.cmp .Gt (.idx (.var 0) (.lit (.int 0))) (.lit (.int 0))) .nil)))) .done)⟩
noncomputable def Nx_is_size : List Str := [Str.ofString "value"]
/-- is_lot -/
noncomputable def Fx_is_lot : Fn := ⟨1, 4, false, (.seq (.ife (.not (.isi 3 (.var 0))) (.seq (.ret (.lit (.bl false))) .done) .done) (.seq (.for (.var 1) (.itm (.var 0)) (.seq (.ife (.or (.cons (.not (.call 3 (.cons (.var 1) .nil))) (.cons (.not (.call 5 (.cons (.idx (.var 1) (.lit (.int 0))) .nil))) (.cons (.not (.call 2 (.cons (.idx (.var 1) (.lit (.int 1))) (.cons (.lit (.int 1)) .nil)))) .nil)))) (.seq (.ret (.lit (.bl false))) .done) .done) .done)) (.seq (.ret (.cmp .Eq (.lset (.var 2) (.tup (.cons (.var 2) (.cons (.var 3) .nil))) (.itm (.var 0)) .nil [2, 3]) (.bi .len (.cons (.var 0) .nil)))) .done)))⟩
noncomputable def Nx_is_lot : List Str := [Str.ofString "value", Str.ofString "part", Str.ofString "size", Str.ofString "_"]
/-- lowest -/
noncomputable def Fx_lowest : Fn := ⟨2, 3, false, (.seq (.asg (.var 2) (.bi .gcd (.cons (.var 0) (.cons (.var 1) .nil)))) (.seq (.ret (.tup (.cons (.bin .FloorDiv (.var 0) (.var 2)) (.cons (.bin .FloorDiv (.var 1) (.var 2)) .nil)))) .done))⟩
noncomputable def Nx_lowest : List Str := [Str.ofString "over", Str.ofString "under", Str.ofString "shared"]
/-- added -/
noncomputable def Fx_added : Fn := ⟨1, 6, false, (.seq (.ife (.not (.var 0)) (.seq (.ret (.tup (.cons (.lit (.int 0)) (.cons (.lit (.int 1)) .nil)))) .done) .done) (.seq (.ife (.cmp .Eq (.bi .len (.cons (.var 0) .nil)) (.lit (.int 1))) (.seq (.ret (.call 26 (.cons (.idx (.idx (.var 0) (.lit (.int 0))) (.lit (.int 0))) (.cons (.idx (.idx (.var 0) (.lit (.int 0))) (.lit (.int 1))) .nil)))) .done) .done) (.seq (.asg (.var 1) (.bin .FloorDiv (.bi .len (.cons (.var 0) .nil)) (.lit (.int 2)))) (.seq (.asg (.tup (.cons (.var 2) (.cons (.var 3) .nil))) (.call 27 (.cons (.slc (.var 0) .nil (.cons (.var 1) .nil)) .nil))) (.seq (.asg (.tup (.cons (.var 4) (.cons (.var 5) .nil))) (.call 27 (.cons (.slc (.var 0) (.cons (.var 1) .nil) .nil) .nil))) (.seq (.ret (.call 26 (.cons (.bin .Add (.bin .Mult (.var 2) (.var 5)) (.bin .Mult (.var 4) (.var 3))) (.cons (.bin .Mult (.var 3) (.var 5)) .nil)))) .done))))))⟩
noncomputable def Nx_added : List Str := [Str.ofString "parts", Str.ofString "middle", Str.ofString "over", Str.ofString "under", Str.ofString "more", Str.ofString "below"]
/-- filled -/
noncomputable def Fx_filled : Fn := ⟨1, 3, false, (.seq (.ife (.not (.call 7 (.cons (.var 0) .nil))) (.seq .nope .done) .done) (.seq (.ret (.call 27 (.cons (.comp (.tup (.cons (.bin .Mult (.idx (.var 1) (.lit (.int 0))) (.var 2)) (.cons (.idx (.var 1) (.lit (.int 1))) .nil))) (.tup (.cons (.var 1) (.cons (.var 2) .nil))) (.itm (.var 0)) .nil [1, 2]) .nil))) .done))⟩
noncomputable def Nx_filled : List Str := [Str.ofString "lot", Str.ofString "size", Str.ofString "many"]
/-- _law_pot -/
noncomputable def Fx__law_pot : Fn := ⟨2, 5, false, (.seq (.asg (.var 2) (.ife (.cmp .Lt (.var 1) (.bi .len (.cons (.var 0) .nil))) (.idx (.var 0) (.var 1)) (.bin .Add (.bin .Mult (.lit (.int 293)) (.var 1)) (.lit (.int 139))))) (.seq (.asg (.var 3) (.bin .Mult (.bin .Mod (.bi .int (.cons (.bi .abs (.cons (.var 2) .nil)) .nil)) (.bin .Pow (.bin .Pow (.lit (.int 10)) (.lit (.int 60))) (.lit (.int 5)))) (.bi .int (.cons (.cmp .GtE (.bi .abs (.cons (.var 2) .nil)) (.bin .Pow (.lit (.int 10)) (.lit (.int 18)))) .nil)))) (.seq (.asg (.var 4) (.bin .Mod (.bi .int (.cons (.var 2) .nil)) (.lit (.int 2305843009213693951)))) (.seq (.ret (.lst (.cons (.var 3) (.cons (.bin .Mod (.bi .int (.cons (.bin .Add (.bin .Add (.bin .Mult (.var 4) (.lit (.int 74561))) (.bin .Mult (.bin .Mult (.lit (.int 7841)) (.var 1)) (.var 1))) (.lit (.int 211))) .nil)) (.lit (.int 2305843009213693921))) (.cons (.lit (.int 0)) .nil))))) .done))))⟩
noncomputable def Nx__law_pot : List Str := [Str.ofString "script", Str.ofString "place", Str.ofString "cell", Str.ofString "own", Str.ofString "small"]
/-- _law_take -/
noncomputable def Fx__law_take : Fn := ⟨2, 5, true, (.seq (.ife (.cmp .Gt (.idx (.var 0) (.lit (.int 0))) (.lit (.int 0))) (.seq (.asg (.var 4) (.bin .Mod (.bi .int (.cons (.idx (.var 0) (.lit (.int 0))) .nil)) (.var 1))) (.seq (.seti 0 (.lit (.int 0)) (.bin .FloorDiv (.idx (.var 0) (.lit (.int 0))) (.var 1))) (.seq (.ret (.var 4)) .done))) .done) (.seq (.seti 0 (.lit (.int 2)) (.bin .Add (.idx (.var 0) (.lit (.int 2))) (.lit (.int 1)))) (.seq (.asg (.var 2) (.idx (.lst (.cons (.lit (.int 2147483647)) (.cons (.lit (.int 2147483629)) (.cons (.lit (.int 2147483587)) (.cons (.lit (.int 2147483579)) (.cons (.lit (.int 2147483563)) .nil)))))) (.bin .Mod (.bi .int (.cons (.idx (.var 0) (.lit (.int 2))) .nil)) (.lit (.int 5))))) (.seq (.asg (.var 3) (.bin .Mod (.bi .int (.cons (.bin .Pow (.bi .int (.cons (.bin .Add (.bin .Add (.idx (.var 0) (.lit (.int 1))) (.bin .Mult (.bin .Mult (.lit (.int 98897)) (.idx (.var 0) (.lit (.int 2)))) (.idx (.var 0) (.lit (.int 2))))) (.lit (.int 101))) .nil)) (.lit (.int 3))) .nil)) (.var 2))) (.seq (.asg (.var 3) (.bin .Mod (.bi .int (.cons (.bin .Mult (.var 3) (.bin .Add (.bin .Mod (.bi .int (.cons (.var 3) .nil)) (.lit (.int 10531))) (.bin .Mult (.lit (.int 197)) (.idx (.var 0) (.lit (.int 2)))))) .nil)) (.lit (.int 2305843009213693907)))) (.seq (.ret (.bin .Mod (.bi .int (.cons (.bin .FloorDiv (.var 3) (.lit (.int 179))) .nil)) (.var 1))) .done))))))⟩
noncomputable def Nx__law_take : List Str := [Str.ofString "pot", Str.ofString "upto", Str.ofString "prime", Str.ofString "mixed", Str.ofString "digit"]
/-- _law_of -/
noncomputable def Fx__law_of : Fn := ⟨2, 2, true, (.seq (.ret (.idx (.var 1) (.call 501 (.cons (.var 0) (.cons (.bi .len (.cons (.var 1) .nil)) .nil))))) .done)⟩
noncomputable def Nx__law_of : List Str := [Str.ofString "pot", Str.ofString "some"]
/-- _law_cells -/
noncomputable def Fx__law_cells : Fn := ⟨2, 2, false, (.seq (.ret (.lrg (.cons (.bi .max (.cons (.lit (.int 1)) (.cons (.bi .min (.cons (.var 1) (.cons (.bi .len (.cons (.var 0) .nil)) .nil))) .nil))) .nil))) .done)⟩
noncomputable def Nx__law_cells : List Str := [Str.ofString "script", Str.ofString "limit"]
/-- _law_number -/
noncomputable def Fx__law_number : Fn := ⟨2, 4, false, (.seq (.par [2, 3] (.cons (.bi .int (.cons (.var 0) .nil)) (.cons (.bi .int (.cons (.var 1) .nil)) .nil))) (.seq (.whl (.cmp .Gt (.var 3) (.lit (.int 0))) (.seq (.par [2, 3] (.cons (.var 3) (.cons (.bin .Mod (.var 2) (.var 3)) .nil))) .done)) (.seq (.ret (.tup (.cons (.bin .FloorDiv (.bi .int (.cons (.var 0) .nil)) (.var 2)) (.cons (.bin .FloorDiv (.bi .int (.cons (.var 1) .nil)) (.var 2)) .nil)))) .done)))⟩
noncomputable def Nx__law_number : List Str := [Str.ofString "over", Str.ofString "under", Str.ofString "one", Str.ofString "other"]
/-- _law_sum -/
noncomputable def Fx__law_sum : Fn := ⟨1, 5, false, (.seq (.par [1, 2] (.cons (.lit (.int 0)) (.cons (.lit (.int 1)) .nil))) (.seq (.for (.tup (.cons (.var 3) (.cons (.var 4) .nil))) (.itm (.var 0)) (.seq (.asg (.tup (.cons (.var 1) (.cons (.var 2) .nil))) (.call 525 (.cons (.bin .Add (.bin .Mult (.var 1) (.var 4)) (.bin .Mult (.var 3) (.var 2))) (.cons (.bin .Mult (.var 2) (.var 4)) .nil)))) .done)) (.seq (.ret (.tup (.cons (.var 1) (.cons (.var 2) .nil)))) .done)))⟩
noncomputable def Nx__law_sum : List Str := [Str.ofString "rows", Str.ofString "over", Str.ofString "under", Str.ofString "mine", Str.ofString "its"]
/-- _law_times -/
noncomputable def Fx__law_times : Fn := ⟨2, 2, false, (.seq (.ret (.call 525 (.cons (.bin .Mult (.idx (.var 0) (.lit (.int 0))) (.idx (.var 1) (.lit (.int 0)))) (.cons (.bin .Mult (.idx (.var 0) (.lit (.int 1))) (.idx (.var 1) (.lit (.int 1)))) .nil)))) .done)⟩
noncomputable def Nx__law_times : List Str := [Str.ofString "one", Str.ofString "other"]
/-- _law_size -/
noncomputable def Fx__law_size : Fn := ⟨2, 5, true, (.seq (.par [2, 3, 4] (.cons (.call 501 (.cons (.var 0) (.cons (.lit (.int 5)) .nil))) (.cons (.call 501 (.cons (.var 0) (.cons (.var 1) .nil))) (.cons (.bin .Add (.lit (.int 2)) (.call 501 (.cons (.var 0) (.cons (.call 502 (.cons (.var 0) (.cons (.lst (.cons (.lit (.int 3)) (.cons (.lit (.int 9)) (.cons (.bin .Pow (.lit (.int 10)) (.lit (.int 6))) .nil)))) .nil))) .nil)))) .nil)))) (.seq (.ife (.cmp .Lt (.var 2) (.lit (.int 2))) (.seq (.ret (.tup (.cons (.bin .Add (.var 3) (.lit (.int 1))) (.cons (.lit (.int 1)) .nil)))) .done) .done) (.seq (.ife (.cmp .Eq (.var 2) (.lit (.int 4))) (.seq (.ret (.call 525 (.cons (.bin .Add (.bin .Add (.bin .Mult (.var 3) (.var 4)) (.lit (.int 1))) (.call 501 (.cons (.var 0) (.cons (.var 4) .nil)))) (.cons (.var 4) .nil)))) .done) .done) (.seq (.ret (.call 525 (.cons (.bin .Add (.bin .Mult (.var 3) (.var 4)) (.idx (.lst (.cons (.lit (.int 1)) (.cons (.bin .Sub (.var 4) (.lit (.int 1))) .nil))) (.bin .Sub (.var 2) (.lit (.int 2))))) (.cons (.var 4) .nil)))) .done))))⟩
noncomputable def Nx__law_size : List Str := [Str.ofString "pot", Str.ofString "box", Str.ofString "way", Str.ofString "at", Str.ofString "under"]
/-- _law_lot -/
noncomputable def Fx__law_lot : Fn := ⟨3, 5, true, (.seq (.asg (.var 3) (.dnt true)) (.seq (.for (.var 4) (.range (.cons (.call 501 (.cons (.var 0) (.cons (.bin .Add (.var 2) (.lit (.int 1))) .nil))) .nil)) (.seq (.setd 3 (.call 527 (.cons (.var 0) (.cons (.var 1) .nil))) (.bin .Add (.lit (.int 1)) (.call 501 (.cons (.var 0) (.cons (.call 502 (.cons (.var 0) (.cons (.lst (.cons (.lit (.int 1)) (.cons (.lit (.int 3)) (.cons (.lit (.int 9)) (.cons (.lit (.int 1000)) .nil))))) .nil))) .nil))))) .done)) (.seq (.ret (.bi .tuple (.cons (.itl (.var 3)) .nil))) .done)))⟩
noncomputable def Nx__law_lot : List Str := [Str.ofString "pot", Str.ofString "box", Str.ofString "limit", Str.ofString "found", Str.ofString "lap"]
/-- _law_due -/
noncomputable def Fx__law_due : Fn := ⟨1, 5, false, (.seq (.par [1, 2] (.cons (.lit (.int 1)) (.cons (.lit (.int 0)) .nil))) (.seq (.for (.tup (.cons (.var 3) (.cons (.var 4) .nil))) (.itm (.var 0)) (.seq (.asg (.var 2) (.bin .Add (.bin .Mult (.var 2) (.idx (.var 3) (.lit (.int 1)))) (.bin .Mult (.bin .Mult (.idx (.var 3) (.lit (.int 0))) (.var 4)) (.var 1)))) (.seq (.asg (.var 1) (.bin .Mult (.var 1) (.idx (.var 3) (.lit (.int 1))))) .done))) (.seq (.ret (.call 525 (.cons (.var 2) (.cons (.var 1) .nil)))) .done)))⟩
noncomputable def Nx__law_due : List Str := [Str.ofString "lot", Str.ofString "under", Str.ofString "over", Str.ofString "size", Str.ofString "many"]
/-- _law_right -/
noncomputable def Fx__law_right : Fn := ⟨1, 9, true, (.seq (.ife (.cmp .NotEq (.call 28 (.cons (.tup .nil) .nil)) (.tup (.cons (.lit (.int 0)) (.cons (.lit (.int 1)) .nil)))) (.seq (.ret (.lit (.bl false))) .done) .done) (.seq (.for (.var 1) (.range (.cons (.lit (.int 6)) .nil)) (.seq (.asg (.var 2) (.call 528 (.cons (.var 0) (.cons (.call 502 (.cons (.var 0) (.cons (.lst (.cons (.lit (.int 2)) (.cons (.lit (.int 60)) (.cons (.lit (.int 600)) .nil)))) .nil))) (.cons (.lit (.int 8)) .nil))))) (.seq (.par [3, 4, 5] (.cons (.call 539 (.cons (.var 2) .nil)) (.cons (.call 501 (.cons (.var 0) (.cons (.bin .Add (.bi .len (.cons (.var 2) .nil)) (.lit (.int 1))) .nil))) (.cons (.bin .Add (.lit (.int 1)) (.call 501 (.cons (.var 0) (.cons (.lit (.int 1000)) .nil)))) .nil)))) (.seq (.ife (.or (.cons (.cmp .NotEq (.bi .repr (.cons (.call 28 (.cons (.var 2) .nil)) .nil)) (.bi .repr (.cons (.var 3) .nil))) (.cons (.cmp .NotEq (.call 28 (.cons (.rev (.var 2)) .nil)) (.var 3)) .nil))) (.seq (.ret (.lit (.bl false))) .done) .done) (.seq (.ife (.cmp .NotEq (.call 537 (.cons (.lst (.cons (.call 28 (.cons (.slc (.var 2) .nil (.cons (.var 4) .nil)) .nil)) (.cons (.call 28 (.cons (.slc (.var 2) (.cons (.var 4) .nil) .nil) .nil)) .nil))) .nil)) (.var 3)) (.seq (.ret (.lit (.bl false))) .done) .done) (.seq (.ife (.cmp .NotEq (.call 28 (.cons (.bi .tuple (.cons (.comp (.tup (.cons (.var 6) (.cons (.bin .Mult (.var 5) (.var 8)) .nil))) (.tup (.cons (.var 6) (.cons (.var 8) .nil))) (.itm (.var 2)) .nil [6, 8]) .nil)) .nil)) (.call 538 (.cons (.var 3) (.cons (.tup (.cons (.var 5) (.cons (.lit (.int 1)) .nil))) .nil)))) (.seq (.ret (.lit (.bl false))) .done) .done) (.seq (.for (.tup (.cons (.var 6) (.cons (.var 7) .nil))) (.itm (.slc (.var 2) .nil (.cons (.lit (.int 1)) .nil))) (.seq (.ife (.cmp .NotEq (.call 28 (.cons (.slc (.var 2) .nil (.cons (.lit (.int 1)) .nil)) .nil)) (.call 525 (.cons (.bin .Mult (.idx (.var 6) (.lit (.int 0))) (.var 7)) (.cons (.idx (.var 6) (.lit (.int 1))) .nil)))) (.seq (.ret (.lit (.bl false))) .done) .done) .done)) .done))))))) (.seq (.ret (.lit (.bl true))) .done)))⟩
noncomputable def Nx__law_right : List Str := [Str.ofString "pot", Str.ofString "lap", Str.ofString "lot", Str.ofString "due", Str.ofString "at", Str.ofString "many", Str.ofString "size", Str.ofString "number", Str.ofString "its"]
/-- law -/
noncomputable def Fx_law : Fn := ⟨1, 2, false, (.seq (.ret (.bi .all (.cons (.comp (.call 508 (.cons (.call 500 (.cons (.var 0) (.cons (.var 1) .nil))) .nil)) (.var 1) (.itm (.call 503 (.cons (.var 0) (.cons (.lit (.int 6)) .nil)))) .nil [1]) .nil))) .done)⟩
noncomputable def Nx_law : List Str := [Str.ofString "script", Str.ofString "place"]
/-- ('ReckonError', '__init__') -/
noncomputable def Fx_ReckonError___init__ : Fn := ⟨2, 2, false, .nope⟩
noncomputable def fns : List (Nat × Fn) := [(2, Fx_is_whole), (3, Fx_is_pair), (4, Fx_is_number), (5, Fx_is_size), (7, Fx_is_lot), (26, Fx_lowest), (27, Fx_added), (28, Fx_filled), (500, Fx__law_pot), (501, Fx__law_take), (502, Fx__law_of), (503, Fx__law_cells), (525, Fx__law_number), (537, Fx__law_sum), (538, Fx__law_times), (527, Fx__law_size), (528, Fx__law_lot), (539, Fx__law_due), (508, Fx__law_right), (509, Fx_law), (0, Fx_ReckonError___init__)]
noncomputable def prInit : Nat → Option Nat | _ => none
noncomputable def prMeth : Nat → Option (Nat × Nat) | 500 => some (0, 0) | _ => none
noncomputable def prSp : Nat → Nat → Option Nat | _, _ => none
noncomputable def prIsa (a b : Nat) : Bool := match a, b with | 0, 0 => true | 3, 0 => true | 3, 3 => true | _, _ => false
noncomputable def pr : Pr := ⟨fun i => fns.lookup i, prInit, prMeth, 10000000, prIsa, prSp⟩
end Law

set_option Elab.async false
set_option linter.all false
set_option maxRecDepth 100000
set_option maxHeartbeats 8000000
namespace Law
open PySem L2 Mini
open TL
theorem Hn : HNb pr := ⟨rfl, by show 10000 ≤ 10000000; decide⟩
theorem Ha : HAdN pr := by repeat' first | rfl | constructor
theorem Hs : HSu pr := { Hn with sum := rfl }
theorem Htm : HTmC pr := { Hn with ltimes := rfl }
theorem Hc : HSz pr := ⟨⟨⟨rfl⟩, rfl⟩, Hn, rfl⟩
theorem Hlt : HLt pr := ⟨Hc, rfl⟩
theorem Hpot : pr.fn n__law_pot = some Mini.Fx__law_pot := rfl
theorem Hcells : pr.fn n__law_cells = some Mini.Fx__law_cells := rfl
theorem io_take {j : Nat} : (cbOf pr j).io 501 = true := rfl
theorem io_of2 {j : Nat} : (cbOf pr j).io 502 = true := rfl
theorem io_lot {j : Nat} : (cbOf pr j).io 528 = true := rfl
theorem io_28 {j : Nat} : (cbOf pr j).io 28 = false := rfl
theorem io_525 {j : Nat} : (cbOf pr j).io 525 = false := rfl
theorem io_537 {j : Nat} : (cbOf pr j).io 537 = false := rfl
theorem io_538 {j : Nat} : (cbOf pr j).io 538 = false := rfl
theorem io_539 {j : Nat} : (cbOf pr j).io 539 = false := rfl
theorem i0 (x y : D) : item (.tup [x, y]) (.int 0) = .ok x := rfl
theorem i1 (x y : D) : item (.tup [x, y]) (.int 1) = .ok y := rfl
/-! what is due -/
theorem due_turn {k : Nat} {B C : Nat} (hB : 0 < B) (hC : 0 < C) (h4 : C + B + B ≤ 100000) {n d : Int} (bn : Bd C n) (bd : Bd C d) {p : LP} (bp : Bd B p.a ∧ Bd B p.b ∧ Bd B p.m) {s0 : Slot} {o3 o4 : Option D} :
    turn (cbOf pr k) (S.forT (S.nth 1 Fx__law_due.body)) (S.forB (S.nth 1 Fx__law_due.body)) p.d [s0, .im (.int d), .im (.int n), frs o3, frs o4]
      = .ok (.nx [s0, .im (.int (d * p.b)), .im (.int (n * p.b + p.a * p.m * d)), frs (some (sz p.a p.b)), frs (some (.int p.m))]) := by
  have m1 := mul_ok bn bp.2.1 hC hB (by omega)
  have m2 := mul_ok bp.1 bp.2.2 hB hB (by omega)
  have m3 := mul_ok (bp.1.mul bp.2.2) bd (by omega) hC (by omega)
  have m4 := mul_ok bd bp.2.1 hC hB (by omega)
  rw [turn_eq]
  simp_arith [Fx__law_due, S.nth, S.forT, S.forB, LP.d, sz, i0, i1, m1, m2, m3, m4]
theorem due_loop {k B : Nat} (hB : 0 < B) (hBB : B ≤ 1000) {s0 : Slot} : ∀ (ps qs : List LP) (o3 o4 : Option D), (∀ p ∈ qs ++ ps, Bd B p.a ∧ Bd B p.b ∧ Bd B p.m) → (qs ++ ps).length ≤ 40 →
    ∃ o3' o4' : Option D, forLoop (turn (cbOf pr k) (S.forT (S.nth 1 Fx__law_due.body)) (S.forB (S.nth 1 Fx__law_due.body))) (ps.map LP.d) [s0, .im (.int (dN (qs.map LP.pt))), .im (.int (nN (qs.map LP.pt))), frs o3, frs o4]
      = .ok (.nx [s0, .im (.int (dN ((qs ++ ps).map LP.pt))), .im (.int (nN ((qs ++ ps).map LP.pt))), frs o3', frs o4'])
  | [], qs, o3, o4, _, _ => ⟨o3, o4, by rw [List.append_nil]; rfl⟩
  | p :: ps, qs, o3, o4, b, hl => by
    have ll : (qs ++ p :: ps).length = qs.length + 1 + ps.length := by simp; omega
    rw [ll] at hl
    have bq : ∀ q ∈ qs.map LP.pt, Bd (2 * B) q.1 ∧ Bd (2 * B) q.2 := fun q hq => by
      obtain ⟨x, hx, rfl⟩ := List.mem_map.mp hq
      have c := b x (List.mem_append_left _ hx)
      exact ⟨(c.1.mul c.2.2).mono (by omega), c.2.1.mono (by omega)⟩
    have m1 : qs.length * (2 * B + 1) ≤ 40 * (2 * B + 1) := Nat.mul_le_mul_right _ (by omega)
    have m2 : qs.length * (2 * B) ≤ 40 * (2 * B) := Nat.mul_le_mul_right _ (by omega)
    have c1 := nN_bd bq
    have c2 := dN_bd fun q hq => (bq q hq).2
    rw [List.length_map] at c1 c2
    have e1 := due_turn (k := k) hB (C := 40 * (2 * B + 1) + 1) (by omega) (by omega) (c1.mono (by omega)) (c2.mono (by omega)) (b p (by simp)) (s0 := s0) (o3 := o3) (o4 := o4)
    have n1 : nN ((qs ++ [p]).map LP.pt) = nN (qs.map LP.pt) * p.b + p.a * p.m * dN (qs.map LP.pt) := by rw [List.map_append, nN_app]; simp [nN, dN, LP.pt]
    have d1 : dN ((qs ++ [p]).map LP.pt) = dN (qs.map LP.pt) * p.b := by rw [List.map_append, dN_app]; simp [dN, LP.pt]
    rw [← n1, ← d1] at e1
    have ha : qs ++ p :: ps = (qs ++ [p]) ++ ps := by simp
    rw [ha] at b ⊢
    obtain ⟨a3, a4, e2⟩ := due_loop hB hBB ps (qs ++ [p]) (some (sz p.a p.b)) (some (.int p.m)) b (by rw [← ha, ll]; exact hl) (k := k) (s0 := s0)
    exact ⟨a3, a4, by rw [List.map_cons, forLoop_nx e1, e2]⟩
theorem e_due {k : Nat} {ps : List LP} {B : Nat} (hB : 0 < B) (hBB : B ≤ 1000) (h : ∀ p ∈ ps, 0 ≤ p.a ∧ 0 < p.b ∧ 0 ≤ p.m) (b : ∀ p ∈ ps, Bd B p.a ∧ Bd B p.b ∧ Bd B p.m) (hl : ps.length ≤ 40) (hl2 : ps.length * (2 * B) + 1 ≤ 4000) :
    evF pr (k + 2) 539 [.im (lotD ps)] = .ok (Pt.d (fillP ps), false, [.im (lotD ps)]) := by
  obtain ⟨o3, o4, e⟩ := due_loop (k := k + 1) hB hBB (s0 := .im (lotD ps)) ps [] none none b hl
  have hp : ∀ q ∈ ps.map LP.pt, 0 ≤ q.1 ∧ 0 < q.2 := fun q hq => by
    obtain ⟨p, hp, rfl⟩ := List.mem_map.mp hq
    have o := h p hp
    exact ⟨Int.mul_nonneg o.1 o.2.2, o.2.1⟩
  have hd := dN_bd (B := 2 * B) (l := ps.map LP.pt) fun q hq => by
    obtain ⟨p, hp, rfl⟩ := List.mem_map.mp hq
    exact (b p hp).2.1.mono (by omega)
  rw [List.length_map] at hd
  have e2 := e_numberC (k := k) Hn (nN_pos hp) (dN_pos fun q hq => (hp q hq).2) (hd.mono hl2)
  rw [evF_succ (show pr.fn 539 = some Fx__law_due from rfl)]
  unfold fillP
  have z1 : nN (([] : List LP).map LP.pt) = 0 := rfl
  have z2 : dN (([] : List LP).map LP.pt) = 1 := rfl
  rw [List.nil_append, z1, z2] at e
  simp only [Fx__law_due, S.nth, S.forT, S.forB, ← frs_no] at e
  have hlo : walked (.v (lotD ps)) = walked (.v (.tup (ps.map LP.d))) := rfl
  simp only [lotD] at e ⊢
  generalize nN (ps.map LP.pt) = N at *
  generalize dN (ps.map LP.pt) = DD at *
  simp_arith [Fx__law_due, e, q_call _ io_525, cb_call, e2]
noncomputable abbrev lapB : S := S.forB (S.nth 1 Fx__law_right.body)
theorem lot_bd {box : Nat} {ps : List LP} (h : LotI box ps) (hb : box ≤ 600) : ∀ p ∈ ps, Bd 75 p.a ∧ Bd 75 p.b ∧ Bd 75 p.m := fun p hp => by
  obtain ⟨hs, h1, h2⟩ := h.siz p hp
  refine ⟨?_, hs.bd.mono (by decide), .of (by omega) (by omega)⟩
  have hbb := hs.bd
  have hpos := hs.pos
  have hle := hs.le
  have bx : Bd 10 (box : Int) := .of (by omega) (by omega)
  have := bx.mul hbb
  exact (this.le (by omega) hle).mono (by decide)
theorem filled_I {k box : Nat} {ps : List LP} (h : LotI box ps) (hb : box ≤ 600) (hl : ps.length ≤ 8) : evF pr (k + 8) n_filled [.im (lotD ps)] = .ok (Pt.d (fillP ps), false, [.im (lotD ps)]) := by
  have e := e_filledN (k := k) Ha (f := 3) (h.ok (by omega) (by omega)) (B := 75) (by decide) (by decide) (lot_bd h hb) (by
    have : ps.length * (2 * 75 + 1) ≤ 8 * (2 * 75 + 1) := Nat.mul_le_mul_right _ hl
    omega) (by show ps.length ≤ 8; exact hl)
  exact e
theorem many_I {k box : Nat} {ps : List LP} (h : LotI box ps) (hb : box ≤ 600) (hl : ps.length ≤ 8) {m : Int} (h1 : 1 ≤ m) (h2 : m ≤ 1000) : evF pr (k + 8) n_filled [.im (lotD (ps.map (LP.times m)))] = .ok (Pt.d (fillP (ps.map (LP.times m))), false, [.im (lotD (ps.map (LP.times m)))]) := by
  have ok := h.ok (by omega) (by omega)
  have bm : ∀ p ∈ ps, 1 ≤ m * p.m ∧ m * p.m ≤ 1000000 := fun p hp => by
    obtain ⟨_, g1, g2⟩ := h.siz p hp
    have a1 := Int.mul_le_mul h1 g1 (by decide) (by omega)
    have a2 := Int.mul_le_mul h2 g2 (by omega) (by decide)
    omega
  have ok2 : LotOk (ps.map (LP.times m)) := by
    refine ⟨fun q hq => ?_, ?_, by rw [List.length_map]; omega⟩
    · obtain ⟨p, hp, rfl⟩ := List.mem_map.mp hq
      have g := ok.ok p hp
      have b := bm p hp
      exact ⟨g.n, g.a, b.1, g.bb, (Bd.of (k := 30) (by show (0 : Int) ≤ m * p.m; omega) (by show m * p.m < 2 ^ 30; omega)).mono (by decide)⟩
    · rw [List.map_map, List.length_map]
      exact ok.un
  refine e_filledN (k := k) Ha (f := 3) ok2 (B := 75) (by decide) (by decide) (fun q hq => ?_) (by
    have : (ps.map (LP.times m)).length * (2 * 75 + 1) ≤ 8 * (2 * 75 + 1) := Nat.mul_le_mul_right _ (by rw [List.length_map]; exact hl)
    omega) (by rw [List.length_map]; show ps.length ≤ 8; exact hl)
  obtain ⟨p, hp, rfl⟩ := List.mem_map.mp hq
  have b := bm p hp
  have g := lot_bd h hb p hp
  exact ⟨g.1, g.2.1, .of (by show (0 : Int) ≤ m * p.m; omega) (by show m * p.m < 2 ^ 75; omega)⟩
theorem ti_comp {k : Nat} {m : Int} (hm : Bd 75 m) {p : LP} (hp : Bd 75 p.m) {s0 s1 s2 s3 s4 s7 : Slot} : compF (cbOf pr k) (.tup (.cons (.var 6) (.cons (.bin .Mult (.var 5) (.var 8)) .nil))) (.tup (.cons (.var 6) (.cons (.var 8) .nil))) .nil [6, 8] p.d [s0, s1, s2, s3, s4, .im (.int m), .no, s7, .no] = .ok (some (LP.d (LP.times m p)), [s0, s1, s2, s3, s4, .im (.int m), .no, s7, .no]) := by
  have m1 := mul_ok hm hp (by decide) (by decide) (by decide)
  have hz : sizeOk 2 = true := by decide
  simp_arith [q_compF, LP.d, LP.times, m1, hz]
theorem one_turn {k box : Nat} {p : LP} {ps : List LP} (h : LotI box (p :: ps)) (hb : box ≤ 600) (hl : (p :: ps).length ≤ 8) {s0 s1 s3 s4 s5 : Slot} {o6 o7 : Option D} :
    turn (cbOf pr (k + 8)) (S.forT (S.nth 5 lapB)) (S.forB (S.nth 5 lapB)) p.d [s0, s1, .im (lotD (p :: ps)), s3, s4, s5, frs o6, frs o7, .no]
      = .ok (.nx [s0, s1, .im (lotD (p :: ps)), s3, s4, s5, frs (some (sz p.a p.b)), frs (some (.int p.m)), .no]) := by
  have h1 : LotI box [p] := h.sub (by simp)
  have e1 := filled_I (k := k) h1 hb (by show 1 ≤ 8; decide)
  obtain ⟨hs, g1, g2⟩ := h.siz p List.mem_cons_self
  have b := lot_bd h hb p List.mem_cons_self
  have hpos := hs.pos
  have e2 := e_numberC (k := k + 7) Hn (a := p.a * p.m) (b := p.b) (Int.mul_nonneg (by omega) (by omega)) hs.n.2.1 (hs.bd.mono (by decide))
  have hf : fillP [p] = low (p.a * p.m) p.b := by simp [fillP, LP.pt, nN, dN]
  rw [hf] at e1
  have m1 := mul_ok b.1 b.2.2 (by decide) (by decide) (by decide)
  have sl : slice (lotD (p :: ps)) none (some 1) = .ok (lotD [p], false) := by
    have := cut_to ((p :: ps).map LP.d) 1 (by simp)
    rw [show ((1 : Nat) : Int) = 1 from rfl] at this
    show slice (.tup ((p :: ps).map LP.d)) none (some 1) = _
    rw [slice_tup, this]
    rfl
  have dq := deq_pt (low (p.a * p.m) p.b)
  have io : Mini.isObj (lotD [p]) = false := rfl
  rw [turn_eq]
  generalize lotD (p :: ps) = LD at *
  generalize lotD [p] = L1 at *
  generalize Pt.d (low (p.a * p.m) p.b) = F at *
  simp_arith [lapB, Fx__law_right, S.nth, S.forT, S.forB, LP.d, sz, sl, q_call _ io_28, q_call _ io_525, cb_call, e1, i0, i1, m1, e2, dq, io, -Mini.isObj]
theorem one_loop {k box : Nat} {ps : List LP} (h : LotI box ps) (hb : box ≤ 600) (hl : ps.length ≤ 8) {s0 s1 s3 s4 s5 : Slot} {o6 o7 : Option D} :
    ∃ o6' o7' : Option D, forLoop (turn (cbOf pr (k + 8)) (S.forT (S.nth 5 lapB)) (S.forB (S.nth 5 lapB))) ((ps.take 1).map LP.d) [s0, s1, .im (lotD ps), s3, s4, s5, frs o6, frs o7, .no]
      = .ok (.nx [s0, s1, .im (lotD ps), s3, s4, s5, frs o6', frs o7', .no]) := by
  cases ps with
  | nil => exact ⟨o6, o7, rfl⟩
  | cons p ps =>
    refine ⟨some (sz p.a p.b), some (.int p.m), ?_⟩
    show forLoop _ [p.d] _ = _
    rw [forLoop_nx (one_turn (k := k) h hb hl), forLoop_nil]
theorem lap_turn {k n : Nat} {p : D} (hp : Pot n p) (hn : n < 400000) {x : D} {o1 o2 o3 o4 o5 o6 o7 : Option D} :
    ∃ o1' o2' o3' o4' o5' o6' o7' p', turn (cbOf pr (k + 8)) (S.forT (S.nth 1 Fx__law_right.body)) (S.forB (S.nth 1 Fx__law_right.body)) x [.io p, frs o1, frs o2, frs o3, frs o4, frs o5, frs o6, frs o7, .no]
      = .ok (.nx [.io p', frs o1', frs o2', frs o3', frs o4', frs o5', frs o6', frs o7', .no]) ∧ Pot (n + 100) p' := by
  obtain ⟨j1, d1, p1, e1, g1, hp1⟩ := of_ix (k := k + 6) Hc.toHGn hp (by omega) (l := [.int 2, .int 60, .int 600]) (by decide) (by decide)
  obtain ⟨mb, rfl, mb1, mb2⟩ : ∃ mb : Nat, d1 = .int mb ∧ 1 ≤ mb ∧ mb ≤ 600 := by
    match j1, g1 with
    | 0, e => cases e; exact ⟨2, rfl, by decide, by decide⟩
    | 1, e => cases e; exact ⟨60, rfl, by decide, by decide⟩
    | 2, e => cases e; exact ⟨600, rfl, by decide, by decide⟩
    | j + 3, e => simp at e
  obtain ⟨ps, p2, e2, hI, hl, hp2⟩ := e_lot (k := k + 4) Hlt hp1 (by omega) (box := mb) (lim := 8) mb1 (by omega) (by decide)
  have e2' := fun (i : Nat) (σ : Fm) => lendS_io (i := i) (σ := σ) (f := 528) (ds := [.int (mb : Int), .int 8]) (C := cbOf pr (k + 8)) e2
  obtain ⟨a, p3, e3, ha, hp3⟩ := take_ix (k := k + 7) Hc.toHTk hp2 (by omega) (u := (ps.length : Int) + 1) (by omega) (.of (by omega) (by omega))
  obtain ⟨m, p4, e4, hm, hp4⟩ := take_ix (k := k + 7) Hc.toHTk hp3 (by omega) (u := 1000) (by decide) (by decide)
  have hb := lot_bd hI mb2
  have hpos : ∀ p ∈ ps, 0 ≤ p.a ∧ 0 < p.b ∧ 0 ≤ p.m := fun p h => ⟨Int.le_of_lt (hI.siz p h).1.pos, (hI.siz p h).1.n.2.1, by have := (hI.siz p h).2.1; omega⟩
  have hbp : ∀ p ∈ ps, 0 < p.b := fun p h => (hpos p h).2.1
  have q1 := e_due (k := k + 6) (B := 75) (by decide) (by decide) hpos hb (by omega) (by
    have : ps.length * (2 * 75) ≤ 8 * (2 * 75) := Nat.mul_le_mul_right _ hl
    omega)
  have q2 := filled_I (k := k) hI mb2 hl
  have q3 := filled_I (k := k) hI.rev mb2 (by rw [List.length_reverse]; exact hl)
  rw [fill_rev] at q3
  have st : (ps.take a).length ≤ 8 := by rw [List.length_take]; omega
  have sd : (ps.drop a).length ≤ 8 := by rw [List.length_drop]; omega
  have q4 := filled_I (k := k) (hI.sub (List.take_sublist a ps)) mb2 st
  have q5 := filled_I (k := k) (hI.sub (List.drop_sublist a ps)) mb2 sd
  have fb : ∀ qs : List LP, qs.length ≤ 8 → (∀ p ∈ qs, p ∈ ps) → 0 ≤ (fillP qs).1 ∧ 0 < (fillP qs).2 ∧ Bd 1300 (fillP qs).1 ∧ Bd 1300 (fillP qs).2 := fun qs hq hs => by
    have hp' : ∀ q ∈ qs.map LP.pt, 0 ≤ q.1 ∧ 0 < q.2 := fun q hq => by
      obtain ⟨p, hp, rfl⟩ := List.mem_map.mp hq
      have o := hpos p (hs p hp)
      exact ⟨Int.mul_nonneg o.1 o.2.2, o.2.1⟩
    have hb' : ∀ q ∈ qs.map LP.pt, Bd 150 q.1 ∧ Bd 150 q.2 := fun q hq => by
      obtain ⟨p, hp, rfl⟩ := List.mem_map.mp hq
      have c := hb p (hs p hp)
      exact ⟨c.1.mul c.2.2, c.2.1.mono (by decide)⟩
    have h1 := nN_bd hb'
    have h2 := dN_bd fun q hq => (hb' q hq).2
    rw [List.length_map] at h1 h2
    have : qs.length * 151 ≤ 8 * 151 := Nat.mul_le_mul_right _ hq
    have : qs.length * 150 ≤ 8 * 150 := Nat.mul_le_mul_right _ hq
    exact low_bd (nN_pos hp') (dN_pos fun q hq => (hp' q hq).2) (h1.mono (by omega)) (h2.mono (by omega))
  have f0 := fb ps hl fun p h => h
  have f1 := fb _ st fun p h => List.mem_of_mem_take h
  have f2 := fb _ sd fun p h => List.mem_of_mem_drop h
  have q6 := e_lsum (k := k + 6) Hs (ps := [fillP (ps.take a), fillP (ps.drop a)]) (B := 1300) (by decide) (fun q hq => by
    rcases List.mem_cons.mp hq with rfl | hq
    · exact ⟨f1.1, f1.2.1⟩
    · rw [List.mem_singleton.mp hq]; exact ⟨f2.1, f2.2.1⟩) (fun q hq => by
    rcases List.mem_cons.mp hq with rfl | hq
    · exact f1.2.2
    · rw [List.mem_singleton.mp hq]; exact f2.2.2) (by show 2 * (1300 + 1) + 1 ≤ 4000; decide)
  rw [fill_cut hbp] at q6
  simp only [List.map_cons, List.map_nil] at q6
  have hm1 : (1 : Int) ≤ 1 + (m : Int) ∧ 1 + (m : Int) ≤ 1000 := by omega
  have q7 := many_I (k := k) hI mb2 hl hm1.1 hm1.2
  have bM : Bd 1300 (1 + (m : Int)) := (Bd.of (k := 30) (by omega) (by omega)).mono (by decide)
  have b1 : Bd 1300 1 := (Bd.of (k := 30) (by decide) (by decide)).mono (by decide)
  have q8 := e_ltimesC (k := k + 6) Htm (a := (fillP ps).1) (b := (fillP ps).2) (c := 1 + (m : Int)) (d := 1) (Int.mul_nonneg f0.1 (by omega)) (by have := f0.2.1; omega) (B := 1300) (by decide) (by decide) f0.2.2.1 f0.2.2.2 bM b1
  rw [fill_times hbp] at q8
  have q8 : evF pr (k + 8) 538 [.im (Pt.d (fillP ps)), .im (.tup [.int (1 + (m : Int)), .int 1])] = _ := q8
  obtain ⟨z, rz, rs⟩ := repr_pt (F := fillP ps) (f0.2.2.1.mono (by decide)) (f0.2.2.2.mono (by decide))
  have dz : deq (.str z) (.str z) = .ok true := by rw [deq_str rs rs, decide_eq_true rfl]
  have dF := deq_pt (fillP ps)
  have dM := deq_pt (fillP (ps.map (LP.times (1 + (m : Int)))))
  have bl : biLen [lotD ps] = .ok (.int (ps.length : Nat), false) := by show biLen [.tup _] = _; rw [biLen_tup, List.length_map]
  have rv : revD (lotD ps) = .ok (lotD ps.reverse, false) := by
    show R.ok (D.tup (ps.map LP.d).reverse, false) = _
    rw [lotD_rev]
  have ha2 : a ≤ ps.length := by omega
  have sl1 : slice (lotD ps) none (some (a : Int)) = .ok (lotD (ps.take a), false) := by
    show slice (.tup (ps.map LP.d)) none (some (a : Int)) = _
    rw [slice_tup, cut_to _ _ (by rw [List.length_map]; exact ha2), lotD_take]
  have sl2 : slice (lotD ps) (some (a : Int)) none = .ok (lotD (ps.drop a), false) := by
    show slice (.tup (ps.map LP.d)) (some (a : Int)) none = _
    rw [slice_tup, cut_from _ _ (by rw [List.length_map]; exact ha2), lotD_drop]
  have sl3 : slice (lotD ps) none (some 1) = .ok (.tup ((ps.take 1).map LP.d), false) := by
    show slice (.tup (ps.map LP.d)) none (some 1) = _
    rw [slice_tup]
    cases ps with
    | nil => rfl
    | cons p ps =>
      have := cut_to ((p :: ps).map LP.d) 1 (by simp)
      rw [show ((1 : Nat) : Int) = 1 from rfl] at this
      rw [this]
      rfl
  have bM75 : Bd 75 (1 + (m : Int)) := (Bd.of (k := 30) (by omega) (by omega)).mono (by decide)
  have cl := fun (s0 s1 s2 s3 s4 s7 : Slot) => compLoop_map (f := compF (cbOf pr (k + 8)) (.tup (.cons (.var 6) (.cons (.bin .Mult (.var 5) (.var 8)) .nil))) (.tup (.cons (.var 6) (.cons (.var 8) .nil))) .nil [6, 8]) (g := LP.d) (h := fun p => LP.d (LP.times (1 + (m : Int)) p)) (σ := [s0, s1, s2, s3, s4, .im (.int (1 + (m : Int))), .no, s7, .no]) ps [] (fun p hp => ti_comp (k := k + 8) bM75 (hb p hp).2.2) (by simp; omega)
  have hmap : (ps.map fun p => LP.d (LP.times (1 + (m : Int)) p)) = (ps.map (LP.times (1 + (m : Int)))).map LP.d := by rw [List.map_map]; rfl
  have wl : ∀ σ : Fm, walked (.v (lotD ps)) σ = .ok (ps.map LP.d, σ) := fun _ => rfl
  have tl : biTuple [.lst ((ps.map (LP.times (1 + (m : Int)))).map LP.d)] = .ok (lotD (ps.map (LP.times (1 + (m : Int)))), false) := rfl
  obtain ⟨o6', o7', e9⟩ := one_loop (k := k) hI mb2 hl (s0 := .io p4) (s1 := .im x) (s3 := .im (Pt.d (fillP ps))) (s4 := .im (.int (a : Int))) (s5 := .im (.int (1 + (m : Int)))) (o6 := o6) (o7 := o7)
  have hz3 : sizeOk 3 = true := by decide
  have hz2 : sizeOk 2 = true := by decide
  have ob1 : Mini.isObj (lotD ps) = false := rfl
  have ob2 : Mini.isObj (Pt.d (fillP ps)) = false := rfl
  simp only [Nat.add_assoc, Nat.reduceAdd] at e1 e3 e4 q1 q6
  simp only [List.nil_append, hmap] at cl
  have hA : ex (cbOf pr (k + 8)) (S.nth 0 lapB) [.io p, .im x, frs o2, frs o3, frs o4, frs o5, frs o6, frs o7, .no] = .ok (.nx [.io p2, .im x, .im (lotD ps), frs o3, frs o4, frs o5, frs o6, frs o7, .no]) := by
    generalize lotD ps = LD at *
    simp_arith [lapB, Fx__law_right, S.nth, S.forB, q_callio _ _ io_of2, q_callio _ _ io_lot, callX_r, hz3, e1, e2', ob1, -Mini.isObj]
  have hB : ex (cbOf pr (k + 8)) (S.nth 1 lapB) [.io p2, .im x, .im (lotD ps), frs o3, frs o4, frs o5, frs o6, frs o7, .no] = .ok (.nx [.io p4, .im x, .im (lotD ps), .im (Pt.d (fillP ps)), .im (.int (a : Int)), .im (.int (1 + (m : Int))), frs o6, frs o7, .no]) := by
    generalize lotD ps = LD at *
    generalize Pt.d (fillP ps) = F at *
    simp_arith [lapB, Fx__law_right, S.nth, S.forB, q_call _ io_539, cb_call, q1, q_callio _ _ io_take, callX_r, bl, e3, e4, ob1, ob2, ob_int, -Mini.isObj]
  have hC : ex (cbOf pr (k + 8)) (S.nth 2 lapB) [.io p4, .im x, .im (lotD ps), .im (Pt.d (fillP ps)), .im (.int (a : Int)), .im (.int (1 + (m : Int))), frs o6, frs o7, .no] = .ok (.nx [.io p4, .im x, .im (lotD ps), .im (Pt.d (fillP ps)), .im (.int (a : Int)), .im (.int (1 + (m : Int))), frs o6, frs o7, .no]) := by
    generalize lotD ps = LD at *
    generalize lotD ps.reverse = LR at *
    generalize Pt.d (fillP ps) = F at *
    simp_arith [lapB, Fx__law_right, S.nth, S.forB, q_call _ io_28, cb_call, q2, q3, rz, dz, rv, dF]
  have hD : ex (cbOf pr (k + 8)) (S.nth 3 lapB) [.io p4, .im x, .im (lotD ps), .im (Pt.d (fillP ps)), .im (.int (a : Int)), .im (.int (1 + (m : Int))), frs o6, frs o7, .no] = .ok (.nx [.io p4, .im x, .im (lotD ps), .im (Pt.d (fillP ps)), .im (.int (a : Int)), .im (.int (1 + (m : Int))), frs o6, frs o7, .no]) := by
    generalize lotD (ps.take a) = LT at *
    generalize lotD (ps.drop a) = LU at *
    generalize lotD ps = LD at *
    generalize Pt.d (fillP ps) = F at *
    simp_arith [lapB, Fx__law_right, S.nth, S.forB, q_call _ io_28, q_call _ io_537, cb_call, sl1, sl2, q4, q5, hz2, q6, dF]
  have hE : ex (cbOf pr (k + 8)) (S.nth 4 lapB) [.io p4, .im x, .im (lotD ps), .im (Pt.d (fillP ps)), .im (.int (a : Int)), .im (.int (1 + (m : Int))), frs o6, frs o7, .no] = .ok (.nx [.io p4, .im x, .im (lotD ps), .im (Pt.d (fillP ps)), .im (.int (a : Int)), .im (.int (1 + (m : Int))), frs o6, frs o7, .no]) := by
    generalize lotD (ps.map (LP.times (1 + (m : Int)))) = LM at *
    generalize (ps.map (LP.times (1 + (m : Int)))).map LP.d = LL at *
    generalize ps.map LP.d = LX at *
    generalize lotD ps = LD at *
    generalize Pt.d (fillP ps) = F at *
    generalize Pt.d (fillP (ps.map (LP.times (1 + (m : Int))))) = FM at *
    simp_arith [lapB, Fx__law_right, S.nth, S.forB, wl, cl, tl, q_call _ io_28, q_call _ io_538, cb_call, q7, hz2, q8, dM]
  have hF : ex (cbOf pr (k + 8)) (S.nth 5 lapB) [.io p4, .im x, .im (lotD ps), .im (Pt.d (fillP ps)), .im (.int (a : Int)), .im (.int (1 + (m : Int))), frs o6, frs o7, .no] = .ok (.nx [.io p4, .im x, .im (lotD ps), .im (Pt.d (fillP ps)), .im (.int (a : Int)), .im (.int (1 + (m : Int))), frs o6', frs o7', .no]) := by
    simp only [lapB, Fx__law_right, S.nth, S.forT, S.forB] at e9
    generalize (ps.take 1).map LP.d = L1 at *
    generalize lotD ps = LD at *
    generalize Pt.d (fillP ps) = F at *
    simp_arith [lapB, Fx__law_right, S.nth, S.forB, S.forT, sl3, e9]
  refine ⟨some x, some (lotD ps), some (Pt.d (fillP ps)), some (.int (a : Int)), some (.int (1 + (m : Int))), o6', o7', p4, ?_, hp4.mono (by omega)⟩
  have hS : S.forB (S.nth 1 Fx__law_right.body) = .seq (S.nth 0 lapB) (.seq (S.nth 1 lapB) (.seq (S.nth 2 lapB) (.seq (S.nth 3 lapB) (.seq (S.nth 4 lapB) (.seq (S.nth 5 lapB) .done))))) := rfl
  have hT : S.forT (S.nth 1 Fx__law_right.body) = E.var 1 := rfl
  rw [turn_eq, hS, hT]
  generalize S.nth 0 lapB = t0 at *
  generalize S.nth 1 lapB = t1 at *
  generalize S.nth 2 lapB = t2 at *
  generalize S.nth 3 lapB = t3 at *
  generalize S.nth 4 lapB = t4 at *
  generalize S.nth 5 lapB = t5 at *
  simp_arith [hA, hB, hC, hD, hE, hF]
theorem lap_loop {k : Nat} : ∀ (xs : List D) (n : Nat) (p : D) (o1 o2 o3 o4 o5 o6 o7 : Option D), Pot n p → n + 100 * xs.length < 400000 →
    ∃ p' σ, forLoop (turn (cbOf pr (k + 8)) (S.forT (S.nth 1 Fx__law_right.body)) (S.forB (S.nth 1 Fx__law_right.body))) xs [.io p, frs o1, frs o2, frs o3, frs o4, frs o5, frs o6, frs o7, .no] = .ok (.nx (.io p' :: σ))
  | [], n, p, o1, o2, o3, o4, o5, o6, o7, hp, _ => ⟨p, _, forLoop_nil _⟩
  | x :: xs, n, p, o1, o2, o3, o4, o5, o6, o7, hp, hn => by
    simp only [List.length_cons] at hn
    obtain ⟨a1, a2, a3, a4, a5, a6, a7, p1, e1, hp1⟩ := lap_turn (k := k) hp (by omega) (x := x) (o1 := o1) (o2 := o2) (o3 := o3) (o4 := o4) (o5 := o5) (o6 := o6) (o7 := o7)
    obtain ⟨p2, σ, e2⟩ := lap_loop xs (n + 100) p1 a1 a2 a3 a4 a5 a6 a7 hp1 (by omega) (k := k)
    exact ⟨p2, σ, by rw [forLoop_nx e1, e2]⟩
theorem e_right {k n : Nat} {p : D} (hp : Pot n p) (hn : n < 300000) : ∃ p', evF pr (k + 9) 508 [.io p] = .ok (.bl true, false, [.io p']) := by
  obtain ⟨p', σ, e⟩ := lap_loop (k := k) (rangeD 0 6) n p none none none none none none none hp (by rw [rangeD_len]; omega)
  have e0 := filled_I (k := k) (LotI.nil (box := 1)) (by decide) (by decide)
  have f0 : fillP [] = (0, 1) := by decide
  rw [f0] at e0
  have e0 : evF pr (k + 8) n_filled [.im (.tup [])] = .ok (.tup [.int 0, .int 1], false, [.im (.tup [])]) := e0
  have dq := deq_pt (0, 1)
  have dq : deq (.tup [.int 0, .int 1]) (.tup [.int 0, .int 1]) = .ok true := dq
  refine ⟨p', ?_⟩
  rw [evF_succ (show pr.fn 508 = some Fx__law_right from rfl)]
  have hr6 : ranged [.int 6] = .ok (rangeD 0 6) := rfl
  have hz0 : sizeOk 0 = true := by decide
  have hz2 : sizeOk 2 = true := by decide
  have hF : Fx__law_right = ⟨1, 9, true, .seq (.ife (.cmp .NotEq (.call 28 (.cons (.tup .nil) .nil)) (.tup (.cons (.lit (.int 0)) (.cons (.lit (.int 1)) .nil)))) (.seq (.ret (.lit (.bl false))) .done) .done) (.seq (.for (S.forT (S.nth 1 Fx__law_right.body)) (.range (.cons (.lit (.int 6)) .nil)) (S.forB (S.nth 1 Fx__law_right.body))) (.seq (.ret (.lit (.bl true))) .done))⟩ := rfl
  rw [hF]
  generalize S.forT (S.nth 1 Fx__law_right.body) = fT at *
  generalize S.forB (S.nth 1 Fx__law_right.body) = fB at *
  simp only [← frs_no] at e
  simp_arith [hr6, e, q_call _ io_28, cb_call, e0, hz0, hz2, dq]
theorem main (ns : List Int) (hl : ns.length ≤ 63) (_ : ∀ z ∈ ns, Builtin.Int.intBits z ≤ 1048576) : ∃ o as', evF pr (20 + 1) 509 [.im (.frz (ns.map D.int))] = .ok (.bl true, o, as') :=
  law_all (N := 19) (lim := 6) (F := Fx__law_right) (by decide) rfl Hpot Hcells rfl rfl
    (fun a b h1 h2 h3 => e_right (k := 11) (n := 0) ⟨a, b, 0, rfl, h1, h2, h3, by decide, by decide⟩ (by decide)) ns hl

end Law

set_option Elab.async false
set_option linter.all false
set_option maxRecDepth 100000
set_option maxHeartbeats 8000000
namespace Law
open PySem L2 Mini
noncomputable def top (i : Nat) : Stmt := PySem.Challenge.pw_sizesreckoned_k06_whole_lots_filled.main.body.getD i (.Pass ⟨0, 0, 0, 0⟩)
noncomputable def attA : List Str := [("value" : Str)]
noncomputable def attB : List Str := [("__init__" : Str)]
noncomputable def naOk (f : Nat) : Bool := f == 0
noncomputable def fnTbl : List (Str × Nat) := [(("is_whole" : Str), 2), (("is_pair" : Str), 3), (("is_number" : Str), 4), (("is_size" : Str), 5), (("is_lot" : Str), 7), (("lowest" : Str), 26), (("added" : Str), 27), (("filled" : Str), 28), (("_law_pot" : Str), 500), (("_law_take" : Str), 501), (("_law_of" : Str), 502), (("_law_cells" : Str), 503), (("_law_number" : Str), 525), (("_law_sum" : Str), 537), (("_law_times" : Str), 538), (("_law_size" : Str), 527), (("_law_lot" : Str), 528), (("_law_due" : Str), 539), (("_law_right" : Str), 508), (("law" : Str), 509)]
noncomputable def konTbl : List (Str × D) := []
noncomputable def clTbl : List (Str × Nat) := []
noncomputable def bltTbl : List Str := [("len" : Str), ("int" : Str), ("abs" : Str), ("max" : Str), ("min" : Str), ("all" : Str), ("list" : Str), ("tuple" : Str), ("range" : Str), ("isinstance" : Str), ("type" : Str), ("repr" : Str)]
noncomputable def nmOk (m : Nat) : Bool := false
noncomputable def wd (K : PySem.W.Frag) : Wd := ⟨K, fun c =>  none, attOf attA attB⟩
noncomputable def dfnTbl : List (Str × Nat) := []
noncomputable def t0 (W : Wd) : Tb := ⟨W, [], bltTbl, true, fun x => konTbl.lookup x, fun x => fnTbl.lookup x, naOk, fun x => clTbl.lookup x, nmOk, fun x => dfnTbl.lookup x⟩
noncomputable abbrev stx_is_whole : Stmt := top 5
noncomputable def Px_is_whole : List Str := [("value" : Str), ("low" : Str)]
theorem sx_is_whole : FnScope Nx_is_whole Px_is_whole (defScope stx_is_whole) := ⟨rfl, rfl, rfl, by decide +kernel, rfl, by decide +kernel, by decide +kernel⟩
theorem bx_is_whole {K : PySem.W.Frag} {f : Addr} {fd : FuncData} (F : Fun K ("is_whole" : Str) ("is_whole" : Str) stx_is_whole f fd) : Binds K fd Px_is_whole [] := F.binds (ps := Px_is_whole) fun _ _ _ _ _ _ us hl => match us, hl with | [_, _], _ => rfl
theorem cx_is_whole (W : Wd) (h : W.att = attOf attA attB) : chkB { t0 W with N := Nx_is_whole } (defScope stx_is_whole) Fx_is_whole.body (defBody stx_is_whole) = true := by obtain ⟨k, c, a⟩ := W; subst h; kernel_rfl
theorem dx_is_whole {W : Wd} (h : W.att = attOf attA attB) {K : PySem.W.Frag} (a : Addr) (fd : FuncData) (F : Fun K ("is_whole" : Str) ("is_whole" : Str) stx_is_whole a fd) : DefAt (t0 W) pr K ("is_whole" : Str) ("is_whole" : Str) 2 a fd Px_is_whole := ⟨bx_is_whole F, stx_is_whole, Nx_is_whole, Fx_is_whole, [], funD_of F, sx_is_whole, rfl, rfl, rfl, cx_is_whole W h⟩
noncomputable abbrev stx_is_pair : Stmt := top 6
noncomputable def Px_is_pair : List Str := [("value" : Str)]
theorem sx_is_pair : FnScope Nx_is_pair Px_is_pair (defScope stx_is_pair) := ⟨rfl, rfl, rfl, by decide +kernel, rfl, by decide +kernel, by decide +kernel⟩
theorem bx_is_pair {K : PySem.W.Frag} {f : Addr} {fd : FuncData} (F : Fun K ("is_pair" : Str) ("is_pair" : Str) stx_is_pair f fd) : Binds K fd Px_is_pair [] := F.binds (ps := Px_is_pair) fun _ _ _ _ _ _ us hl => match us, hl with | [_], _ => rfl
theorem cx_is_pair (W : Wd) (h : W.att = attOf attA attB) : chkB { t0 W with N := Nx_is_pair } (defScope stx_is_pair) Fx_is_pair.body (defBody stx_is_pair) = true := by obtain ⟨k, c, a⟩ := W; subst h; kernel_rfl
theorem dx_is_pair {W : Wd} (h : W.att = attOf attA attB) {K : PySem.W.Frag} (a : Addr) (fd : FuncData) (F : Fun K ("is_pair" : Str) ("is_pair" : Str) stx_is_pair a fd) : DefAt (t0 W) pr K ("is_pair" : Str) ("is_pair" : Str) 3 a fd Px_is_pair := ⟨bx_is_pair F, stx_is_pair, Nx_is_pair, Fx_is_pair, [], funD_of F, sx_is_pair, rfl, rfl, rfl, cx_is_pair W h⟩
noncomputable abbrev stx_is_number : Stmt := top 7
noncomputable def Px_is_number : List Str := [("value" : Str)]
theorem sx_is_number : FnScope Nx_is_number Px_is_number (defScope stx_is_number) := ⟨rfl, rfl, rfl, by decide +kernel, rfl, by decide +kernel, by decide +kernel⟩
theorem bx_is_number {K : PySem.W.Frag} {f : Addr} {fd : FuncData} (F : Fun K ("is_number" : Str) ("is_number" : Str) stx_is_number f fd) : Binds K fd Px_is_number [] := F.binds (ps := Px_is_number) fun _ _ _ _ _ _ us hl => match us, hl with | [_], _ => rfl
theorem cx_is_number (W : Wd) (h : W.att = attOf attA attB) : chkB { t0 W with N := Nx_is_number } (defScope stx_is_number) Fx_is_number.body (defBody stx_is_number) = true := by obtain ⟨k, c, a⟩ := W; subst h; kernel_rfl
theorem dx_is_number {W : Wd} (h : W.att = attOf attA attB) {K : PySem.W.Frag} (a : Addr) (fd : FuncData) (F : Fun K ("is_number" : Str) ("is_number" : Str) stx_is_number a fd) : DefAt (t0 W) pr K ("is_number" : Str) ("is_number" : Str) 4 a fd Px_is_number := ⟨bx_is_number F, stx_is_number, Nx_is_number, Fx_is_number, [], funD_of F, sx_is_number, rfl, rfl, rfl, cx_is_number W h⟩
noncomputable abbrev stx_is_size : Stmt := top 8
noncomputable def Px_is_size : List Str := [("value" : Str)]
theorem sx_is_size : FnScope Nx_is_size Px_is_size (defScope stx_is_size) := ⟨rfl, rfl, rfl, by decide +kernel, rfl, by decide +kernel, by decide +kernel⟩
theorem bx_is_size {K : PySem.W.Frag} {f : Addr} {fd : FuncData} (F : Fun K ("is_size" : Str) ("is_size" : Str) stx_is_size f fd) : Binds K fd Px_is_size [] := F.binds (ps := Px_is_size) fun _ _ _ _ _ _ us hl => match us, hl with | [_], _ => rfl
theorem cx_is_size (W : Wd) (h : W.att = attOf attA attB) : chkB { t0 W with N := Nx_is_size } (defScope stx_is_size) Fx_is_size.body (defBody stx_is_size) = true := by obtain ⟨k, c, a⟩ := W; subst h; kernel_rfl
theorem dx_is_size {W : Wd} (h : W.att = attOf attA attB) {K : PySem.W.Frag} (a : Addr) (fd : FuncData) (F : Fun K ("is_size" : Str) ("is_size" : Str) stx_is_size a fd) : DefAt (t0 W) pr K ("is_size" : Str) ("is_size" : Str) 5 a fd Px_is_size := ⟨bx_is_size F, stx_is_size, Nx_is_size, Fx_is_size, [], funD_of F, sx_is_size, rfl, rfl, rfl, cx_is_size W h⟩
noncomputable abbrev stx_is_lot : Stmt := top 9
noncomputable def Px_is_lot : List Str := [("value" : Str)]
theorem sx_is_lot : FnScope Nx_is_lot Px_is_lot (defScope stx_is_lot) := ⟨rfl, rfl, rfl, by decide +kernel, rfl, by decide +kernel, by decide +kernel⟩
theorem bx_is_lot {K : PySem.W.Frag} {f : Addr} {fd : FuncData} (F : Fun K ("is_lot" : Str) ("is_lot" : Str) stx_is_lot f fd) : Binds K fd Px_is_lot [] := F.binds (ps := Px_is_lot) fun _ _ _ _ _ _ us hl => match us, hl with | [_], _ => rfl
theorem cx_is_lot (W : Wd) (h : W.att = attOf attA attB) : chkB { t0 W with N := Nx_is_lot } (defScope stx_is_lot) Fx_is_lot.body (defBody stx_is_lot) = true := by obtain ⟨k, c, a⟩ := W; subst h; kernel_rfl
theorem dx_is_lot {W : Wd} (h : W.att = attOf attA attB) {K : PySem.W.Frag} (a : Addr) (fd : FuncData) (F : Fun K ("is_lot" : Str) ("is_lot" : Str) stx_is_lot a fd) : DefAt (t0 W) pr K ("is_lot" : Str) ("is_lot" : Str) 7 a fd Px_is_lot := ⟨bx_is_lot F, stx_is_lot, Nx_is_lot, Fx_is_lot, [], funD_of F, sx_is_lot, rfl, rfl, rfl, cx_is_lot W h⟩
noncomputable abbrev stx_lowest : Stmt := top 10
noncomputable def Px_lowest : List Str := [("over" : Str), ("under" : Str)]
theorem sx_lowest : FnScope Nx_lowest Px_lowest (defScope stx_lowest) := ⟨rfl, rfl, rfl, by decide +kernel, rfl, by decide +kernel, by decide +kernel⟩
theorem bx_lowest {K : PySem.W.Frag} {f : Addr} {fd : FuncData} (F : Fun K ("lowest" : Str) ("lowest" : Str) stx_lowest f fd) : Binds K fd Px_lowest [] := F.binds (ps := Px_lowest) fun _ _ _ _ _ _ us hl => match us, hl with | [_, _], _ => rfl
theorem cx_lowest (W : Wd) (h : W.att = attOf attA attB) : chkB { t0 W with N := Nx_lowest } (defScope stx_lowest) Fx_lowest.body (defBody stx_lowest) = true := by obtain ⟨k, c, a⟩ := W; subst h; kernel_rfl
theorem dx_lowest {W : Wd} (h : W.att = attOf attA attB) {K : PySem.W.Frag} (a : Addr) (fd : FuncData) (F : Fun K ("lowest" : Str) ("lowest" : Str) stx_lowest a fd) : DefAt (t0 W) pr K ("lowest" : Str) ("lowest" : Str) 26 a fd Px_lowest := ⟨bx_lowest F, stx_lowest, Nx_lowest, Fx_lowest, [], funD_of F, sx_lowest, rfl, rfl, rfl, cx_lowest W h⟩
noncomputable abbrev stx_added : Stmt := top 11
noncomputable def Px_added : List Str := [("parts" : Str)]
theorem sx_added : FnScope Nx_added Px_added (defScope stx_added) := ⟨rfl, rfl, rfl, by decide +kernel, rfl, by decide +kernel, by decide +kernel⟩
theorem bx_added {K : PySem.W.Frag} {f : Addr} {fd : FuncData} (F : Fun K ("added" : Str) ("added" : Str) stx_added f fd) : Binds K fd Px_added [] := F.binds (ps := Px_added) fun _ _ _ _ _ _ us hl => match us, hl with | [_], _ => rfl
theorem cx_added (W : Wd) (h : W.att = attOf attA attB) : chkB { t0 W with N := Nx_added } (defScope stx_added) Fx_added.body (defBody stx_added) = true := by obtain ⟨k, c, a⟩ := W; subst h; kernel_rfl
theorem dx_added {W : Wd} (h : W.att = attOf attA attB) {K : PySem.W.Frag} (a : Addr) (fd : FuncData) (F : Fun K ("added" : Str) ("added" : Str) stx_added a fd) : DefAt (t0 W) pr K ("added" : Str) ("added" : Str) 27 a fd Px_added := ⟨bx_added F, stx_added, Nx_added, Fx_added, [], funD_of F, sx_added, rfl, rfl, rfl, cx_added W h⟩
noncomputable abbrev stx_filled : Stmt := top 13
noncomputable def Px_filled : List Str := [("lot" : Str)]
theorem sx_filled : FnScope Nx_filled Px_filled (defScope stx_filled) := ⟨rfl, rfl, rfl, by decide +kernel, rfl, by decide +kernel, by decide +kernel⟩
theorem bx_filled {K : PySem.W.Frag} {f : Addr} {fd : FuncData} (F : Fun K ("filled" : Str) ("filled" : Str) stx_filled f fd) : Binds K fd Px_filled [] := F.binds (ps := Px_filled) fun _ _ _ _ _ _ us hl => match us, hl with | [_], _ => rfl
theorem cx_filled (W : Wd) (h : W.att = attOf attA attB) : chkB { t0 W with N := Nx_filled } (defScope stx_filled) Fx_filled.body (defBody stx_filled) = true := by obtain ⟨k, c, a⟩ := W; subst h; kernel_rfl
theorem dx_filled {W : Wd} (h : W.att = attOf attA attB) {K : PySem.W.Frag} (a : Addr) (fd : FuncData) (F : Fun K ("filled" : Str) ("filled" : Str) stx_filled a fd) : DefAt (t0 W) pr K ("filled" : Str) ("filled" : Str) 28 a fd Px_filled := ⟨bx_filled F, stx_filled, Nx_filled, Fx_filled, [], funD_of F, sx_filled, rfl, rfl, rfl, cx_filled W h⟩
noncomputable abbrev stx__law_pot : Stmt := top 15
noncomputable def Px__law_pot : List Str := [("script" : Str), ("place" : Str)]
theorem sx__law_pot : FnScope Nx__law_pot Px__law_pot (defScope stx__law_pot) := ⟨rfl, rfl, rfl, by decide +kernel, rfl, by decide +kernel, by decide +kernel⟩
theorem bx__law_pot {K : PySem.W.Frag} {f : Addr} {fd : FuncData} (F : Fun K ("_law_pot" : Str) ("_law_pot" : Str) stx__law_pot f fd) : Binds K fd Px__law_pot [] := F.binds (ps := Px__law_pot) fun _ _ _ _ _ _ us hl => match us, hl with | [_, _], _ => rfl
theorem cx__law_pot (W : Wd) (h : W.att = attOf attA attB) : chkB { t0 W with N := Nx__law_pot } (defScope stx__law_pot) Fx__law_pot.body (defBody stx__law_pot) = true := by obtain ⟨k, c, a⟩ := W; subst h; kernel_rfl
theorem dx__law_pot {W : Wd} (h : W.att = attOf attA attB) {K : PySem.W.Frag} (a : Addr) (fd : FuncData) (F : Fun K ("_law_pot" : Str) ("_law_pot" : Str) stx__law_pot a fd) : DefAt (t0 W) pr K ("_law_pot" : Str) ("_law_pot" : Str) 500 a fd Px__law_pot := ⟨bx__law_pot F, stx__law_pot, Nx__law_pot, Fx__law_pot, [], funD_of F, sx__law_pot, rfl, rfl, rfl, cx__law_pot W h⟩
noncomputable abbrev stx__law_take : Stmt := top 16
noncomputable def Px__law_take : List Str := [("pot" : Str), ("upto" : Str)]
theorem sx__law_take : FnScope Nx__law_take Px__law_take (defScope stx__law_take) := ⟨rfl, rfl, rfl, by decide +kernel, rfl, by decide +kernel, by decide +kernel⟩
theorem bx__law_take {K : PySem.W.Frag} {f : Addr} {fd : FuncData} (F : Fun K ("_law_take" : Str) ("_law_take" : Str) stx__law_take f fd) : Binds K fd Px__law_take [] := F.binds (ps := Px__law_take) fun _ _ _ _ _ _ us hl => match us, hl with | [_, _], _ => rfl
theorem cx__law_take (W : Wd) (h : W.att = attOf attA attB) : chkB { t0 W with N := Nx__law_take } (defScope stx__law_take) Fx__law_take.body (defBody stx__law_take) = true := by obtain ⟨k, c, a⟩ := W; subst h; kernel_rfl
theorem dx__law_take {W : Wd} (h : W.att = attOf attA attB) {K : PySem.W.Frag} (a : Addr) (fd : FuncData) (F : Fun K ("_law_take" : Str) ("_law_take" : Str) stx__law_take a fd) : DefAt (t0 W) pr K ("_law_take" : Str) ("_law_take" : Str) 501 a fd Px__law_take := ⟨bx__law_take F, stx__law_take, Nx__law_take, Fx__law_take, [], funD_of F, sx__law_take, rfl, rfl, rfl, cx__law_take W h⟩
noncomputable abbrev stx__law_of : Stmt := top 17
noncomputable def Px__law_of : List Str := [("pot" : Str), ("some" : Str)]
theorem sx__law_of : FnScope Nx__law_of Px__law_of (defScope stx__law_of) := ⟨rfl, rfl, rfl, by decide +kernel, rfl, by decide +kernel, by decide +kernel⟩
theorem bx__law_of {K : PySem.W.Frag} {f : Addr} {fd : FuncData} (F : Fun K ("_law_of" : Str) ("_law_of" : Str) stx__law_of f fd) : Binds K fd Px__law_of [] := F.binds (ps := Px__law_of) fun _ _ _ _ _ _ us hl => match us, hl with | [_, _], _ => rfl
theorem cx__law_of (W : Wd) (h : W.att = attOf attA attB) : chkB { t0 W with N := Nx__law_of } (defScope stx__law_of) Fx__law_of.body (defBody stx__law_of) = true := by obtain ⟨k, c, a⟩ := W; subst h; kernel_rfl
theorem dx__law_of {W : Wd} (h : W.att = attOf attA attB) {K : PySem.W.Frag} (a : Addr) (fd : FuncData) (F : Fun K ("_law_of" : Str) ("_law_of" : Str) stx__law_of a fd) : DefAt (t0 W) pr K ("_law_of" : Str) ("_law_of" : Str) 502 a fd Px__law_of := ⟨bx__law_of F, stx__law_of, Nx__law_of, Fx__law_of, [], funD_of F, sx__law_of, rfl, rfl, rfl, cx__law_of W h⟩
noncomputable abbrev stx__law_cells : Stmt := top 18
noncomputable def Px__law_cells : List Str := [("script" : Str), ("limit" : Str)]
theorem sx__law_cells : FnScope Nx__law_cells Px__law_cells (defScope stx__law_cells) := ⟨rfl, rfl, rfl, by decide +kernel, rfl, by decide +kernel, by decide +kernel⟩
theorem bx__law_cells {K : PySem.W.Frag} {f : Addr} {fd : FuncData} (F : Fun K ("_law_cells" : Str) ("_law_cells" : Str) stx__law_cells f fd) : Binds K fd Px__law_cells [] := F.binds (ps := Px__law_cells) fun _ _ _ _ _ _ us hl => match us, hl with | [_, _], _ => rfl
theorem cx__law_cells (W : Wd) (h : W.att = attOf attA attB) : chkB { t0 W with N := Nx__law_cells } (defScope stx__law_cells) Fx__law_cells.body (defBody stx__law_cells) = true := by obtain ⟨k, c, a⟩ := W; subst h; kernel_rfl
theorem dx__law_cells {W : Wd} (h : W.att = attOf attA attB) {K : PySem.W.Frag} (a : Addr) (fd : FuncData) (F : Fun K ("_law_cells" : Str) ("_law_cells" : Str) stx__law_cells a fd) : DefAt (t0 W) pr K ("_law_cells" : Str) ("_law_cells" : Str) 503 a fd Px__law_cells := ⟨bx__law_cells F, stx__law_cells, Nx__law_cells, Fx__law_cells, [], funD_of F, sx__law_cells, rfl, rfl, rfl, cx__law_cells W h⟩
noncomputable abbrev stx__law_number : Stmt := top 19
noncomputable def Px__law_number : List Str := [("over" : Str), ("under" : Str)]
theorem sx__law_number : FnScope Nx__law_number Px__law_number (defScope stx__law_number) := ⟨rfl, rfl, rfl, by decide +kernel, rfl, by decide +kernel, by decide +kernel⟩
theorem bx__law_number {K : PySem.W.Frag} {f : Addr} {fd : FuncData} (F : Fun K ("_law_number" : Str) ("_law_number" : Str) stx__law_number f fd) : Binds K fd Px__law_number [] := F.binds (ps := Px__law_number) fun _ _ _ _ _ _ us hl => match us, hl with | [_, _], _ => rfl
theorem cx__law_number (W : Wd) (h : W.att = attOf attA attB) : chkB { t0 W with N := Nx__law_number } (defScope stx__law_number) Fx__law_number.body (defBody stx__law_number) = true := by obtain ⟨k, c, a⟩ := W; subst h; kernel_rfl
theorem dx__law_number {W : Wd} (h : W.att = attOf attA attB) {K : PySem.W.Frag} (a : Addr) (fd : FuncData) (F : Fun K ("_law_number" : Str) ("_law_number" : Str) stx__law_number a fd) : DefAt (t0 W) pr K ("_law_number" : Str) ("_law_number" : Str) 525 a fd Px__law_number := ⟨bx__law_number F, stx__law_number, Nx__law_number, Fx__law_number, [], funD_of F, sx__law_number, rfl, rfl, rfl, cx__law_number W h⟩
noncomputable abbrev stx__law_sum : Stmt := top 20
noncomputable def Px__law_sum : List Str := [("rows" : Str)]
theorem sx__law_sum : FnScope Nx__law_sum Px__law_sum (defScope stx__law_sum) := ⟨rfl, rfl, rfl, by decide +kernel, rfl, by decide +kernel, by decide +kernel⟩
theorem bx__law_sum {K : PySem.W.Frag} {f : Addr} {fd : FuncData} (F : Fun K ("_law_sum" : Str) ("_law_sum" : Str) stx__law_sum f fd) : Binds K fd Px__law_sum [] := F.binds (ps := Px__law_sum) fun _ _ _ _ _ _ us hl => match us, hl with | [_], _ => rfl
theorem cx__law_sum (W : Wd) (h : W.att = attOf attA attB) : chkB { t0 W with N := Nx__law_sum } (defScope stx__law_sum) Fx__law_sum.body (defBody stx__law_sum) = true := by obtain ⟨k, c, a⟩ := W; subst h; kernel_rfl
theorem dx__law_sum {W : Wd} (h : W.att = attOf attA attB) {K : PySem.W.Frag} (a : Addr) (fd : FuncData) (F : Fun K ("_law_sum" : Str) ("_law_sum" : Str) stx__law_sum a fd) : DefAt (t0 W) pr K ("_law_sum" : Str) ("_law_sum" : Str) 537 a fd Px__law_sum := ⟨bx__law_sum F, stx__law_sum, Nx__law_sum, Fx__law_sum, [], funD_of F, sx__law_sum, rfl, rfl, rfl, cx__law_sum W h⟩
noncomputable abbrev stx__law_times : Stmt := top 21
noncomputable def Px__law_times : List Str := [("one" : Str), ("other" : Str)]
theorem sx__law_times : FnScope Nx__law_times Px__law_times (defScope stx__law_times) := ⟨rfl, rfl, rfl, by decide +kernel, rfl, by decide +kernel, by decide +kernel⟩
theorem bx__law_times {K : PySem.W.Frag} {f : Addr} {fd : FuncData} (F : Fun K ("_law_times" : Str) ("_law_times" : Str) stx__law_times f fd) : Binds K fd Px__law_times [] := F.binds (ps := Px__law_times) fun _ _ _ _ _ _ us hl => match us, hl with | [_, _], _ => rfl
theorem cx__law_times (W : Wd) (h : W.att = attOf attA attB) : chkB { t0 W with N := Nx__law_times } (defScope stx__law_times) Fx__law_times.body (defBody stx__law_times) = true := by obtain ⟨k, c, a⟩ := W; subst h; kernel_rfl
theorem dx__law_times {W : Wd} (h : W.att = attOf attA attB) {K : PySem.W.Frag} (a : Addr) (fd : FuncData) (F : Fun K ("_law_times" : Str) ("_law_times" : Str) stx__law_times a fd) : DefAt (t0 W) pr K ("_law_times" : Str) ("_law_times" : Str) 538 a fd Px__law_times := ⟨bx__law_times F, stx__law_times, Nx__law_times, Fx__law_times, [], funD_of F, sx__law_times, rfl, rfl, rfl, cx__law_times W h⟩
noncomputable abbrev stx__law_size : Stmt := top 22
noncomputable def Px__law_size : List Str := [("pot" : Str), ("box" : Str)]
theorem sx__law_size : FnScope Nx__law_size Px__law_size (defScope stx__law_size) := ⟨rfl, rfl, rfl, by decide +kernel, rfl, by decide +kernel, by decide +kernel⟩
theorem bx__law_size {K : PySem.W.Frag} {f : Addr} {fd : FuncData} (F : Fun K ("_law_size" : Str) ("_law_size" : Str) stx__law_size f fd) : Binds K fd Px__law_size [] := F.binds (ps := Px__law_size) fun _ _ _ _ _ _ us hl => match us, hl with | [_, _], _ => rfl
theorem cx__law_size (W : Wd) (h : W.att = attOf attA attB) : chkB { t0 W with N := Nx__law_size } (defScope stx__law_size) Fx__law_size.body (defBody stx__law_size) = true := by obtain ⟨k, c, a⟩ := W; subst h; kernel_rfl
theorem dx__law_size {W : Wd} (h : W.att = attOf attA attB) {K : PySem.W.Frag} (a : Addr) (fd : FuncData) (F : Fun K ("_law_size" : Str) ("_law_size" : Str) stx__law_size a fd) : DefAt (t0 W) pr K ("_law_size" : Str) ("_law_size" : Str) 527 a fd Px__law_size := ⟨bx__law_size F, stx__law_size, Nx__law_size, Fx__law_size, [], funD_of F, sx__law_size, rfl, rfl, rfl, cx__law_size W h⟩
noncomputable abbrev stx__law_lot : Stmt := top 23
noncomputable def Px__law_lot : List Str := [("pot" : Str), ("box" : Str), ("limit" : Str)]
theorem sx__law_lot : FnScope Nx__law_lot Px__law_lot (defScope stx__law_lot) := ⟨rfl, rfl, rfl, by decide +kernel, rfl, by decide +kernel, by decide +kernel⟩
theorem bx__law_lot {K : PySem.W.Frag} {f : Addr} {fd : FuncData} (F : Fun K ("_law_lot" : Str) ("_law_lot" : Str) stx__law_lot f fd) : Binds K fd Px__law_lot [] := F.binds (ps := Px__law_lot) fun _ _ _ _ _ _ us hl => match us, hl with | [_, _, _], _ => rfl
theorem cx__law_lot (W : Wd) (h : W.att = attOf attA attB) : chkB { t0 W with N := Nx__law_lot } (defScope stx__law_lot) Fx__law_lot.body (defBody stx__law_lot) = true := by obtain ⟨k, c, a⟩ := W; subst h; kernel_rfl
theorem dx__law_lot {W : Wd} (h : W.att = attOf attA attB) {K : PySem.W.Frag} (a : Addr) (fd : FuncData) (F : Fun K ("_law_lot" : Str) ("_law_lot" : Str) stx__law_lot a fd) : DefAt (t0 W) pr K ("_law_lot" : Str) ("_law_lot" : Str) 528 a fd Px__law_lot := ⟨bx__law_lot F, stx__law_lot, Nx__law_lot, Fx__law_lot, [], funD_of F, sx__law_lot, rfl, rfl, rfl, cx__law_lot W h⟩
noncomputable abbrev stx__law_due : Stmt := top 24
noncomputable def Px__law_due : List Str := [("lot" : Str)]
theorem sx__law_due : FnScope Nx__law_due Px__law_due (defScope stx__law_due) := ⟨rfl, rfl, rfl, by decide +kernel, rfl, by decide +kernel, by decide +kernel⟩
theorem bx__law_due {K : PySem.W.Frag} {f : Addr} {fd : FuncData} (F : Fun K ("_law_due" : Str) ("_law_due" : Str) stx__law_due f fd) : Binds K fd Px__law_due [] := F.binds (ps := Px__law_due) fun _ _ _ _ _ _ us hl => match us, hl with | [_], _ => rfl
theorem cx__law_due (W : Wd) (h : W.att = attOf attA attB) : chkB { t0 W with N := Nx__law_due } (defScope stx__law_due) Fx__law_due.body (defBody stx__law_due) = true := by obtain ⟨k, c, a⟩ := W; subst h; kernel_rfl
theorem dx__law_due {W : Wd} (h : W.att = attOf attA attB) {K : PySem.W.Frag} (a : Addr) (fd : FuncData) (F : Fun K ("_law_due" : Str) ("_law_due" : Str) stx__law_due a fd) : DefAt (t0 W) pr K ("_law_due" : Str) ("_law_due" : Str) 539 a fd Px__law_due := ⟨bx__law_due F, stx__law_due, Nx__law_due, Fx__law_due, [], funD_of F, sx__law_due, rfl, rfl, rfl, cx__law_due W h⟩
noncomputable abbrev stx__law_right : Stmt := top 25
noncomputable def Px__law_right : List Str := [("pot" : Str)]
theorem sx__law_right : FnScope Nx__law_right Px__law_right (defScope stx__law_right) := ⟨rfl, rfl, rfl, by decide +kernel, rfl, by decide +kernel, by decide +kernel⟩
theorem bx__law_right {K : PySem.W.Frag} {f : Addr} {fd : FuncData} (F : Fun K ("_law_right" : Str) ("_law_right" : Str) stx__law_right f fd) : Binds K fd Px__law_right [] := F.binds (ps := Px__law_right) fun _ _ _ _ _ _ us hl => match us, hl with | [_], _ => rfl
theorem cx__law_right (W : Wd) (h : W.att = attOf attA attB) : chkB { t0 W with N := Nx__law_right } (defScope stx__law_right) Fx__law_right.body (defBody stx__law_right) = true := by obtain ⟨k, c, a⟩ := W; subst h; kernel_rfl
theorem dx__law_right {W : Wd} (h : W.att = attOf attA attB) {K : PySem.W.Frag} (a : Addr) (fd : FuncData) (F : Fun K ("_law_right" : Str) ("_law_right" : Str) stx__law_right a fd) : DefAt (t0 W) pr K ("_law_right" : Str) ("_law_right" : Str) 508 a fd Px__law_right := ⟨bx__law_right F, stx__law_right, Nx__law_right, Fx__law_right, [], funD_of F, sx__law_right, rfl, rfl, rfl, cx__law_right W h⟩
noncomputable abbrev stx_law : Stmt := top 26
noncomputable def Px_law : List Str := [("script" : Str)]
theorem sx_law : FnScope Nx_law Px_law (defScope stx_law) := ⟨rfl, rfl, rfl, by decide +kernel, rfl, by decide +kernel, by decide +kernel⟩
theorem bx_law {K : PySem.W.Frag} {f : Addr} {fd : FuncData} (F : Fun K ("law" : Str) ("law" : Str) stx_law f fd) : Binds K fd Px_law [] := F.binds (ps := Px_law) fun _ _ _ _ _ _ us hl => match us, hl with | [_], _ => rfl
theorem cx_law (W : Wd) (h : W.att = attOf attA attB) : chkB { t0 W with N := Nx_law } (defScope stx_law) Fx_law.body (defBody stx_law) = true := by obtain ⟨k, c, a⟩ := W; subst h; kernel_rfl
theorem dx_law {W : Wd} (h : W.att = attOf attA attB) {K : PySem.W.Frag} (a : Addr) (fd : FuncData) (F : Fun K ("law" : Str) ("law" : Str) stx_law a fd) : DefAt (t0 W) pr K ("law" : Str) ("law" : Str) 509 a fd Px_law := ⟨bx_law F, stx_law, Nx_law, Fx_law, [], funD_of F, sx_law, rfl, rfl, rfl, cx_law W h⟩
structure Facts (K : PySem.W.Frag) : Prop where
  gx_is_whole : FactG K ("is_whole" : Str) stx_is_whole
  gx_is_pair : FactG K ("is_pair" : Str) stx_is_pair
  gx_is_number : FactG K ("is_number" : Str) stx_is_number
  gx_is_size : FactG K ("is_size" : Str) stx_is_size
  gx_is_lot : FactG K ("is_lot" : Str) stx_is_lot
  gx_lowest : FactG K ("lowest" : Str) stx_lowest
  gx_added : FactG K ("added" : Str) stx_added
  gx_filled : FactG K ("filled" : Str) stx_filled
  gx__law_pot : FactG K ("_law_pot" : Str) stx__law_pot
  gx__law_take : FactG K ("_law_take" : Str) stx__law_take
  gx__law_of : FactG K ("_law_of" : Str) stx__law_of
  gx__law_cells : FactG K ("_law_cells" : Str) stx__law_cells
  gx__law_number : FactG K ("_law_number" : Str) stx__law_number
  gx__law_sum : FactG K ("_law_sum" : Str) stx__law_sum
  gx__law_times : FactG K ("_law_times" : Str) stx__law_times
  gx__law_size : FactG K ("_law_size" : Str) stx__law_size
  gx__law_lot : FactG K ("_law_lot" : Str) stx__law_lot
  gx__law_due : FactG K ("_law_due" : Str) stx__law_due
  gx__law_right : FactG K ("_law_right" : Str) stx__law_right
  gx_law : FactG K ("law" : Str) stx_law
  z0 : PySem.W.nsIn K mainGlobals ("len" : Str) = some none
  z1 : PySem.W.nsIn K mainGlobals ("int" : Str) = some none
  z2 : PySem.W.nsIn K mainGlobals ("abs" : Str) = some none
  z3 : PySem.W.nsIn K mainGlobals ("max" : Str) = some none
  z4 : PySem.W.nsIn K mainGlobals ("min" : Str) = some none
  z5 : PySem.W.nsIn K mainGlobals ("all" : Str) = some none
  z6 : PySem.W.nsIn K mainGlobals ("list" : Str) = some none
  z7 : PySem.W.nsIn K mainGlobals ("tuple" : Str) = some none
  z8 : PySem.W.nsIn K mainGlobals ("range" : Str) = some none
  z9 : PySem.W.nsIn K mainGlobals ("isinstance" : Str) = some none
  z10 : PySem.W.nsIn K mainGlobals ("type" : Str) = some none
  z11 : PySem.W.nsIn K mainGlobals ("repr" : Str) = some none
  gc : PySem.W.nsIn K mainGlobals "gcd" = some (some (.builtin "math.gcd"))
theorem top_mk {K : PySem.W.Frag} {h : Heap} {mg : Str → Option Value} (X : K.In h) (G : h.Ns mainGlobals mg) (E : Facts K) : Top (t0 (wd K)) pr K mg where
  frag := rfl
  blt := fun x hx => by
    have hx : x ∈ bltTbl := by simpa [t0] using hx
    simp only [bltTbl, List.mem_cons, List.not_mem_nil, or_false] at hx
    rcases hx with rfl | rfl | rfl | rfl | rfl | rfl | rfl | rfl | rfl | rfl | rfl | rfl
    · exact PySem.W.mg_none_of X G E.z0
    · exact PySem.W.mg_none_of X G E.z1
    · exact PySem.W.mg_none_of X G E.z2
    · exact PySem.W.mg_none_of X G E.z3
    · exact PySem.W.mg_none_of X G E.z4
    · exact PySem.W.mg_none_of X G E.z5
    · exact PySem.W.mg_none_of X G E.z6
    · exact PySem.W.mg_none_of X G E.z7
    · exact PySem.W.mg_none_of X G E.z8
    · exact PySem.W.mg_none_of X G E.z9
    · exact PySem.W.mg_none_of X G E.z10
    · exact PySem.W.mg_none_of X G E.z11
  gcd := fun _ => PySem.W.mg_of X G E.gc
  kon := fun x d hx => by
    have hx := Mini.mem_of_lookup (show konTbl.lookup x = some d from hx)
    simp only [konTbl, List.mem_cons, List.not_mem_nil, or_false, Prod.mk.injEq] at hx
  att := fun f hf => by
    have hf : naOk f = true := hf
    simp only [naOk, Bool.or_eq_true, beq_iff_eq] at hf
    have hlen : f < attA.length := by rcases hf with rfl <;> decide
    refine ⟨fun b e => attOf_inj (A := attA) (B := attB) (by decide +kernel) (by decide +kernel) (by decide +kernel) hlen b e, fun c A hc => ?_⟩
    have hc : (wd K).cls c = some A := hc
    simp only [wd] at hc
    cases hc
  defs := fun x f hx => by
    have hx := Mini.mem_of_lookup (show fnTbl.lookup x = some f from hx)
    simp only [fnTbl, List.mem_cons, List.not_mem_nil, or_false, Prod.mk.injEq] at hx
    rcases hx with ⟨rfl, rfl⟩ | ⟨rfl, rfl⟩ | ⟨rfl, rfl⟩ | ⟨rfl, rfl⟩ | ⟨rfl, rfl⟩ | ⟨rfl, rfl⟩ | ⟨rfl, rfl⟩ | ⟨rfl, rfl⟩ | ⟨rfl, rfl⟩ | ⟨rfl, rfl⟩ | ⟨rfl, rfl⟩ | ⟨rfl, rfl⟩ | ⟨rfl, rfl⟩ | ⟨rfl, rfl⟩ | ⟨rfl, rfl⟩ | ⟨rfl, rfl⟩ | ⟨rfl, rfl⟩ | ⟨rfl, rfl⟩ | ⟨rfl, rfl⟩ | ⟨rfl, rfl⟩
    · exact E.gx_is_whole.defs X G (dx_is_whole rfl)
    · exact E.gx_is_pair.defs X G (dx_is_pair rfl)
    · exact E.gx_is_number.defs X G (dx_is_number rfl)
    · exact E.gx_is_size.defs X G (dx_is_size rfl)
    · exact E.gx_is_lot.defs X G (dx_is_lot rfl)
    · exact E.gx_lowest.defs X G (dx_lowest rfl)
    · exact E.gx_added.defs X G (dx_added rfl)
    · exact E.gx_filled.defs X G (dx_filled rfl)
    · exact E.gx__law_pot.defs X G (dx__law_pot rfl)
    · exact E.gx__law_take.defs X G (dx__law_take rfl)
    · exact E.gx__law_of.defs X G (dx__law_of rfl)
    · exact E.gx__law_cells.defs X G (dx__law_cells rfl)
    · exact E.gx__law_number.defs X G (dx__law_number rfl)
    · exact E.gx__law_sum.defs X G (dx__law_sum rfl)
    · exact E.gx__law_times.defs X G (dx__law_times rfl)
    · exact E.gx__law_size.defs X G (dx__law_size rfl)
    · exact E.gx__law_lot.defs X G (dx__law_lot rfl)
    · exact E.gx__law_due.defs X G (dx__law_due rfl)
    · exact E.gx__law_right.defs X G (dx__law_right rfl)
    · exact E.gx_law.defs X G (dx_law rfl)
  dfn := fun x f hx => nomatch (show (none : Option Nat) = some f from hx)
  make := fun x c f hx hi => by
    have hx := Mini.mem_of_lookup (show clTbl.lookup x = some c from hx)
    simp only [clTbl, List.mem_cons, List.not_mem_nil, or_false, Prod.mk.injEq] at hx
  isown := fun x c hx => by
    have hx := Mini.mem_of_lookup (show clTbl.lookup x = some c from hx)
    simp only [clTbl, List.mem_cons, List.not_mem_nil, or_false, Prod.mk.injEq] at hx
  speq := fun c f hf => by
    have hf : prSp c 0 = some f := hf
    unfold prSp at hf
    split at hf
    · cases hf
  meth := fun m c f hm hc => by
    have hm : nmOk m = true := hm
    simp only [nmOk, Bool.or_eq_true, beq_iff_eq] at hm
    cases hm
noncomputable def NDEP0 : Nat := 0
end Law

set_option Elab.async false
set_option linter.all false
set_option maxRecDepth 100000
set_option maxHeartbeats 8000000
namespace Law
open PySem L2 Mini
theorem law_ok {w : World} {K : PySem.W.Frag} {mg : Str → Option Value} {h : Heap} {fa : Addr} (X : K.In h) (G : h.Ns mainGlobals mg) (hfa : mg "law" = some (.ref fa)) (E : Facts K)
    (main : ∀ ns : List Int, ns.length ≤ 63 → (∀ z ∈ ns, Builtin.Int.intBits z ≤ 1048576) → ∃ o as', evF pr (20 + 1) 509 [.im (.frz (ns.map D.int))] = .ok (.bl true, o, as')) :
    ∃ fd : FuncData, (∀ (s : Shared) (v : Value), BindsTo s fd ⟨[v], []⟩ [("script", v)]) ∧ ∀ base : Heap, K.In base → base.Ns mainGlobals mg → FnG PySem.Challenge.rw_sizesreckoned_k06_whole_lots_filled.prog w K mg base CX0 (2 * 20 + 1 + 1) fa fd ["script"] (spTop K) := by
  obtain ⟨a, h1, oc, od, kV, dc, pm, an, cd, ct, sl, h2, h3, h4⟩ := E.gx_law
  have e := hfa.symm.trans (PySem.W.mg_of X G h1)
  cases e
  have F := fun_mk (st := stx_law) h2 h3 h4
  exact ⟨_, fun s v => .of_eq rfl, fun base KX G' => law_sound (top_mk KX G' E) 20 (dx_law rfl fa _ F) main⟩
theorem walk {q : Program} {loose : List Str} {XP : (Str → Option Value) → Heap → Prop} {YP : World → Heap → Prop} {d : DefRec} {K : Params → PySem.W.Frag} (hn : PySem.Challenge.rw_sizesreckoned_k06_whole_lots_filled.most = some 63) (hdf : d.params.defaults = []) (hnm : d.name = "law")
    (hY : ∀ (w : World) (h : Heap), YP w h → (K w.params).In h)
    (main : ∀ ns : List Int, ns.length ≤ 63 → (∀ z ∈ ns, Builtin.Int.intBits z ≤ 1048576) → ∃ o as', evF pr (20 + 1) 509 [.im (.frz (ns.map D.int))] = .ok (.bl true, o, as'))
    (F : ∀ (w : World), ∃ _ : Unit, Facts (K w.params)) :
    PySem.W.WalkO q loose XP YP PySem.Challenge.rw_sizesreckoned_k06_whole_lots_filled.row.toRowW d [] (fun f vs => PySem.call f vs) := by
  refine Mini.walkG (n := 63) (k := 2 * 20 + 1 + 1) (x := "script") (sp := fun w => spTop (K w.params)) hn (by decide) hdf ⟨rfl, by decide, by decide⟩ hY (fun w mg fa h X G hfa => ?_) (fun w H a ns hl hb hO hS => ⟨a, ns, rfl, hO, hS, hl, hb, fun _ => rfl⟩)
  obtain ⟨_, E⟩ := F w
  exact law_ok (h := h) X G (by rw [← hnm]; exact hfa) E main
end Law

set_option Elab.async false
open PySem PySem.W PyProof.Rows Mini
set_option maxRecDepth 100000 in
set_option maxHeartbeats 0 in
theorem PySem.Challenge.cw_sizesreckoned_k06_whole_lots_filled_holds : PySem.Challenge.rw_sizesreckoned_k06_whole_lots_filled.Holds := by
  w_on; o_law; k_head; (case hw => w_witness2)
  k_fill
  refine Law.walk rfl rfl rfl (fun w h Y => PySem.W.kIn_of Y) Law.main ?zF
  case zF =>
    intro w
    refine' ⟨(), ?zE⟩
    case zE =>
      refine' Law.Facts.mk ?zz_gx_is_whole ?zz_gx_is_pair ?zz_gx_is_number ?zz_gx_is_size ?zz_gx_is_lot ?zz_gx_lowest ?zz_gx_added ?zz_gx_filled ?zz_gx__law_pot ?zz_gx__law_take ?zz_gx__law_of ?zz_gx__law_cells ?zz_gx__law_number ?zz_gx__law_sum ?zz_gx__law_times ?zz_gx__law_size ?zz_gx__law_lot ?zz_gx__law_due ?zz_gx__law_right ?zz_gx_law ?zz_z0 ?zz_z1 ?zz_z2 ?zz_z3 ?zz_z4 ?zz_z5 ?zz_z6 ?zz_z7 ?zz_z8 ?zz_z9 ?zz_z10 ?zz_z11 ?zz_gc
      (case zz_gx_is_whole => refine' FactG.mk ?n_gx_is_whole ?l_gx_is_whole ?c_gx_is_whole ?k_gx_is_whole; (case n_gx_is_whole => k_is); (case l_gx_is_whole => k_is); (case c_gx_is_whole => k_is); (case k_gx_is_whole => k_is))
      (case zz_gx_is_pair => refine' FactG.mk ?n_gx_is_pair ?l_gx_is_pair ?c_gx_is_pair ?k_gx_is_pair; (case n_gx_is_pair => k_is); (case l_gx_is_pair => k_is); (case c_gx_is_pair => k_is); (case k_gx_is_pair => k_is))
      (case zz_gx_is_number => refine' FactG.mk ?n_gx_is_number ?l_gx_is_number ?c_gx_is_number ?k_gx_is_number; (case n_gx_is_number => k_is); (case l_gx_is_number => k_is); (case c_gx_is_number => k_is); (case k_gx_is_number => k_is))
      (case zz_gx_is_size => refine' FactG.mk ?n_gx_is_size ?l_gx_is_size ?c_gx_is_size ?k_gx_is_size; (case n_gx_is_size => k_is); (case l_gx_is_size => k_is); (case c_gx_is_size => k_is); (case k_gx_is_size => k_is))
      (case zz_gx_is_lot => refine' FactG.mk ?n_gx_is_lot ?l_gx_is_lot ?c_gx_is_lot ?k_gx_is_lot; (case n_gx_is_lot => k_is); (case l_gx_is_lot => k_is); (case c_gx_is_lot => k_is); (case k_gx_is_lot => k_is))
      (case zz_gx_lowest => refine' FactG.mk ?n_gx_lowest ?l_gx_lowest ?c_gx_lowest ?k_gx_lowest; (case n_gx_lowest => k_is); (case l_gx_lowest => k_is); (case c_gx_lowest => k_is); (case k_gx_lowest => k_is))
      (case zz_gx_added => refine' FactG.mk ?n_gx_added ?l_gx_added ?c_gx_added ?k_gx_added; (case n_gx_added => k_is); (case l_gx_added => k_is); (case c_gx_added => k_is); (case k_gx_added => k_is))
      (case zz_gx_filled => refine' FactG.mk ?n_gx_filled ?l_gx_filled ?c_gx_filled ?k_gx_filled; (case n_gx_filled => k_is); (case l_gx_filled => k_is); (case c_gx_filled => k_is); (case k_gx_filled => k_is))
      (case zz_gx__law_pot => refine' FactG.mk ?n_gx__law_pot ?l_gx__law_pot ?c_gx__law_pot ?k_gx__law_pot; (case n_gx__law_pot => k_is); (case l_gx__law_pot => k_is); (case c_gx__law_pot => k_is); (case k_gx__law_pot => k_is))
      (case zz_gx__law_take => refine' FactG.mk ?n_gx__law_take ?l_gx__law_take ?c_gx__law_take ?k_gx__law_take; (case n_gx__law_take => k_is); (case l_gx__law_take => k_is); (case c_gx__law_take => k_is); (case k_gx__law_take => k_is))
      (case zz_gx__law_of => refine' FactG.mk ?n_gx__law_of ?l_gx__law_of ?c_gx__law_of ?k_gx__law_of; (case n_gx__law_of => k_is); (case l_gx__law_of => k_is); (case c_gx__law_of => k_is); (case k_gx__law_of => k_is))
      (case zz_gx__law_cells => refine' FactG.mk ?n_gx__law_cells ?l_gx__law_cells ?c_gx__law_cells ?k_gx__law_cells; (case n_gx__law_cells => k_is); (case l_gx__law_cells => k_is); (case c_gx__law_cells => k_is); (case k_gx__law_cells => k_is))
      (case zz_gx__law_number => refine' FactG.mk ?n_gx__law_number ?l_gx__law_number ?c_gx__law_number ?k_gx__law_number; (case n_gx__law_number => k_is); (case l_gx__law_number => k_is); (case c_gx__law_number => k_is); (case k_gx__law_number => k_is))
      (case zz_gx__law_sum => refine' FactG.mk ?n_gx__law_sum ?l_gx__law_sum ?c_gx__law_sum ?k_gx__law_sum; (case n_gx__law_sum => k_is); (case l_gx__law_sum => k_is); (case c_gx__law_sum => k_is); (case k_gx__law_sum => k_is))
      (case zz_gx__law_times => refine' FactG.mk ?n_gx__law_times ?l_gx__law_times ?c_gx__law_times ?k_gx__law_times; (case n_gx__law_times => k_is); (case l_gx__law_times => k_is); (case c_gx__law_times => k_is); (case k_gx__law_times => k_is))
      (case zz_gx__law_size => refine' FactG.mk ?n_gx__law_size ?l_gx__law_size ?c_gx__law_size ?k_gx__law_size; (case n_gx__law_size => k_is); (case l_gx__law_size => k_is); (case c_gx__law_size => k_is); (case k_gx__law_size => k_is))
      (case zz_gx__law_lot => refine' FactG.mk ?n_gx__law_lot ?l_gx__law_lot ?c_gx__law_lot ?k_gx__law_lot; (case n_gx__law_lot => k_is); (case l_gx__law_lot => k_is); (case c_gx__law_lot => k_is); (case k_gx__law_lot => k_is))
      (case zz_gx__law_due => refine' FactG.mk ?n_gx__law_due ?l_gx__law_due ?c_gx__law_due ?k_gx__law_due; (case n_gx__law_due => k_is); (case l_gx__law_due => k_is); (case c_gx__law_due => k_is); (case k_gx__law_due => k_is))
      (case zz_gx__law_right => refine' FactG.mk ?n_gx__law_right ?l_gx__law_right ?c_gx__law_right ?k_gx__law_right; (case n_gx__law_right => k_is); (case l_gx__law_right => k_is); (case c_gx__law_right => k_is); (case k_gx__law_right => k_is))
      (case zz_gx_law => refine' FactG.mk ?n_gx_law ?l_gx_law ?c_gx_law ?k_gx_law; (case n_gx_law => k_is); (case l_gx_law => k_is); (case c_gx_law => k_is); (case k_gx_law => k_is))
      (case zz_z0 => k_is)
      (case zz_z1 => k_is)
      (case zz_z2 => k_is)
      (case zz_z3 => k_is)
      (case zz_z4 => k_is)
      (case zz_z5 => k_is)
      (case zz_z6 => k_is)
      (case zz_z7 => k_is)
      (case zz_z8 => k_is)
      (case zz_z9 => k_is)
      (case zz_z10 => k_is)
      (case zz_z11 => k_is)
      (case zz_gc => k_is)
#print axioms PySem.Challenge.cw_sizesreckoned_k06_whole_lots_filled_holds

