import PyProof.Rows.All
import HandS.ForMost
import HandS.ForExc
import KE.SortData
import KE.GoesEnum
import HandS.TupAny
import HandS.Zip
import HandS.IsInst
import HandS.Conv
import HandS.AnyAll
import HandS.Style
import HandS.Flow
import PyProof.EqKinds
import HandS.Defaults
import HandS.Head0
import HandS.Head1
import HandS.Head2
import HandS.HeadEnd
import HandS.HeadHook1
import HandS.HeadHook2
import PyProof.Rows.Walk
import HandS.More
import PySem.Challenge.RW_levelkin_k18_whole_sayings_judged
set_option Elab.async false
section
set_option linter.all false
/-! Kin 1: data, compact programs, the evaluator: pure functions. -/
namespace Kin
open PySem

/-- data: tuples by value, the rest by number -/
inductive D where
  | non
  | bl (b : Bool)
  | int (i : Int)
  | str (x : Str)
  | tup (ds : List D)
  | ref (n : Nat)
  deriving Inhabited

/-- what stands at a number -/
inductive AO where
  | lst (ds : List D)
  | frz (ds : List D)
  | dct (kvs : List (L2.Key × D))
  deriving Inhabited
abbrev AH := List AO
abbrev Flds := List (Nat × D)
/-- a raised error -/
structure Ex where
  c : Nat
  fs : Flds

inductive Res (α : Type) where
  | ok (a : α) (A : AH)
  | exc (x : Ex) (A : AH)
  | bad

inductive Bm where | append | extend | pop | get
  deriving DecidableEq
inductive BOp where | add | sub | mul | fdiv | mod
  deriving DecidableEq
inductive COp where | eq | ne | lt | le | gt | ge | isn | notn | inn | nin
  deriving DecidableEq
inductive Blt where
  | len | list | tuple | sum | all | any | abs | int | bool | min | max
  deriving DecidableEq
inductive Ty where | int | bool | str | tuple | list | dict
  deriving DecidableEq

mutual
inductive CE where
  | bad
  | slot (i : Nat)
  | cst (d : D)
  | tup (es : List CE)
  | lst (es : List CE)
  | dct (kvs : List (CE × CE))
  | bin (op : BOp) (a b : CE)
  | neg (a : CE)
  | cmp (op : COp) (a b : CE)
  | chain (op op' : COp) (a b c : CE)
  | and (a : CE) (b : CE)
  | or (a : CE) (b : CE)
  | not (a : CE)
  | ite (c a b : CE)
  | idx (a i : CE)
  | slc (a : CE) (lo hi : Option CE)
  | rev (a : CE)
  | call (f : Nat) (es : List CE)
  | meth (b : Bm) (a : CE) (es : List CE)
  | blt (b : Blt) (es : List CE)
  | listR (es : List CE)
  | isi (a : CE) (cs : List Ty)
  | comp (elt : CE) (t : CT) (it : CI) (ifs : List CE) (own : List Nat)
inductive CI where
  | bad
  | seq (e : CE)
  | rng (es : List CE)
  | enum (e : CE)
  | zip (a b : CE)
inductive CT where
  | bad
  | slot (i : Nat)
  | tup (ts : List CT)
  | item (a i : CE)
end

inductive CS where
  | bad
  | ex (e : CE)
  | asg (t : CT) (e : CE)
  | par (is : List Nat) (es : List CE)
  | aug (i : Nat) (op : BOp) (e : CE)
  | ret (e : CE)
  | cond (c : CE) (a b : List CS)
  | loop (t : CT) (it : CI) (b : List CS)
  | while (c : CE) (b : List CS)
  | brk | cont | pass

structure CDef where
  name : Str
  nps : Nat
  n : Nat
  body : List CS
structure CProg where
  defs : List CDef

/-! ### primitives -/
def lim : Nat := 16777216
def new (A : AH) (o : AO) : D × AH := (.ref A.length, A ++ [o])
def Res.of {α : Type} : Option (α × AH) → Res α
  | some (a, A) => .ok a A
  | none => .bad
def Res.of1 {α : Type} (A : AH) : Option α → Res α
  | some a => .ok a A
  | none => .bad
def Res.bind {α β : Type} (r : Res α) (f : α → AH → Res β) : Res β :=
  match r with
  | .ok a A => f a A
  | .exc x A => .exc x A
  | .bad => .bad
/-- no error may leave here -/
def Res.calm {α : Type} (r : Res α) : Res α :=
  match r with
  | .ok a A => .ok a A
  | _ => .bad

def onB {α : Type} (o : Option Bool) (t f : Res α) : Res α :=
  match o with
  | some true => t
  | some false => f
  | none => .bad
def negD : D → Option D
  | .int i => some (.int (-i))
  | _ => none
def intOf : D → Option Int
  | .int i => some i
  | _ => none
def tupOf : D → Option (List D)
  | .tup ds => some ds
  | _ => none
/-- the items of a list or a tuple -/
def seqOf (d : D) (A : AH) : Option (List D) :=
  match d with
  | .tup ds => some ds
  | .ref n => match A[n]? with
    | some (.lst ds) => some ds
    | some (.frz ds) => some ds
    | _ => none
  | _ => none
def lstOf (d : D) (A : AH) : Option (List D) :=
  match d with
  | .ref n => match A[n]? with
    | some (.lst ds) => some ds
    | _ => none
  | _ => none

def binD (op : BOp) (a b : D) (A : AH) : Option (D × AH) :=
  match op, a, b with
  | .add, .int i, .int j => some (.int (i + j), A)
  | .sub, .int i, .int j => some (.int (i - j), A)
  | .mul, .int i, .int j => if (-(2 ^ 64) < i ∧ i < 2 ^ 64) ∨ (-(2 ^ 64) < j ∧ j < 2 ^ 64) then some (.int (i * j), A) else none
  | .fdiv, .int i, .int j => if 0 < j ∧ j < 1073741824 then some (.int (i / j), A) else none
  | .mod, .int i, .int j => if 0 < j then some (.int (i % j), A) else none
  | .add, .str x, .str y => if x.length + y.length ≤ lim then some (.str (x ++ y), A) else none
  | .add, .tup xs, .tup ys => if xs.length + ys.length ≤ lim then some (.tup (xs ++ ys), A) else none
  | .add, .ref m, .ref n => match lstOf (.ref m) A, lstOf (.ref n) A with
    | some xs, some ys => if xs.length + ys.length ≤ lim then some (new A (.lst (xs ++ ys))) else none
    | _, _ => none
  | .mul, .ref m, .int k => match lstOf (.ref m) A with
    | some xs => if 0 ≤ k ∧ k ≤ 16777216 ∧ xs.length * k.toNat ≤ lim then some (new A (.lst (List.replicate k.toNat xs).flatten)) else none
    | none => none
  | _, _, _ => none

def truthD (d : D) (A : AH) : Option Bool :=
  match d with
  | .non => some false
  | .bl b => some b
  | .int i => some (i != 0)
  | .str x => if x.length ≤ lim then some ((x.length : Int) != 0) else none
  | .tup ds => some (!ds.isEmpty)
  | .ref n => match A[n]? with
    | some (.lst ds) => some (!ds.isEmpty)
    | some (.frz ds) => some (!ds.isEmpty)
    | some (.dct kvs) => some (!kvs.isEmpty)
    | none => none

/-- what has no parts -/
def flatD : D → Bool
  | .non => true
  | .bl _ => true
  | .int _ => true
  | .str _ => true
  | _ => false
def eqF : D → D → Bool
  | .non, .non => true
  | .bl a, .bl b => a == b
  | .bl a, .int b => (if a then 1 else 0) == b
  | .int a, .bl b => a == (if b then 1 else 0)
  | .int a, .int b => a == b
  | .str a, .str b => a == b
  | _, _ => false
/-- whether what stands there has parts in a row -/
def isSeq (d : D) (A : AH) : Bool := (seqOf d A).isSome
def eqD (a b : D) (A : AH) : Option Bool :=
  if flatD a && flatD b then some (eqF a b)
  else if (flatD a && isSeq b A) || (flatD b && isSeq a A) then some false
  else none

def kGet (kvs : List (L2.Key × D)) (k : L2.Key) : Option D := (kvs.find? fun p => decide (p.1 = k)).map (·.2)
def kPut (kvs : List (L2.Key × D)) (k : L2.Key) (v : D) : List (L2.Key × D) :=
  if (kvs.any fun p => decide (p.1 = k)) = true then kvs.map (fun p => if p.1 = k then (p.1, v) else p) else kvs ++ [(k, v)]
def keyD : D → Option L2.Key
  | .int i => some (.inl i)
  | .str x => some (.inr x)
  | _ => none
def isDct (d : D) (A : AH) : Bool := match d with
  | .ref n => (match A[n]? with
    | some (.dct _) => true
    | _ => false)
  | _ => false
def isStrD : D → Bool
  | .str _ => true
  | _ => false
/-- in a list or a tuple of things without parts -/
def inD (x : D) (y : D) (A : AH) : Option Bool :=
  match seqOf y A with
  | some ys => if ys.all flatD then (if flatD x then some (ys.any fun z => eqF z x) else if isSeq x A || (isDct x A && ys.all isStrD) then some false else none) else none
  | none => none

def cmpI (op : COp) (i j : Int) : Option Bool :=
  match op with
  | .lt => some (decide (i < j))
  | .le => some (decide (i ≤ j))
  | .gt => some (decide (j < i))
  | .ge => some (decide (j ≤ i))
  | _ => none
def cmpD (op : COp) (a b : D) (A : AH) : Option Bool :=
  match op with
  | .eq => eqD a b A
  | .ne => if flatD a && flatD b then some (!eqF a b) else none
  | .isn => match b with | .non => (match a with | .non => some true | _ => some false) | _ => none
  | .notn => match b with | .non => (match a with | .non => some false | _ => some true) | _ => none
  | .inn => inD a b A
  | .nin => (inD a b A).map (!·)
  | _ => match a, b with
    | .int i, .int j => cmpI op i j
    | _, _ => none

def idxD (a i : D) (A : AH) : Option D :=
  match a, i with
  | .tup ds, .int k => L2.atI ds k
  | .str x, .int k => if x.length ≤ lim then (L2.atI x.cps.toList k).map fun c => .str ⟨#[c]⟩ else none
  | .ref n, k => match A[n]? with
    | some (.lst ds) => match k with
      | .int k => L2.atI ds k
      | _ => none
    | some (.frz ds) => match k with
      | .int k => L2.atI ds k
      | _ => none
    | some (.dct kvs) => (keyD k).bind (kGet kvs)
    | none => none
  | _, _ => none
def setIdx (a i v : D) (A : AH) : Option AH :=
  match a with
  | .ref n => match A[n]? with
    | some (.lst ds) => match i with
      | .int k => (L2.ixN ds.length k).map fun j => A.set n (.lst (ds.set j v))
      | _ => none
    | _ => none
  | _ => none
def cut {α : Type} (xs : List α) (lo hi : Option Int) : List α := (xs.drop (HT.sIx xs.length 0 lo)).take (HT.sIx xs.length xs.length hi - HT.sIx xs.length 0 lo)
def slcD (a : D) (lo hi : Option Int) (A : AH) : Option (D × AH) :=
  match a with
  | .tup ds => some (.tup (cut ds lo hi), A)
  | .ref n => (seqOf (.ref n) A).map fun ds => new A (.lst (cut ds lo hi))
  | _ => none
def revD (a : D) (A : AH) : Option (D × AH) :=
  match a with
  | .tup ds => some (.tup ds.reverse, A)
  | _ => none
def intsD : List D → Option (List Int)
  | [] => some []
  | .int i :: r => (intsD r).map (i :: ·)
  | _ => none
def blsD : List D → Option (List Bool)
  | [] => some []
  | .bl i :: r => (blsD r).map (i :: ·)
  | _ => none
def callB (b : Blt) (vs : List D) (A : AH) : Option (D × AH) :=
  match b, vs with
  | .len, [.str x] => if x.length ≤ lim then some (.int x.length, A) else none
  | .len, [d] => (seqOf d A).map fun ds => (.int ds.length, A)
  | .list, [d] => (seqOf d A).map fun ds => new A (.lst ds)
  | .tuple, [d] => (seqOf d A).map fun ds => (D.tup ds, A)
  | .sum, [d] => ((lstOf d A).bind intsD).map fun is => (.int is.sum, A)
  | .all, [d] => ((lstOf d A).bind blsD).map fun bs => (.bl (bs.all id), A)
  | .any, [d] => ((lstOf d A).bind blsD).map fun bs => (.bl (bs.any id), A)
  | .abs, [.int i] => some (.int (if i < 0 then -i else i), A)
  | .int, [.int i] => some (.int i, A)
  | .int, [.bl b] => some (.int (if b then 1 else 0), A)
  | .bool, [.bl b] => some (.bl b, A)
  | .bool, [.int i] => some (.bl (i != 0), A)
  | .min, [.int i, .int j] => some (.int (if j < i then j else i), A)
  | .max, [.int i, .int j] => some (.int (if j > i then j else i), A)
  | _, _ => none
/-- a method of what is built in: x.m(vs) -/
def methB (m : Bm) (x : D) (vs : List D) (A : AH) : Option (D × AH) :=
  match m, x, vs with
  | .append, .ref n, [v] => match A[n]? with
    | some (.lst ds) => if ds.length < lim then some (.non, A.set n (.lst (ds ++ [v]))) else none
    | _ => none
  | .extend, .ref n, [.ref k] => match A[n]?, A[k]? with
    | some (.lst ds), some (.lst es) => if ds.length + es.length ≤ lim then some (.non, A.set n (.lst (ds ++ es))) else none
    | _, _ => none
  | .pop, .ref n, [] => match A[n]? with
    | some (.lst ds) => (ds[ds.length - 1]?).map fun d => (d, A.set n (.lst ds.dropLast))
    | _ => none
  | _, _, _ => none

def tyD (d : D) (A : AH) : List Ty :=
  match d with
  | .non => []
  | .bl _ => [.bool, .int]
  | .int _ => [.int]
  | .str _ => [.str]
  | .tup _ => [.tuple]
  | .ref n => match A[n]? with
    | some (.lst _) => [.list]
    | some (.frz _) => [.list]
    | some (.dct _) => [.dict]
    | none => []

/-! ### the evaluator -/
abbrev Loc := List (Option D)
def wipe (L : Loc) : List Nat → Loc
  | [] => L
  | v :: vs => (wipe L vs).set v none
def getL (L : Loc) (i : Nat) : Option D :=
  match L[i]? with
  | some (some d) => some d
  | _ => none
structure Fns where
  call : Nat → List D → AH → Res D
/-- a walk: the i-th item, by what stands now -/
abbrev Wk := Nat → AH → Option (Option D)
def wkItems (ds : List D) : Wk := fun i _ => some ds[i]?
def wkLive (n : Nat) : Wk := fun i A => match A[n]? with
  | some (.lst ds) => some ds[i]?
  | _ => none
def wkEnum (w : Wk) : Wk := fun i A => (w i A).map fun o => o.map fun d => D.tup [.int (i : Nat), d]
def rngItems (lo hi : Int) : List D := (List.range (hi - lo).toNat).map fun k => D.int (lo + (k : Nat))
def okR (i j : Int) : Bool := decide (-(2 ^ 62) ≤ i ∧ i < 2 ^ 62 ∧ -(2 ^ 62) ≤ j ∧ j < 2 ^ 62)
def rngWk (ds : List D) : Option Wk :=
  match ds with
  | [.int j] => if okR 0 j then some (wkItems (rngItems 0 j)) else none
  | [.int i, .int j] => if okR i j then some (wkItems (rngItems i j)) else none
  | _ => none
def rngLst (ds : List D) : Option (List D) :=
  match ds with
  | [.int j] => if okR 0 j && decide (j.toNat ≤ 2 ^ 24) then some (rngItems 0 j) else none
  | [.int i, .int j] => if okR i j && decide ((j - i).toNat ≤ 2 ^ 24) then some (rngItems i j) else none
  | _ => none
def seqWk (d : D) (A : AH) : Option Wk :=
  match d with
  | .tup ds => some (wkItems ds)
  | .ref n => match A[n]? with
    | some (.lst _) => some (wkLive n)
    | _ => none
  | _ => none
def zipWk (a b : D) : Option Wk :=
  match a, b with
  | .tup ds, .tup es => some (wkItems ((ds.zip es).map fun p => D.tup [p.1, p.2]))
  | _, _ => none
inductive SRes where
  | nx (L : Loc) (A : AH)
  | rt (d : D) (A : AH)
  | bk (L : Loc) (A : AH)
  | ct (L : Loc) (A : AH)
  | exc (x : Ex) (L : Loc) (A : AH)
  | bad
/-- over the walk: f d acc -/
def overW {α : Type} (w : Wk) (f : D → α → AH → Res α) : Nat → Nat → α → AH → Res α
  | 0, _, _, _ => .bad
  | k + 1, i, a, A => match w i A with
    | none => .bad
    | some none => .ok a A
    | some (some d) => (f d a A).bind fun a A => overW w f k (i + 1) a A
def fuel : Nat := 1000000
def isList (d : D) (A : AH) : Bool := (lstOf d A).isSome

mutual
def evE (P : CProg) (F : Fns) : CE → Loc → AH → Res D
  | .bad, _, _ => .bad
  | .slot i, L, A => Res.of1 A (getL L i)
  | .cst d, _, A => .ok d A
  | .tup es, L, A => (evEs P F es L A).bind fun ds A => if ds.length ≤ lim then .ok (.tup ds) A else .bad
  | .lst es, L, A => (evEs P F es L A).bind fun ds A => if ds.length ≤ lim then Res.of (some (new A (.lst ds))) else .bad
  | .dct kvs, L, A => (evKVs P F kvs L A).bind fun ps A => if ps.length ≤ 15 then Res.of (some (new A (.dct (ps.foldl (fun acc p => kPut acc p.1 p.2) [])))) else .bad
  | .bin op a b, L, A => (evE P F a L A).bind fun x A => (evE P F b L A).bind fun y A => Res.of (binD op x y A)
  | .neg a, L, A => (evE P F a L A).bind fun x A => Res.of1 A (negD x)
  | .cmp op a b, L, A => (evE P F a L A).bind fun x A => (evE P F b L A).bind fun y A => Res.of1 A ((cmpD op x y A).map .bl)
  | .chain op op' a b c, L, A => (evE P F a L A).bind fun x A => (evE P F b L A).bind fun y A =>
    onB (cmpD op x y A) ((evE P F c L A).bind fun z A => Res.of1 A ((cmpD op' y z A).map .bl)) (.ok (.bl false) A)
  | .and a b, L, A => (evE P F a L A).bind fun x A => onB (truthD x A) (evE P F b L A) (.ok x A)
  | .or a b, L, A => (evE P F a L A).bind fun x A => onB (truthD x A) (.ok x A) (evE P F b L A)
  | .not a, L, A => (evE P F a L A).bind fun x A => Res.of1 A ((truthD x A).map fun b => .bl (!b))
  | .ite c a b, L, A => (evE P F c L A).bind fun x A => onB (truthD x A) (evE P F a L A) (evE P F b L A)
  | .idx a i, L, A => (evE P F a L A).bind fun x A => (evE P F i L A).bind fun y A => Res.of1 A (idxD x y A)
  | .slc a lo hi, L, A => (evE P F a L A).bind fun x A => (evO P F lo L A).bind fun l A => (evO P F hi L A).bind fun h A => Res.of (slcD x l h A)
  | .rev a, L, A => (evE P F a L A).bind fun x A => Res.of (revD x A)
  | .call f es, L, A => (evEs P F es L A).bind fun ds A => F.call f ds A
  | .meth m a es, L, A => (evE P F a L A).bind fun x A => if isList x A then (evEs P F es L A).bind fun ds A => Res.of (methB m x ds A) else .bad
  | .blt b es, L, A => (evEs P F es L A).bind fun ds A => Res.of (callB b ds A)
  | .listR es, L, A => (evEs P F es L A).bind fun ds A => Res.of ((rngLst ds).map fun l => new A (.lst l))
  | .isi a cs, L, A => (evE P F a L A).bind fun x A => .ok (.bl (cs.any fun c => (tyD x A).contains c)) A
  | .comp elt t it ifs own, L, A => (evI P F it L A).bind fun w A =>
    (overW w (fun d acc A => ((asT P F t d (wipe L own) A).bind fun L A => (evIfs P F ifs L A).bind fun b A =>
      if b then (evE P F elt L A).bind fun v A => if acc.length < lim then .ok (acc ++ [v]) A else .bad else .ok acc A).calm) fuel 0 [] A).bind fun ds A => Res.of (some (new A (.lst ds)))
def evEs (P : CProg) (F : Fns) : List CE → Loc → AH → Res (List D)
  | [], _, A => .ok [] A
  | e :: es, L, A => (evE P F e L A).bind fun d A => (evEs P F es L A).bind fun ds A => .ok (d :: ds) A
def evKVs (P : CProg) (F : Fns) : List (CE × CE) → Loc → AH → Res (List (L2.Key × D))
  | [], _, A => .ok [] A
  | (k, v) :: es, L, A => (evE P F k L A).bind fun d A => (evE P F v L A).bind fun w A => (Res.of1 A (keyD d)).bind fun d A => (evKVs P F es L A).bind fun ds A => .ok ((d, w) :: ds) A
def evO (P : CProg) (F : Fns) : Option CE → Loc → AH → Res (Option Int)
  | none, _, A => .ok none A
  | some e, L, A => (evE P F e L A).bind fun d A => Res.of1 A ((intOf d).map some)
/-- the walk of an iterable -/
def evI (P : CProg) (F : Fns) : CI → Loc → AH → Res Wk
  | .bad, _, _ => .bad
  | .seq e, L, A => (evE P F e L A).bind fun d A => Res.of1 A (seqWk d A)
  | .rng es, L, A => (evEs P F es L A).bind fun ds A => Res.of1 A (rngWk ds)
  | .enum e, L, A => (evE P F e L A).bind fun d A => Res.of1 A ((seqWk d A).map wkEnum)
  | .zip a b, L, A => (evE P F a L A).bind fun x A => (evE P F b L A).bind fun y A => Res.of1 A (zipWk x y)
/-- a target -/
def asT (P : CProg) (F : Fns) : CT → D → Loc → AH → Res Loc
  | .bad, _, _, _ => .bad
  | .slot i, d, L, A => .ok (L.set i (some d)) A
  | .tup ts, d, L, A => (Res.of1 A (tupOf d)).bind fun ds A => if ds.length = ts.length then asTs P F ts ds L A else .bad
  | .item a i, d, L, A => (evE P F a L A).bind fun x A => (evE P F i L A).bind fun y A => Res.of ((setIdx x y d A).map fun A => (L, A))
def asTs (P : CProg) (F : Fns) : List CT → List D → Loc → AH → Res Loc
  | t :: ts, d :: ds, L, A => (asT P F t d L A).bind fun L A => (asTs P F ts ds L A).calm
  | [], [], L, A => .ok L A
  | _, _, _, _ => .bad
def evIfs (P : CProg) (F : Fns) : List CE → Loc → AH → Res Bool
  | [], _, A => .ok true A
  | [c], L, A => (evE P F c L A).bind fun x A => Res.of1 A (truthD x A)
  | _, _, _ => .bad
end


/-- the turns of a for -/
def turnsW (w : Wk) (f : D → Loc → AH → SRes) : Nat → Nat → Loc → AH → SRes
  | 0, _, _, _ => .bad
  | k + 1, i, L, A => match w i A with
    | none => .bad
    | some none => .nx L A
    | some (some d) => match f d L A with
      | .nx L A => turnsW w f k (i + 1) L A
      | .ct L A => turnsW w f k (i + 1) L A
      | .bk L A => .nx L A
      | r => r
def whileN (c : Loc → AH → Res Bool) (f : Loc → AH → SRes) : Nat → Loc → AH → SRes
  | 0, _, _ => .bad
  | n + 1, L, A => match c L A with
    | .ok true A => (match f L A with
      | .nx L A => whileN c f n L A
      | .ct L A => whileN c f n L A
      | .bk L A => .nx L A
      | r => r)
    | .ok false A => .nx L A
    | .exc x A => .exc x L A
    | .bad => .bad
def SRes.ofE {α : Type} (L : Loc) (r : Res α) (f : α → AH → SRes) : SRes :=
  match r with
  | .ok a A => f a A
  | .exc x A => .exc x L A
  | .bad => .bad
def setAll : List Nat → List D → Loc → Option Loc
  | i :: is, d :: ds, L => setAll is ds (L.set i (some d))
  | [], [], L => some L
  | _, _, _ => none
def SRes.ofL (A : AH) : Option Loc → SRes
  | some L => .nx L A
  | none => .bad
def evT (P : CProg) (F : Fns) (c : CE) (L : Loc) (A : AH) : Res Bool := (evE P F c L A).bind fun x A => Res.of1 A (truthD x A)
mutual
def evS (P : CProg) (F : Fns) : CS → Loc → AH → SRes
  | .bad, _, _ => .bad
  | .ex e, L, A => SRes.ofE L (evE P F e L A) fun _ A => .nx L A
  | .asg t e, L, A => SRes.ofE L (evE P F e L A) fun d A => SRes.ofE L (asT P F t d L A) fun L A => .nx L A
  | .par is es, L, A => SRes.ofE L (evEs P F es L A) fun ds A => SRes.ofL A (setAll is ds L)
  | .aug i op e, L, A => (match L[i]? with
    | some (some x) => SRes.ofE L (evE P F e L A) fun y A => SRes.ofE L (Res.of (binD op x y A)) fun z A => .nx (L.set i (some z)) A
    | _ => .bad)
  | .ret e, L, A => SRes.ofE L (evE P F e L A) fun d A => .rt d A
  | .cond c a b, L, A => SRes.ofE L (evT P F c L A) fun x A => if x then evSs P F a L A else evSs P F b L A
  | .loop t it b, L, A => SRes.ofE L (evI P F it L A) fun w A => turnsW w (fun d L A => SRes.ofE L (asT P F t d L A) fun L A => evSs P F b L A) fuel 0 L A
  | .while c b, L, A => whileN (evT P F c) (fun L A => evSs P F b L A) fuel L A
  | .brk, L, A => .bk L A
  | .cont, L, A => .ct L A
  | .pass, L, A => .nx L A
def evSs (P : CProg) (F : Fns) : List CS → Loc → AH → SRes
  | [], L, A => .nx L A
  | s :: ss, L, A => (match evS P F s L A with
    | .nx L A => evSs P F ss L A
    | r => r)
end
def SRes.ret (r : SRes) : Res D :=
  match r with
  | .nx _ A => .ok .non A
  | .rt v A => .ok v A
  | .exc x _ A => .exc x A
  | _ => .bad
def Fns.none : Fns := { call := fun _ _ _ => .bad }
/-- so many calls within one another -/
def fns (P : CProg) : Nat → Fns
  | 0 => .none
  | k + 1 => { call := fun f ds A => match P.defs[f]? with
      | some d => if ds.length = d.nps then (evSs P (fns P k) d.body (ds.map some ++ List.replicate (d.n - d.nps) Option.none) A).ret else .bad
      | Option.none => .bad }
end Kin
end
section
set_option linter.all false
/-! Kin 2: from the text to compact programs: what is not known becomes bad. -/
namespace Kin
open PySem

structure Ctx where
  funs : List (Str × Nat)
  cons : List (Str × D)
  blts : List Str
  N : List Str
  sc : Scope
  /-- in a comprehension: its scope (its names alone may be stored) -/
  wr : Option Scope

def ix {α : Type} [BEq α] (x : α) (l : List α) : Option Nat := l.idxOf? x
def okName (x : Str) : Bool := !(x == ("__debug__" : Str)) && !(x == ("__classdict__" : Str)) && !decide (x = ("__name__" : Str))
def visB (sc : Scope) (x : Str) : Bool := match sc.names.lookup x with
  | some .local => true
  | some .cell => true
  | some .free => true
  | _ => false
def locB (sc : Scope) (x : Str) : Bool := match sc.names.lookup x with
  | some .local => true
  | some .cell => true
  | _ => false
def Ctx.slot (C : Ctx) (x : Str) : Option Nat := if visB C.sc x && okName x then ix x C.N else none
def wrB (w : Option Scope) (x : Str) : Bool := match w with
  | none => true
  | some s => locB s x
def Ctx.tslot (C : Ctx) (x : Str) : Option Nat := if locB C.sc x && okName x && wrB C.wr x then ix x C.N else none
def Ctx.glob (C : Ctx) (x : Str) : Bool := (match C.sc.names.lookup x with
  | some .globalImplicit => true
  | _ => false) && okName x
def Ctx.bltn (C : Ctx) (x : Str) : Bool := C.glob x && C.blts.contains x

def opOf : Operator → Option BOp
  | .Add => some .add
  | .Sub => some .sub
  | .Mult => some .mul
  | .FloorDiv => some .fdiv
  | .Mod => some .mod
  | _ => none
def cmpOf : CmpOp → Option COp
  | .Eq => some .eq
  | .NotEq => some .ne
  | .Lt => some .lt
  | .LtE => some .le
  | .Gt => some .gt
  | .GtE => some .ge
  | .In => some .inn
  | .NotIn => some .nin
  | .Is => some .isn
  | .IsNot => some .notn
def constD : Const → Option D
  | .none => some .non
  | .bool b => some (.bl b)
  | .int i => some (.int i)
  | .str x => some (.str x)
  | _ => none
def isStar : Expr → Bool
  | .Starred _ _ => true
  | _ => false
def isSet : Expr → Bool
  | .Set _ _ _ => true
  | _ => false
def isComp : Expr → Bool
  | .ListComp _ _ _ _ => true
  | .SetComp _ _ _ _ => true
  | .DictComp _ _ _ _ _ => true
  | _ => false
def isSlice : Expr → Bool
  | .Slice _ _ _ _ => true
  | _ => false
def isTup : Expr → Bool
  | .Tuple _ _ _ => true
  | _ => false

abbrev CEF := Ctx → Expr → CE
def optF (f : Expr → CE) (k : Option Expr) : CE := match k with
  | some k => f k
  | none => .bad
def listF (f : CEF) (C : Ctx) (es : List Expr) : List CE := if es.any isStar then [.bad] else es.map (f C)
def boolF (op : BoolOp) : List CE → CE
  | [] => .bad
  | [e] => e
  | e :: es => match op with
    | .And => .and e (boolF op es)
    | .Or => .or e (boolF op es)
def tyOf (C : Ctx) : Expr → Option Ty
  | .Name x _ => if C.bltn x then
      (if x = ("int" : Str) then some .int else if x = ("bool" : Str) then some .bool else if x = ("str" : Str) then some .str else if x = ("tuple" : Str) then some .tuple
      else if x = ("list" : Str) then some .list else if x = ("dict" : Str) then some .dict else none) else none
  | _ => none
/-- built-in functions and types, by name -/
def bltOf (x : Str) : Option Blt :=
  if x = ("len" : Str) then some .len else if x = ("sum" : Str) then some .sum else if x = ("all" : Str) then some .all else if x = ("any" : Str) then some .any
  else if x = ("abs" : Str) then some .abs else if x = ("min" : Str) then some .min else if x = ("max" : Str) then some .max else none
def btyOf (x : Str) : Option Blt :=
  if x = ("list" : Str) then some .list else if x = ("tuple" : Str) then some .tuple else if x = ("int" : Str) then some .int else if x = ("bool" : Str) then some .bool else none
/-- range(..) -/
def rangeArgs (C : Ctx) : Expr → Option (List Expr)
  | .Call (.Name g _) es [] _ => if g = ("range" : Str) && C.bltn g && !es.any isStar then (match es with
      | [_] => some es
      | [_, _] => some es
      | _ => none) else none
  | _ => none
def callF (f : CEF) (C : Ctx) (x : Str) (es : List Expr) : CE :=
  match C.funs.lookup x with
  | some i => if C.glob x && !es.isEmpty then .call i (listF f C es) else .bad
  | none => if C.bltn x then
      (if x = ("isinstance" : Str) then (match es with
        | [a, t] => if isStar a then .bad else match tyOf C t with
          | some T => .isi (f C a) [T]
          | none => .bad
        | _ => .bad)
      else match bltOf x, btyOf x, es with
        | some b, _, _ :: _ => .blt b (listF f C es)
        | none, some b, [e] => if x = ("list" : Str) then (match rangeArgs C e with
            | some as => .listR (as.map (f C))
            | none => .blt b (listF f C es)) else .blt b (listF f C es)
        | _, _, _ => .bad) else .bad
def subF (f : CEF) (C : Ctx) (a : Expr) : Expr → CE
  | .Slice none none (some (.UnaryOp .USub (.Constant (.int 1) _ _) _)) _ => .rev (f C a)
  | .Slice lo hi none _ => .slc (f C a) (lo.map (f C)) (hi.map (f C))
  | .Slice _ _ _ _ => .bad
  | i => .idx (f C a) (f C i)
def iterF (f : CEF) (C : Ctx) (tup : Bool) (e : Expr) : CI :=
  match rangeArgs C e with
  | some as => .rng (as.map (f C))
  | none => match e with
    | .Call (.Name g p) es [] q => if g = ("enumerate" : Str) && C.bltn g && tup then (match es with
        | [a] => if isStar a then .bad else .enum (f C a)
        | _ => .bad)
      else if g = ("zip" : Str) && C.bltn g && tup then (match es with
        | [a, b] => if isStar a || isStar b then .bad else .zip (f C a) (f C b)
        | _ => .bad)
      else if g = ("enumerate" : Str) || g = ("zip" : Str) then .bad else .seq (f C (.Call (.Name g p) es [] q))
    | e => if isSet e || isStar e then .bad else .seq (f C e)
def tgtF (f : CEF) : Nat → Ctx → Expr → CT
  | 0, _, _ => .bad
  | m + 1, C, e => match e with
    | .Name x _ => (match C.tslot x with
      | some i => .slot i
      | none => .bad)
    | .Tuple es _ _ => if es.any isStar then .bad else .tup (es.map (tgtF f m C))
    | .Subscript a i _ => if isSlice i then .bad else .item (f C a) (f C i)
    | _ => .bad

/-- a comprehension's scope as it runs -/
def relC (scope : Scope) (C : Ctx) : Ctx := { C with sc := L2.relS scope C.sc, wr := some scope }
def ownOf (scope : Scope) (C : Ctx) : List (Str × Nat) := scope.names.filterMap fun p => match p.2 with
  | .local => (ix p.1 C.N).map fun i => (p.1, i)
  | .cell => (ix p.1 C.N).map fun i => (p.1, i)
  | _ => none
/-- what a comprehension's block wants -/
def blkB (scope : Scope) (C : Ctx) : Bool :=
  scope.kind == .function && scope.names.all fun y => decide (scope.names.lookup y.1 = some y.2) &&
    (match y.2 with
    | .free => (match C.sc.names.lookup y.1 with
      | some .cell => true
      | some .free => true
      | _ => false)
    | .local => (ownOf scope C).any (fun p => decide (p.1 = y.1)) || !C.N.contains y.1
    | .cell => (ownOf scope C).any (fun p => decide (p.1 = y.1)) || !C.N.contains y.1
    | _ => true)

def compE : Nat → Ctx → Expr → CE
  | 0, _, _ => .bad
  | n + 1, C, e => match e with
    | .Constant c _ _ => (match constD c with
      | some d => .cst d
      | none => .bad)
    | .Name x _ => (match C.slot x with
      | some i => .slot i
      | none => if C.glob x then (match C.cons.lookup x with
        | some d => .cst d
        | none => .bad) else .bad)
    | .Tuple es _ _ => .tup (listF (compE n) C es)
    | .List es _ => .lst (listF (compE n) C es)
    | .Dict ks vs _ => if ks.all (·.isSome) && decide (ks.length = vs.length) && !ks.isEmpty && decide (ks.length ≤ 15) then
        .dct ((ks.map (optF (compE n C))).zip (vs.map (compE n C))) else if ks.isEmpty && vs.isEmpty then .dct [] else .bad
    | .BinOp a op b _ => (match op, a, b with
      | .Pow, .Constant (.int i) _ _, .Constant (.int j) _ _ => if 0 ≤ j ∧ j ≤ 100 ∧ i.natAbs < 1000 then .cst (.int (i ^ j.toNat)) else .bad
      | _, _, _ => match opOf op with
        | some o => .bin o (compE n C a) (compE n C b)
        | none => .bad)
    | .UnaryOp .USub a _ => .neg (compE n C a)
    | .UnaryOp .Not a _ => .not (compE n C a)
    | .BoolOp op es _ => boolF op (es.map (compE n C))
    | .IfExp c a b _ => .ite (compE n C c) (compE n C a) (compE n C b)
    | .Compare a [op] [b] _ => (match cmpOf op with
      | some o => if isSet b then .bad else .cmp o (compE n C a) (compE n C b)
      | none => .bad)
    | .Compare a [op, op'] [b, c] _ => (match cmpOf op, cmpOf op' with
      | some o, some o' => if isSet c then .bad else .chain o o' (compE n C a) (compE n C b) (compE n C c)
      | _, _ => .bad)
    | .Subscript a i _ => subF (compE n) C a i
    | .Call (.Name x _) es [] _ => callF (compE n) C x es
    | .ListComp elt [⟨t, it, ifs, 0⟩] scope _ =>
      if blkB scope C then .comp (compE n (relC scope C) elt) (tgtF (compE n) 6 (relC scope C) t) (iterF (compE n) C (isTup t) it) (ifs.map (compE n (relC scope C))) ((ownOf scope C).map (·.2)) else .bad
    | _ => .bad

/-- a, b = x, y: plain local names on one line -/
def parNames (C : Ctx) (line : Nat) : List Expr → Option (List Nat)
  | [] => some []
  | .Name x pos :: r => if pos.line == line && decide (C.sc.names.lookup x = some .local) then (C.tslot x).bind fun i => (parNames C line r).map (i :: ·) else none
  | _ => none
def parF (f : CEF) (C : Ctx) (ts vs : List Expr) : CS :=
  if (ts.length == 2 || ts.length == 3) && vs.length == ts.length && !vs.any isStar && !vs.all (foldedForSure 8) && !vs.all (constantsAlone 8) then
    (match parNames C ((ts.head?.map (·.pos.line)).getD 0) ts with
    | some is => if decide is.Nodup then .par is (vs.map (f C)) else .bad
    | none => .bad)
  else .bad
def compS : Nat → Ctx → Stmt → CS
  | 0, _, _ => .bad
  | n + 1, C, s => match s with
    | .Expr e _ => if isComp e then .bad else .ex (compE n C e)
    | .Assign [t] e _ => (match t, e with
      | .Tuple ts _ _, .Tuple vs _ _ => parF (compE n) C ts vs
      | .List _ _, _ => .bad
      | .Starred _ _, _ => .bad
      | .Name x _, .ListComp elt gs scope p => (match C.tslot x with
        | some i => .asg (.slot i) (compE n C (.ListComp elt gs scope p))
        | none => .bad)
      | t, e => .asg (tgtF (compE n) 6 C t) (compE n C e))
    | .Return (some e) _ => .ret (compE n C e)
    | .Return none _ => .ret (.cst .non)
    | .If c a b _ => .cond (compE n C c) (a.map (compS n C)) (b.map (compS n C))
    | .For t it b [] _ => .loop (tgtF (compE n) 6 C t) (iterF (compE n) C (isTup t) it) (b.map (compS n C))
    | .While c b [] _ => .while (compE n C c) (b.map (compS n C))
    | .Break _ => .brk
    | .Continue _ => .cont
    | .Pass _ => .pass
    | _ => .bad

/-! the names of a def: parameters, its own, those of its comprehensions -/
def ownN (sc : Scope) : List Str := sc.names.filterMap fun p => match p.2 with
  | .local => if p.1 = (".0" : Str) then none else some p.1
  | .cell => some p.1
  | _ => none
def optN (f : Expr → List Str) (e : Option Expr) : List Str := match e with
  | some e => f e
  | none => []
def genN (f : Expr → List Str) (g : Comprehension) : List Str := f g.iter ++ g.ifs.flatMap f
def compNames : Nat → Expr → List Str
  | 0, _ => []
  | n + 1, e => match e with
    | .Tuple es _ _ => es.flatMap (compNames n)
    | .List es _ => es.flatMap (compNames n)
    | .Dict ks vs _ => ks.flatMap (fun k => match k with | some k => compNames n k | none => []) ++ vs.flatMap (compNames n)
    | .BinOp a _ b _ => compNames n a ++ compNames n b
    | .UnaryOp _ a _ => compNames n a
    | .BoolOp _ es _ => es.flatMap (compNames n)
    | .IfExp c a b _ => compNames n c ++ compNames n a ++ compNames n b
    | .Compare a _ bs _ => compNames n a ++ bs.flatMap (compNames n)
    | .Subscript a i _ => compNames n a ++ compNames n i
    | .Slice a b c _ => optN (compNames n) a ++ optN (compNames n) b ++ optN (compNames n) c
    | .Call f es _ _ => compNames n f ++ es.flatMap (compNames n)
    | .ListComp a gs sc _ => ownN sc ++ compNames n a ++ gs.flatMap (genN (compNames n))
    | _ => []
def stmtNames : Nat → Stmt → List Str
  | 0, _ => []
  | n + 1, s => match s with
    | .Expr e _ => compNames n e
    | .Assign ts e _ => ts.flatMap (compNames n) ++ compNames n e
    | .Return (some e) _ => compNames n e
    | .If c a b _ => compNames n c ++ a.flatMap (stmtNames n) ++ b.flatMap (stmtNames n)
    | .For _ it b _ _ => compNames n it ++ b.flatMap (stmtNames n)
    | .While c b _ _ => compNames n c ++ b.flatMap (stmtNames n)
    | _ => []
def dedupS : List Str → List Str → List Str
  | acc, [] => acc
  | acc, x :: xs => if acc.contains x then dedupS acc xs else dedupS (acc ++ [x]) xs
def paramsOf (a : Arguments) : List Str := a.args.map (·.arg)
def namesOf (a : Arguments) (sc : Scope) (body : List Stmt) : List Str :=
  dedupS [] (paramsOf a ++ (sc.names.filterMap fun p => match p.2 with | .local => some p.1 | .cell => some p.1 | _ => none) ++ body.flatMap (stmtNames 60))

/-- a def of the text -/
structure Item where
  name : Str
  args : Arguments
  body : List Stmt
  sc : Scope
  deriving Inhabited
def arrB (a : Arguments) (sc : Scope) (b : List Stmt) : Bool :=
  a.posonlyargs.isEmpty && a.kwonlyargs.isEmpty && a.vararg.isNone && a.kwarg.isNone && a.defaults.isEmpty &&
  decide (sc.kind = .function) && !sc.isCoroutine && !sc.isGenerator && decide (namesOf a sc b).Nodup && decide ((namesOf a sc b).take (paramsOf a).length = paramsOf a) &&
  (paramsOf a).all (fun x => decide (sc.names.lookup x = some .local ∨ sc.names.lookup x = some .cell)) && sc.names.all (fun y => decide (y.2 ≠ .free))
def itemOf (st : Stmt) : Option Item := match st with
  | .FunctionDef name a b [] _ _ sc _ _ _ => if arrB a sc b then some ⟨name, a, b, sc⟩ else none
  | _ => none
/-- whole numbers and strings that stand in the module -/
def numD : Const → Option D
  | .int i => some (.int i)
  | .str x => some (.str x)
  | _ => none
def consOf (st : Stmt) : List (Str × D) := match st with
  | .Assign [.Name x _] (.Constant c _ _) _ => if x = ("__name__" : Str) then [] else (numD c).toList.map fun d => (x, d)
  | _ => []
def allBlts : List Str := ["len", "sum", "all", "any", "abs", "min", "max", "list", "tuple", "int", "bool", "str", "dict", "isinstance", "range", "enumerate", "zip"]
structure Tab where
  items : List Item
  cons : List (Str × D)
def tabOf (top : List Stmt) : Tab := ⟨top.filterMap itemOf, top.flatMap consOf⟩
def Tab.ctx (T : Tab) (it : Item) : Ctx := { funs := (T.items.map (·.name)).zipIdx, cons := T.cons, blts := allBlts, N := namesOf it.args it.sc it.body, sc := it.sc, wr := none }
def Tab.def_ (T : Tab) (it : Item) : CDef :=
  { name := it.name, nps := (paramsOf it.args).length, n := (namesOf it.args it.sc it.body).length, body := it.body.map (compS 60 (T.ctx it)) }
def Tab.prog (T : Tab) : CProg := ⟨T.items.map T.def_⟩
def runLaw (P : CProg) (ns : List Int) : Res D :=
  match P.defs.findIdx? fun d => d.name == ("law" : Str) with
  | some f => (fns P 60).call f [.ref 0] [.frz (ns.map D.int)]
  | none => .bad
def isTrue (r : Res D) : Bool := match r with
  | .ok (.bl b) _ => b
  | _ => false
end Kin
end
section
set_option linter.all false
set_option maxRecDepth 100000
/-! Kin 3: how data stand in the heap of the hand layer; readings. -/
namespace Kin
open PySem PySem.Spec PyProof.Rows L2
abbrev St := L2.St

mutual
def RV (ρ : List Addr) (H : Hp) : D → V → Prop
  | .non, v => v = .non
  | .bl b, v => v = .bl b
  | .int i, v => v = .int i
  | .str x, v => v = .str x
  | .tup ds, v => ∃ a vs, v = .ref a ∧ H a = some (.tup vs) ∧ RVs ρ H ds vs
  | .ref n, v => ∃ a, ρ[n]? = some a ∧ v = .ref a
def RVs (ρ : List Addr) (H : Hp) : List D → List V → Prop
  | [], vs => vs = []
  | d :: ds, vs => ∃ v r, vs = v :: r ∧ RV ρ H d v ∧ RVs ρ H ds r
end
def RKs (ρ : List Addr) (H : Hp) : List (L2.Key × D) → List (L2.Key × V) → Prop
  | [], vs => vs = []
  | (k, d) :: ds, vs => ∃ v r, vs = (k, v) :: r ∧ RV ρ H d v ∧ RKs ρ H ds r

/-- what is never written -/
def Still : HO → Prop
  | .tup _ => True
  | .rng _ _ => True
  | .xd _ => True
  | .own _ => True
  | _ => False
/-- what is behind: numbers are put behind; what is still, and what has no number, stays -/
structure Ext (ρ : List Addr) (H : Hp) (ρ' : List Addr) (H' : Hp) : Prop where
  pre : ∃ t, ρ' = ρ ++ t ∧ ∀ a ∈ t, H a = none
  still : ∀ a o, Still o → H a = some o → H' a = some o
  keep : ∀ a o, a ∉ ρ → H a = some o → H' a = some o
  dom : ∀ a, H' a = none → H a = none
theorem Ext.refl {ρ : List Addr} {H : Hp} : Ext ρ H ρ H := ⟨⟨[], by simp⟩, fun _ _ _ h => h, fun _ _ _ h => h, fun _ h => h⟩
theorem Ext.trans {ρ ρ1 ρ2 : List Addr} {H H1 H2 : Hp} (a : Ext ρ H ρ1 H1) (b : Ext ρ1 H1 ρ2 H2) : Ext ρ H ρ2 H2 := by
  obtain ⟨⟨t, e, f⟩, s1, k1, d1⟩ := a
  obtain ⟨⟨u, e', f'⟩, s2, k2, d2⟩ := b
  subst e e'
  refine ⟨⟨t ++ u, by simp, fun x hx => ?_⟩, fun x o s h => s2 x o s (s1 x o s h), fun x o n h => k2 x o ?_ (k1 x o n h), fun x h => d1 x (d2 x h)⟩
  · rcases List.mem_append.mp hx with hx | hx
    · exact f x hx
    · exact d1 x (f' x hx)
  · intro hx
    rcases List.mem_append.mp hx with hx | hx
    · exact n hx
    · have := f x hx
      rw [h] at this
      cases this
theorem Ext.at {ρ ρ' : List Addr} {H H' : Hp} (e : Ext ρ H ρ' H') {n : Nat} {a : Addr} (h : ρ[n]? = some a) : ρ'[n]? = some a := by
  obtain ⟨⟨t, rfl, _⟩, _⟩ := e
  have := (List.getElem?_eq_some_iff.mp h).1
  rw [List.getElem?_append_left this]
  exact h
section
variable {ρ ρ' : List Addr} {H H' : Hp}
/-- what readings need of it -/
structure Ex2 (ρ : List Addr) (H : Hp) (ρ' : List Addr) (H' : Hp) : Prop where
  at_ : ∀ (n : Nat) (a : Addr), ρ[n]? = some a → ρ'[n]? = some a
  still : ∀ a o, Still o → H a = some o → H' a = some o
theorem Ext.ex (x : Ext ρ H ρ' H') : Ex2 ρ H ρ' H' := ⟨fun _ _ h => x.at h, x.still⟩
mutual
theorem RV.mono2 (x : Ex2 ρ H ρ' H') : ∀ (d : D) (v : V), RV ρ H d v → RV ρ' H' d v
  | .non, _, h => by simp only [RV] at h ⊢; exact h
  | .bl _, _, h => by simp only [RV] at h ⊢; exact h
  | .int _, _, h => by simp only [RV] at h ⊢; exact h
  | .str _, _, h => by simp only [RV] at h ⊢; exact h
  | .tup ds, v, h => by
    simp only [RV] at h ⊢
    obtain ⟨a, vs, e, q, r⟩ := h
    exact ⟨a, vs, e, x.still _ _ trivial q, RVs.mono2 x ds vs r⟩
  | .ref n, v, h => by
    simp only [RV] at h ⊢
    obtain ⟨a, q, e⟩ := h
    exact ⟨a, x.at_ _ _ q, e⟩
theorem RVs.mono2 (x : Ex2 ρ H ρ' H') : ∀ (ds : List D) (vs : List V), RVs ρ H ds vs → RVs ρ' H' ds vs
  | [], _, h => by simp only [RVs] at h ⊢; exact h
  | d :: ds, vs, h => by
    simp only [RVs] at h ⊢
    obtain ⟨v, r, e, q, t⟩ := h
    exact ⟨v, r, e, RV.mono2 x d v q, RVs.mono2 x ds r t⟩
end
theorem RV.mono (x : Ext ρ H ρ' H') (d : D) (v : V) (h : RV ρ H d v) : RV ρ' H' d v := RV.mono2 x.ex d v h
theorem RVs.mono (x : Ext ρ H ρ' H') (d : List D) (v : List V) (h : RVs ρ H d v) : RVs ρ' H' d v := RVs.mono2 x.ex d v h
theorem RKs.mono2 (x : Ex2 ρ H ρ' H') : ∀ (ds : List (L2.Key × D)) (vs : List (L2.Key × V)), RKs ρ H ds vs → RKs ρ' H' ds vs
  | [], _, h => by simp only [RKs] at h ⊢; exact h
  | (k, d) :: ds, vs, h => by
    simp only [RKs] at h ⊢
    obtain ⟨v, r, e, q, t⟩ := h
    exact ⟨v, r, e, RV.mono2 x d v q, RKs.mono2 x ds r t⟩
theorem RKs.mono (x : Ext ρ H ρ' H') : ∀ (ds : List (L2.Key × D)) (vs : List (L2.Key × V)), RKs ρ H ds vs → RKs ρ' H' ds vs
  | [], _, h => by simp only [RKs] at h ⊢; exact h
  | (k, d) :: ds, vs, h => by
    simp only [RKs] at h ⊢
    obtain ⟨v, r, e, q, t⟩ := h
    exact ⟨v, r, e, RV.mono x d v q, RKs.mono x ds r t⟩
theorem RVs.length : ∀ {ds : List D} {vs : List V}, RVs ρ H ds vs → vs.length = ds.length
  | [], _, h => by simp only [RVs] at h; rw [h]; rfl
  | d :: ds, vs, h => by
    simp only [RVs] at h
    obtain ⟨v, r, e, _, t⟩ := h
    rw [e, List.length_cons, List.length_cons, RVs.length t]
theorem RVs.get : ∀ {ds : List D} {vs : List V} {i : Nat} {d : D}, RVs ρ H ds vs → ds[i]? = some d → ∃ v, vs[i]? = some v ∧ RV ρ H d v
  | [], _, i, d, _, h => by simp at h
  | x :: ds, vs, 0, d, h, e => by
    simp only [RVs] at h
    obtain ⟨v, r, e1, q, _⟩ := h
    simp at e
    subst e
    exact ⟨v, by rw [e1]; rfl, q⟩
  | x :: ds, vs, i + 1, d, h, e => by
    simp only [RVs] at h
    obtain ⟨v, r, e1, _, t⟩ := h
    obtain ⟨w, a, b⟩ := RVs.get (i := i) t (by simpa using e)
    exact ⟨w, by rw [e1]; simpa using a, b⟩
theorem RVs.append : ∀ {ds es : List D} {vs ws : List V}, RVs ρ H ds vs → RVs ρ H es ws → RVs ρ H (ds ++ es) (vs ++ ws)
  | [], _, vs, _, h, k => by simp only [RVs] at h; rw [h]; exact k
  | d :: ds, es, vs, ws, h, k => by
    simp only [RVs] at h
    obtain ⟨v, r, e, q, t⟩ := h
    rw [e]
    simp only [List.cons_append, RVs]
    exact ⟨v, r ++ ws, rfl, q, RVs.append t k⟩
theorem RVs.one {d : D} {v : V} (h : RV ρ H d v) : RVs ρ H [d] [v] := by
  simp only [RVs]
  exact ⟨v, [], rfl, h, rfl⟩
theorem RVs.of_get : ∀ {ds : List D} {vs : List V}, vs.length = ds.length → (∀ (i : Nat) d v, ds[i]? = some d → vs[i]? = some v → RV ρ H d v) → RVs ρ H ds vs
  | [], vs, hl, _ => by
    simp only [RVs]
    exact List.length_eq_zero_iff.mp (by simpa using hl)
  | d :: ds, [], hl, _ => by simp at hl
  | d :: ds, v :: vs, hl, h => by
    simp only [RVs]
    exact ⟨v, vs, rfl, h 0 d v rfl rfl, RVs.of_get (by simpa using hl) fun i d' v' a b => h (i + 1) d' v' (by simpa using a) (by simpa using b)⟩
theorem RVs.take {ds : List D} {vs : List V} (n : Nat) (h : RVs ρ H ds vs) : RVs ρ H (ds.take n) (vs.take n) := by
  refine RVs.of_get (by simp [h.length]) fun i d v a b => ?_
  rw [List.getElem?_take] at a b
  split at a
  · rename_i hi
    rw [if_pos hi] at b
    obtain ⟨w, c, r⟩ := h.get a
    rw [b] at c
    cases c
    exact r
  · cases a
theorem RVs.drop {ds : List D} {vs : List V} (n : Nat) (h : RVs ρ H ds vs) : RVs ρ H (ds.drop n) (vs.drop n) := by
  refine RVs.of_get (by simp [h.length]) fun i d v a b => ?_
  rw [List.getElem?_drop] at a b
  obtain ⟨w, c, r⟩ := h.get a
  rw [b] at c
  cases c
  exact r
theorem RVs.set {ds : List D} {vs : List V} {d : D} {v : V} (n : Nat) (h : RVs ρ H ds vs) (r : RV ρ H d v) : RVs ρ H (ds.set n d) (vs.set n v) := by
  refine RVs.of_get (by simp [h.length]) fun i d' v' a b => ?_
  rw [List.getElem?_set] at a b
  split at a
  · rename_i hi
    rw [if_pos hi] at b
    split at a
    · rename_i hj
      rw [if_pos (by rw [h.length]; exact hj)] at b
      cases a
      cases b
      exact r
    · cases a
  · rename_i hi
    rw [if_neg hi] at b
    obtain ⟨w, c, r'⟩ := h.get a
    rw [b] at c
    cases c
    exact r'
theorem RVs.dropLast {ds : List D} {vs : List V} (h : RVs ρ H ds vs) : RVs ρ H ds.dropLast vs.dropLast := by
  rw [List.dropLast_eq_take, List.dropLast_eq_take, h.length]
  exact h.take _
theorem RVs.reverse {ds : List D} {vs : List V} (h : RVs ρ H ds vs) : RVs ρ H ds.reverse vs.reverse := by
  refine RVs.of_get (by simp [h.length]) fun i d v a b => ?_
  have hl := (List.getElem?_eq_some_iff.mp a).1
  have hl2 := (List.getElem?_eq_some_iff.mp b).1
  rw [List.length_reverse] at hl hl2
  rw [List.getElem?_reverse hl] at a
  rw [List.getElem?_reverse hl2] at b
  obtain ⟨w, c, r⟩ := h.get a
  rw [h.length] at b
  rw [b] at c
  cases c
  exact r
theorem RVs.replicate {ds : List D} {vs : List V} (h : RVs ρ H ds vs) : ∀ n, RVs ρ H (List.replicate n ds).flatten (List.replicate n vs).flatten
  | 0 => by simp [RVs]
  | n + 1 => by
    rw [List.replicate_succ, List.replicate_succ, List.flatten_cons, List.flatten_cons]
    exact h.append (RVs.replicate h n)
theorem RVs.isEmpty {ds : List D} {vs : List V} (h : RVs ρ H ds vs) : vs.isEmpty = ds.isEmpty := by
  have := h.length
  cases ds <;> cases vs <;> simp_all
theorem RKs.length : ∀ {ds : List (L2.Key × D)} {vs : List (L2.Key × V)}, RKs ρ H ds vs → vs.length = ds.length
  | [], _, h => by simp only [RKs] at h; rw [h]; rfl
  | (k, d) :: ds, vs, h => by
    simp only [RKs] at h
    obtain ⟨v, r, e, _, t⟩ := h
    rw [e, List.length_cons, List.length_cons, RKs.length t]

theorem nodup_at {l : List Addr} (h : l.Nodup) {i j : Nat} (hi : i < l.length) (hj : j < l.length) (e : l[i] = l[j]) : i = j := by
  have p := List.pairwise_iff_getElem.mp h
  rcases Nat.lt_trichotomy i j with q | q | q
  · exact (p i j hi hj q e).elim
  · exact q
  · exact (p j i hj hi q e.symm).elim
/-- an object and its number -/
def RO (ρ : List Addr) (H : Hp) (a : Addr) : AO → Prop
  | .lst ds => ∃ vs, H a = some (.lst vs) ∧ RVs ρ H ds vs
  | .frz ds => ∃ o vs, H a = some (.frz o (.lst vs)) ∧ RVs ρ H ds vs
  | .dct kvs => ∃ ws, H a = some (.dK ws) ∧ RKs ρ H kvs ws
theorem RO.there {a : Addr} {o : AO} (h : RO ρ H a o) : ∃ u, H a = some u ∧ ¬ Still u := by
  cases o with
  | lst ds => obtain ⟨vs, e, _⟩ := h; exact ⟨_, e, id⟩
  | frz ds => obtain ⟨o, vs, e, _⟩ := h; exact ⟨_, e, id⟩
  | dct ds => obtain ⟨vs, e, _⟩ := h; exact ⟨_, e, id⟩
theorem RO.mono {a : Addr} {o : AO} (x : Ext ρ H ρ' H') (e : H' a = H a) (h : RO ρ H a o) : RO ρ' H' a o := by
  cases o with
  | lst ds => obtain ⟨vs, q, r⟩ := h; exact ⟨vs, e.trans q, RVs.mono x _ _ r⟩
  | frz ds => obtain ⟨o, vs, q, r⟩ := h; exact ⟨o, vs, e.trans q, RVs.mono x _ _ r⟩
  | dct ds => obtain ⟨vs, q, r⟩ := h; exact ⟨vs, e.trans q, RKs.mono x _ _ r⟩
theorem RO.mono2 {a : Addr} {o : AO} (x : Ex2 ρ H ρ' H') (e : H' a = H a) (h : RO ρ H a o) : RO ρ' H' a o := by
  cases o with
  | lst ds => obtain ⟨vs, q, r⟩ := h; exact ⟨vs, e.trans q, RVs.mono2 x _ _ r⟩
  | frz ds => obtain ⟨o, vs, q, r⟩ := h; exact ⟨o, vs, e.trans q, RVs.mono2 x _ _ r⟩
  | dct ds => obtain ⟨vs, q, r⟩ := h; exact ⟨vs, e.trans q, RKs.mono2 x _ _ r⟩
structure Sim (ρ : List Addr) (A : AH) (H : Hp) : Prop where
  len : ρ.length = A.length
  nd : ρ.Nodup
  at_ : ∀ (n : Nat) (a : Addr) (o : AO), ρ[n]? = some a → A[n]? = some o → RO ρ H a o
theorem Sim.mem {A : AH} (s : Sim ρ A H) {a : Addr} (h : a ∈ ρ) : ∃ u, H a = some u ∧ ¬ Still u := by
  obtain ⟨n, hn, e⟩ := List.mem_iff_getElem.mp h
  have h1 : ρ[n]? = some a := by rw [List.getElem?_eq_getElem hn, e]
  have h2 : n < A.length := s.len ▸ hn
  exact (s.at_ n a A[n] h1 (List.getElem?_eq_getElem h2)).there
theorem Sim.addr {A : AH} (s : Sim ρ A H) {n : Nat} {o : AO} (h : A[n]? = some o) : ∃ a, ρ[n]? = some a ∧ RO ρ H a o := by
  have h2 : n < ρ.length := s.len ▸ (List.getElem?_eq_some_iff.mp h).1
  exact ⟨ρ[n], List.getElem?_eq_getElem h2, s.at_ n _ o (List.getElem?_eq_getElem h2) h⟩
/-- something new without a number -/
theorem Ext.lay {p : Addr} {o : HO} (h : H p = none) : Ext ρ H ρ (upd H p o) := by
  refine ⟨⟨[], by simp⟩, fun a u _ e => ?_, fun a u _ e => ?_, fun a e => ?_⟩
  · rw [upd_ne (ne_of_none e h)]; exact e
  · rw [upd_ne (ne_of_none e h)]; exact e
  · by_cases q : a = p
    · subst q; exact h
    · rw [upd_ne q] at e; exact e
theorem Sim.lay {A : AH} {p : Addr} {o : HO} (s : Sim ρ A H) (h : H p = none) : Sim ρ A (upd H p o) := by
  refine ⟨s.len, s.nd, fun n a u e1 e2 => ?_⟩
  have r := s.at_ n a u e1 e2
  obtain ⟨w, q, _⟩ := r.there
  exact r.mono (Ext.lay h) (upd_ne (ne_of_none q h))
/-- what is there gets a number -/
theorem Ext.reg {ρ0 : List Addr} {H0 : Hp} {p : Addr} (x : Ext ρ0 H0 ρ H) (h0 : H0 p = none) : Ext ρ0 H0 (ρ ++ [p]) H := by
  obtain ⟨⟨t, e, f⟩, s, k, d⟩ := x
  refine ⟨⟨t ++ [p], by rw [e, List.append_assoc], fun a ha => ?_⟩, s, k, d⟩
  rcases List.mem_append.mp ha with ha | ha
  · exact f a ha
  · rw [List.mem_singleton.mp ha]; exact h0

mutual
theorem RV.more {p : Addr} : ∀ (d : D) (v : V), RV ρ H d v → RV (ρ ++ [p]) H d v
  | .non, _, h => by simp only [RV] at h ⊢; exact h
  | .bl _, _, h => by simp only [RV] at h ⊢; exact h
  | .int _, _, h => by simp only [RV] at h ⊢; exact h
  | .str _, _, h => by simp only [RV] at h ⊢; exact h
  | .tup ds, v, h => by
    simp only [RV] at h ⊢
    obtain ⟨a, vs, e, q, r⟩ := h
    exact ⟨a, vs, e, q, RVs.more ds vs r⟩
  | .ref n, v, h => by
    simp only [RV] at h ⊢
    obtain ⟨a, q, e⟩ := h
    have := (List.getElem?_eq_some_iff.mp q).1
    exact ⟨a, by rw [List.getElem?_append_left this]; exact q, e⟩
theorem RVs.more {p : Addr} : ∀ (ds : List D) (vs : List V), RVs ρ H ds vs → RVs (ρ ++ [p]) H ds vs
  | [], _, h => by simp only [RVs] at h ⊢; exact h
  | d :: ds, vs, h => by
    simp only [RVs] at h ⊢
    obtain ⟨v, r, e, q, t⟩ := h
    exact ⟨v, r, e, RV.more d v q, RVs.more ds r t⟩
end
theorem RKs.more {p : Addr} : ∀ (ds : List (L2.Key × D)) (vs : List (L2.Key × V)), RKs ρ H ds vs → RKs (ρ ++ [p]) H ds vs
  | [], _, h => by simp only [RKs] at h ⊢; exact h
  | (k, d) :: ds, vs, h => by
    simp only [RKs] at h ⊢
    obtain ⟨v, r, e, q, t⟩ := h
    exact ⟨v, r, e, RV.more d v q, RKs.more ds r t⟩
theorem RO.more {p a : Addr} {o : AO} (h : RO ρ H a o) : RO (ρ ++ [p]) H a o := by
  cases o with
  | lst ds => obtain ⟨vs, q, r⟩ := h; exact ⟨vs, q, RVs.more _ _ r⟩
  | frz ds => obtain ⟨o, vs, q, r⟩ := h; exact ⟨o, vs, q, RVs.more _ _ r⟩
  | dct ds => obtain ⟨vs, q, r⟩ := h; exact ⟨vs, q, RKs.more _ _ r⟩
theorem Sim.reg {A : AH} {p : Addr} {o : AO} (s : Sim ρ A H) (hp : p ∉ ρ) (h : RO ρ H p o) : Sim (ρ ++ [p]) (A ++ [o]) H := by
  refine ⟨by simp [s.len], ?_, fun n a u e1 e2 => ?_⟩
  · rw [List.nodup_append]
    exact ⟨s.nd, by simp, fun a ha b hb => by rw [List.mem_singleton.mp hb]; intro e; exact hp (e ▸ ha)⟩
  · by_cases hn : n < ρ.length
    · rw [List.getElem?_append_left hn] at e1
      rw [List.getElem?_append_left (s.len ▸ hn)] at e2
      exact (s.at_ n a u e1 e2).more
    · have e : n = ρ.length := by
        have := (List.getElem?_eq_some_iff.mp e1).1
        rw [List.length_append, List.length_singleton] at this
        omega
      subst e
      rw [List.getElem?_append_right (Nat.le_refl _)] at e1
      rw [s.len, List.getElem?_append_right (Nat.le_refl _)] at e2
      simp at e1 e2
      subst e1 e2
      exact h.more
/-- a new object gets a number -/
theorem Sim.new_ {A : AH} {p : Addr} {ho : HO} {o : AO} (s : Sim ρ A H) (h : H p = none) (r : RO ρ (upd H p ho) p o) : Sim (ρ ++ [p]) (A ++ [o]) (upd H p ho) :=
  (s.lay h).reg (fun hp => by
    obtain ⟨u, e, _⟩ := s.mem hp
    rw [h] at e
    cases e) r
/-- an object is written -/
theorem Ext.put {A : AH} {a : Addr} {ho : HO} (s : Sim ρ A H) (ha : a ∈ ρ) : Ext ρ H ρ (upd H a ho) := by
  obtain ⟨u, e, ns⟩ := s.mem ha
  refine ⟨⟨[], by simp⟩, fun b o st h => ?_, fun b o hb h => ?_, fun b h => ?_⟩
  · by_cases q : b = a
    · subst q
      rw [e] at h
      cases h
      exact (ns st).elim
    · rw [upd_ne q]; exact h
  · rw [upd_ne (fun q : b = a => hb (q.symm ▸ ha))]; exact h
  · by_cases q : b = a
    · subst q
      rw [upd_same] at h
      cases h
    · rw [upd_ne q] at h; exact h
theorem Sim.put {A : AH} {n : Nat} {a : Addr} {ho : HO} {o : AO} (s : Sim ρ A H) (hn : ρ[n]? = some a) (r : RO ρ (upd H a ho) a o) : Sim ρ (A.set n o) (upd H a ho) := by
  have ha : a ∈ ρ := List.mem_of_getElem? hn
  refine ⟨by simp [s.len], s.nd, fun k b u e1 e2 => ?_⟩
  by_cases q : k = n
  · subst q
    rw [hn] at e1
    cases e1
    have hl : k < A.length := s.len ▸ (List.getElem?_eq_some_iff.mp hn).1
    rw [List.getElem?_set_self hl] at e2
    cases e2
    exact r
  · rw [List.getElem?_set_ne (fun z => q z.symm)] at e2
    have hb : b ≠ a := by
      intro z
      subst z
      obtain ⟨h1, e1'⟩ := List.getElem?_eq_some_iff.mp e1
      obtain ⟨h2, e2'⟩ := List.getElem?_eq_some_iff.mp hn
      exact q (nodup_at s.nd h1 h2 (e1'.trans e2'.symm))
    exact (s.at_ k b u e1 e2).mono (Ext.put s ha) (upd_ne hb)
/-! something without a number is written, then gets one -/
theorem upd_ex2 {p : Addr} {u ho : HO} (h : H p = some u) (hu : ¬ Still u) : Ex2 ρ H (ρ ++ [p]) (upd H p ho) := by
  refine ⟨fun n a e => ?_, fun a o st e => ?_⟩
  · have := (List.getElem?_eq_some_iff.mp e).1
    rw [List.getElem?_append_left this]
    exact e
  · by_cases q : a = p
    · subst q
      rw [h] at e
      cases e
      exact (hu st).elim
    · rw [upd_ne q]; exact e
theorem upd_ex {p : Addr} {u ho : HO} (h : H p = some u) (hu : ¬ Still u) : Ex2 ρ H ρ (upd H p ho) := by
  refine ⟨fun n a e => e, fun a o st e => ?_⟩
  by_cases q : a = p
  · subst q
    rw [h] at e
    cases e
    exact (hu st).elim
  · rw [upd_ne q]; exact e
/-- it is written -/
theorem Sim.own {A : AH} {p : Addr} {u ho : HO} (s : Sim ρ A H) (hp : p ∉ ρ) (h : H p = some u) (hu : ¬ Still u) : Sim ρ A (upd H p ho) := by
  refine ⟨s.len, s.nd, fun n a o e1 e2 => ?_⟩
  have ha : a ≠ p := fun q => hp (q ▸ List.mem_of_getElem? e1)
  exact (s.at_ n a o e1 e2).mono2 (upd_ex h hu) (upd_ne ha)
theorem Ext.fin {p : Addr} {o1 o2 : HO} (x : Ext ρ (upd H p o1) ρ' H') (hp : H p = none) : Ext ρ H (ρ' ++ [p]) (upd H' p o2) := by
  obtain ⟨⟨t, e, f⟩, s, k, d⟩ := x
  refine ⟨⟨t ++ [p], by rw [e, List.append_assoc], fun a ha => ?_⟩, fun a o st h => ?_, fun a o n h => ?_, fun a h => ?_⟩
  · rcases List.mem_append.mp ha with ha | ha
    · have := f a ha
      by_cases q : a = p
      · rw [q]; exact hp
      · rw [upd_ne q] at this; exact this
    · rw [List.mem_singleton.mp ha]; exact hp
  · have q : a ≠ p := ne_of_none h hp
    rw [upd_ne q]
    exact s a o st (by rw [upd_ne q]; exact h)
  · have q : a ≠ p := ne_of_none h hp
    rw [upd_ne q]
    exact k a o n (by rw [upd_ne q]; exact h)
  · by_cases q : a = p
    · rw [q]; exact hp
    · rw [upd_ne q] at h
      have := d a h
      rw [upd_ne q] at this
      exact this
theorem Ext.new_not {p : Addr} {o1 : HO} (x : Ext ρ (upd H p o1) ρ' H') (hp : p ∉ ρ) : p ∉ ρ' := fun hm => by
  obtain ⟨t, et, ft⟩ := x.pre
  rw [et] at hm
  rcases List.mem_append.mp hm with hm | hm
  · exact hp hm
  · have := ft p hm
    rw [upd_same] at this
    cases this
theorem Sim.not_mem {A : AH} {p : Addr} (s : Sim ρ A H) (hp : H p = none) : p ∉ ρ := fun hm => by
  obtain ⟨u, e, _⟩ := s.mem hm
  rw [hp] at e
  cases e
end
end Kin
end
section
set_option linter.all false
set_option maxRecDepth 100000
/-! Kin 4: readings by the evaluator; the primitives. -/
namespace Kin
open PySem PySem.Spec PyProof.Rows L2

structure Gl where
  ca : Nat → Addr
  nm : Nat → Str
def RFs (G : Gl) (ρ : List Addr) (H : Hp) : Flds → List (Str × V) → Prop
  | [], vs => vs = []
  | (f, d) :: ds, vs => ∃ v r, vs = (G.nm f, v) :: r ∧ RV ρ H d v ∧ RFs G ρ H ds r
/-- the names -/
def RL (ρ : List Addr) (H : Hp) (L : Loc) (σ : St) : Prop := L.length = σ.length ∧ ∀ (i : Nat) (d : D), L[i]? = some (some d) → ∃ v, σ[i]? = some (some v) ∧ RV ρ H d v
/-- an error, as it lies -/
def RX (G : Gl) (ρ : List Addr) (H : Hp) (x : Ex) (cls : Value) (d : Option Addr) : Prop := cls = .ref (G.ca x.c) ∧ match d with
  | none => x.fs = []
  | some dx => ∃ ws, H dx = some (.xd ws) ∧ RFs G ρ H x.fs ws
section
variable {α β γ δ : Type}
abbrev Rel (α β : Type) : Type := List Addr → Hp → α → β → Prop
/-- what is wanted behind a result -/
def OutR (G : Gl) (R : Rel α β) (W : WX) (σ : St) (ρ : List Addr) (H : Hp) (Q : β → Hp → Prop) : Res α → Prop
  | .ok a A => ∀ ρ' H' v, Ext ρ H ρ' H' → Sim ρ' A H' → R ρ' H' a v → Q v H'
  | .exc x A => ∀ ρ' H' cls dx, Ext ρ H ρ' H' → Sim ρ' A H' → RX G ρ' H' x cls dx → W cls dx σ H'
  | .bad => False
def tR (G : Gl) (R : Rel α β) (W : WX) (m : Loc → AH → Res α) (σ : St) (H : Hp) (Q : β → Hp → Prop) : Prop := ∃ ρ A L, Sim ρ A H ∧ RL ρ H L σ ∧ OutR G R W σ ρ H Q (m L A)
variable {G : Gl} {R : Rel α β} {R' : Rel γ δ} {W : WX} {σ : St} {ρ ρ1 : List Addr} {H H1 : Hp} {Q : β → Hp → Prop} {Q' : δ → Hp → Prop}
theorem OutR.mono (x : Ext ρ H ρ1 H1) : ∀ {r : Res α}, OutR G R W σ ρ H Q r → OutR G R W σ ρ1 H1 Q r
  | .ok _ _, h => fun ρ' H' v e s r => h ρ' H' v (x.trans e) s r
  | .exc _ _, h => fun ρ' H' c d e s r => h ρ' H' c d (x.trans e) s r
  | .bad, h => h
theorem RL.mono (x : Ext ρ H ρ1 H1) {L : Loc} (h : RL ρ H L σ) : RL ρ1 H1 L σ := ⟨h.1, fun i d e => by
  obtain ⟨v, q, r⟩ := h.2 i d e
  exact ⟨v, q, RV.mono x d v r⟩⟩
theorem OutR.ok {a : α} {A : AH} {v : β} (h : OutR G R W σ ρ H Q (.ok a A)) (s : Sim ρ A H) (r : R ρ H a v) : Q v H := h ρ H v .refl s r
theorem OutR.imp {P : β → Hp → Prop} (k : ∀ v H', Q v H' → P v H') : ∀ {r : Res α}, OutR G R W σ ρ H Q r → OutR G R W σ ρ H P r
  | .ok _ _, h => fun ρ' H' v e s r => k _ _ (h ρ' H' v e s r)
  | .exc _ _, h => h
  | .bad, h => h
/-- first one, then what hangs on it -/
theorem OutR.bind {r : Res α} {k : α → AH → Res γ} (h : OutR G R' W σ ρ H Q' (r.bind k)) :
    OutR G R W σ ρ H (fun v H1 => ∃ ρ1 A1 x, Ext ρ H ρ1 H1 ∧ Sim ρ1 A1 H1 ∧ R ρ1 H1 x v ∧ OutR G R' W σ ρ1 H1 Q' (k x A1)) r := by
  cases r with
  | ok x A => exact fun ρ' H' v e s r => ⟨ρ', A, x, e, s, r, OutR.mono e h⟩
  | exc x A => exact h
  | bad => exact h
/-- the same, the wish as it stood ahead -/
theorem OutR.bind0 {r : Res α} {k : α → AH → Res γ} (x0 : Ext ρ H ρ1 H1) (h : OutR G R' W σ ρ H Q' (r.bind k)) :
    OutR G R W σ ρ1 H1 (fun v H2 => ∃ ρ2 A2 x, Ext ρ1 H1 ρ2 H2 ∧ Sim ρ2 A2 H2 ∧ R ρ2 H2 x v ∧ OutR G R' W σ ρ H Q' (k x A2)) r := by
  cases r with
  | ok x A => exact fun ρ' H' v e s r => ⟨ρ', A, x, e, s, r, h⟩
  | exc x A => exact fun ρ' H' c d e s r => h ρ' H' c d (x0.trans e) s r
  | bad => exact h
end
theorem _root_.L2.PE.imp {X : Cx} {e : Expr} {t t' : TE} (h : PE X e t) (k : ∀ σ H Q, t' σ H Q → t σ H Q) : PE X e t' := ⟨fun pins s σ H Q I q => h.run pins s σ H Q I (k σ H Q q)⟩
theorem _root_.L2.PT.imp {X : Cx} {e : Expr} {t t' : TT} (h : PT X e t) (k : ∀ σ H Q, t' σ H Q → t σ H Q) : PT X e t' := ⟨fun pins s σ H Q I q => h.run pins s σ H Q I (k σ H Q q)⟩
theorem _root_.L2.PW.imp {X : Cx} {e : Expr} {t t' : TT} (h : PW X e t) (k : ∀ σ H Q, t' σ H Q → t σ H Q) : PW X e t' := ⟨fun w pins s σ H Q I q => h.run w pins s σ H Q I (k σ H Q q)⟩
theorem _root_.L2.PA.imp {X : Cx} {es : List Expr} {t t' : TA} (h : PA X es t) (k : ∀ σ H Q, t' σ H Q → t σ H Q) : PA X es t' := ⟨fun p pins s σ H Q I q => h.run p pins s σ H Q I (k σ H Q q)⟩
theorem _root_.L2.PO.imp {X : Cx} {e : Option Expr} {t t' : TO} (h : PO X e t) (k : ∀ σ H Q, t' σ H Q → t σ H Q) : PO X e t' := ⟨fun pins s σ H Q I q => h.run pins s σ H Q I (k σ H Q q)⟩
theorem _root_.L2.PI.imp {X : Cx} {g e : Expr} {t t' : TI} (h : PI X g e t) (k : ∀ σ H Q, t' σ H Q → t σ H Q) : PI X g e t' := ⟨fun pins s σ H Q I q => h.run pins s σ H Q I (k σ H Q q)⟩
theorem _root_.L2.PG.imp {X : Cx} {e : Expr} {t t' : TG} (h : PG X e t) (k : ∀ v σ H Q, t' v σ H Q → t v σ H Q) : PG X e t' := ⟨fun pins s σ H v u Q I r q => h.run pins s σ H v u Q I r (k v σ H Q q)⟩
theorem _root_.L2.PGs.imp {X : Cx} {e : List Expr} {t t' : TGs} (h : PGs X e t) (k : ∀ v σ H Q, t' v σ H Q → t v σ H Q) : PGs X e t' := ⟨fun pins s σ H v u Q I r q => h.run pins s σ H v u Q I r (k v σ H Q q)⟩
theorem _root_.L2.PS.imp {X : Cx} {st : Stmt} {t t' : TS} (h : PS X st t) (k : ∀ D σ H, t' D σ H → t D σ H) : PS X st t' := ⟨fun pins s σ H D I q => h.run pins s σ H D I (k D σ H q)⟩
theorem _root_.L2.PSs.imp {X : Cx} {st : List Stmt} {t t' : TS} (h : PSs X st t) (k : ∀ D σ H, t' D σ H → t D σ H) : PSs X st t' := ⟨fun pins s σ H D I q => h.run pins s σ H D I (k D σ H q)⟩

/-! ### what new things do -/
section
variable {G : Gl} {W : WX} {σ : St} {ρ : List Addr} {H : Hp} {A : AH} {Q : VK}
theorem sim_lst {ds : List D} {vs : List V} {p : Addr} (s : Sim ρ A H) (r : RVs ρ H ds vs) (h : H p = none) : Sim (ρ ++ [p]) (A ++ [.lst ds]) (upd H p (.lst vs)) :=
  s.new_ h ⟨vs, upd_same, RVs.mono (Ext.lay h) _ _ r⟩
theorem ref_new {p : Addr} {H : Hp} (s : Sim ρ A H) {H' : Hp} : RV (ρ ++ [p]) H' (.ref A.length) (.ref p) := by
  simp only [RV]
  exact ⟨p, by rw [← s.len, List.getElem?_append_right (Nat.le_refl _)]; simp, rfl⟩
theorem out_lst {ds : List D} {vs : List V} (o : OutR G RV W σ ρ H Q (Res.of (some (new A (.lst ds))))) (s : Sim ρ A H) (r : RVs ρ H ds vs) : ∀ p, H p = none → Q (.ref p) (upd H p (.lst vs)) := fun p h =>
  o _ _ _ ((Ext.lay h).reg h) (sim_lst s r h) (ref_new s)
theorem out_tup {ds : List D} {vs : List V} (o : OutR G RV W σ ρ H Q (.ok (.tup ds) A)) (s : Sim ρ A H) (r : RVs ρ H ds vs) : ∀ p, H p = none → Q (.ref p) (upd H p (.tup vs)) := fun p h =>
  o _ _ _ (Ext.lay h) (s.lay h) (by
    simp only [RV]
    exact ⟨p, vs, rfl, upd_same, RVs.mono (Ext.lay h) _ _ r⟩)
theorem out_put {n : Nat} {a : Addr} {ho : HO} {ao : AO} {d : D} {v : V} (o : OutR G RV W σ ρ H Q (.ok d (A.set n ao))) (s : Sim ρ A H) (hn : ρ[n]? = some a) (ro : RO ρ (upd H a ho) a ao) (r : RV ρ (upd H a ho) d v) : Q v (upd H a ho) :=
  o _ _ _ (Ext.put s (List.mem_of_getElem? hn)) (s.put hn ro) r
end

/-! ### what data are -/
section
variable {ρ : List Addr} {H : Hp} {A : AH} {K : PySem.W.Frag}
theorem rv_ref {n : Nat} {v : V} {o : AO} (s : Sim ρ A H) (r : RV ρ H (.ref n) v) (h : A[n]? = some o) : ∃ a, ρ[n]? = some a ∧ v = .ref a ∧ RO ρ H a o := by
  simp only [RV] at r
  obtain ⟨a, e, q⟩ := r
  exact ⟨a, e, q, s.at_ n a o e h⟩
theorem seqOf_at {d : D} {ds : List D} {v : V} (s : Sim ρ A H) (r : RV ρ H d v) (h : seqOf d A = some ds) : ∃ a vs, v = .ref a ∧ RVs ρ H ds vs ∧ (SqL K H a vs ∨ SqT K H a vs) := by
  cases d with
  | tup es =>
    simp only [seqOf, Option.some.injEq] at h
    subst h
    simp only [RV] at r
    obtain ⟨a, vs, e, q, rs⟩ := r
    exact ⟨a, vs, e, rs, .inr (.of q)⟩
  | ref n =>
    simp only [seqOf] at h
    split at h
    · rename_i es e
      simp only [Option.some.injEq] at h
      subst h
      obtain ⟨a, _, q, vs, e2, rs⟩ := rv_ref s r e
      exact ⟨a, vs, q, rs, .inl (.of e2)⟩
    · rename_i es e
      simp only [Option.some.injEq] at h
      subst h
      obtain ⟨a, _, q, o, vs, e2, rs⟩ := rv_ref s r e
      exact ⟨a, vs, q, rs, .inl (.inl (.inr ⟨o, e2⟩))⟩
    · cases h
  | _ => simp [seqOf] at h
theorem lstOf_at {d : D} {ds : List D} {v : V} (s : Sim ρ A H) (r : RV ρ H d v) (h : lstOf d A = some ds) : ∃ a vs, v = .ref a ∧ RVs ρ H ds vs ∧ H a = some (.lst vs) := by
  cases d with
  | ref n =>
    simp only [lstOf] at h
    split at h
    · rename_i es e
      simp only [Option.some.injEq] at h
      subst h
      obtain ⟨a, _, q, vs, e2, rs⟩ := rv_ref s r e
      exact ⟨a, vs, q, rs, e2⟩
    · cases h
  | _ => simp [lstOf] at h
theorem atI_len {α β : Type} {xs : List α} {ys : List β} (h : ys.length = xs.length) {i : Int} {x : α} (e : L2.atI xs i = some x) : ∃ j : Nat, xs[j]? = some x ∧ ∀ y : β, ys[j]? = some y → L2.atI ys i = some y := by
  unfold L2.atI at e ⊢
  rw [h]
  cases q : ixN xs.length i with
  | none => rw [q] at e; cases e
  | some j =>
    rw [q] at e
    exact ⟨j, e, fun y hy => hy⟩
theorem RVs.atI {ds : List D} {vs : List V} {i : Int} {d : D} (r : RVs ρ H ds vs) (e : L2.atI ds i = some d) : ∃ v, L2.atI vs i = some v ∧ RV ρ H d v := by
  obtain ⟨j, h1, h2⟩ := atI_len r.length e
  obtain ⟨v, h3, h4⟩ := r.get h1
  exact ⟨v, h2 v h3, h4⟩
theorem RVs.cut {ds : List D} {vs : List V} (r : RVs ρ H ds vs) (lo hi : Option Int) : RVs ρ H (Kin.cut ds lo hi) (cutV vs lo hi) := by
  unfold Kin.cut cutV
  rw [r.length]
  exact (r.drop _).take _
theorem cut_all {α : Type} (xs : List α) (lo hi : Option Int) (h : HT.sIx xs.length 0 lo = 0 ∧ HT.sIx xs.length xs.length hi = xs.length) : Kin.cut xs lo hi = xs := by
  unfold Kin.cut
  rw [h.1, h.2]
  simp
theorem rvs_ints : ∀ {ds : List D} {vs : List V} {is : List Int}, RVs ρ H ds vs → intsD ds = some is → vs = is.map V.int
  | [], vs, is, r, h => by
    simp only [intsD, Option.some.injEq] at h
    simp only [RVs] at r
    subst h r
    rfl
  | .int i :: ds, vs, is, r, h => by
    simp only [intsD] at h
    cases e : intsD ds with
    | none => rw [e] at h; cases h
    | some js =>
      rw [e] at h
      simp only [Option.map_some, Option.some.injEq] at h
      simp only [RVs, RV] at r
      obtain ⟨v, t, rfl, rfl, rt⟩ := r
      subst h
      rw [rvs_ints rt e]
      rfl
  | .non :: _, _, _, _, h => by simp [intsD] at h
  | .bl _ :: _, _, _, _, h => by simp [intsD] at h
  | .str _ :: _, _, _, _, h => by simp [intsD] at h
  | .tup _ :: _, _, _, _, h => by simp [intsD] at h
  | .ref _ :: _, _, _, _, h => by simp [intsD] at h
theorem rvs_bls : ∀ {ds : List D} {vs : List V} {is : List Bool}, RVs ρ H ds vs → blsD ds = some is → vs = is.map V.bl
  | [], vs, is, r, h => by
    simp only [blsD, Option.some.injEq] at h
    simp only [RVs] at r
    subst h r
    rfl
  | .bl i :: ds, vs, is, r, h => by
    simp only [blsD] at h
    cases e : blsD ds with
    | none => rw [e] at h; cases h
    | some js =>
      rw [e] at h
      simp only [Option.map_some, Option.some.injEq] at h
      simp only [RVs, RV] at r
      obtain ⟨v, t, rfl, rfl, rt⟩ := r
      subst h
      rw [rvs_bls rt e]
      rfl
  | .non :: _, _, _, _, h => by simp [blsD] at h
  | .int _ :: _, _, _, _, h => by simp [blsD] at h
  | .str _ :: _, _, _, _, h => by simp [blsD] at h
  | .tup _ :: _, _, _, _, h => by simp [blsD] at h
  | .ref _ :: _, _, _, _, h => by simp [blsD] at h
theorem rv_flat {d : D} {v : V} (r : RV ρ H d v) (f : flatD d = true) : flatV v = true := by
  cases d <;> simp only [flatD, Bool.false_eq_true] at f <;> simp only [RV] at r <;> subst r <;> rfl
theorem rv_eqF {d e : D} {v u : V} (r : RV ρ H d v) (r2 : RV ρ H e u) (f : flatD d = true) (f2 : flatD e = true) : eqV v u = eqF d e := by
  cases d <;> simp only [flatD, Bool.false_eq_true] at f <;> cases e <;> simp only [flatD, Bool.false_eq_true] at f2 <;> simp only [RV] at r r2 <;> subst r r2 <;> rfl
theorem rvs_flat : ∀ {ds : List D} {vs : List V}, RVs ρ H ds vs → ds.all flatD = true → vs.all flatV = true
  | [], vs, r, _ => by simp only [RVs] at r; subst r; rfl
  | d :: ds, vs, r, h => by
    simp only [RVs] at r
    obtain ⟨v, t, rfl, rv, rt⟩ := r
    rw [List.all_cons, Bool.and_eq_true] at h ⊢
    exact ⟨rv_flat rv h.1, rvs_flat rt h.2⟩
theorem rvs_any {x : D} {u : V} (rx : RV ρ H x u) (fx : flatD x = true) : ∀ {ds : List D} {vs : List V}, RVs ρ H ds vs → ds.all flatD = true → (vs.any fun y => eqV y u) = ds.any fun z => eqF z x
  | [], vs, r, _ => by simp only [RVs] at r; subst r; rfl
  | d :: ds, vs, r, h => by
    simp only [RVs] at r
    obtain ⟨v, t, rfl, rv, rt⟩ := r
    rw [List.all_cons, Bool.and_eq_true] at h
    rw [List.any_cons, List.any_cons, rv_eqF rv rx h.1 fx, rvs_any rx fx rt h.2]
end
end Kin
end
section
set_option linter.all false
set_option maxRecDepth 100000
/-! Kin 5: the primitives over the hand layer. -/
namespace Kin
open PySem PySem.Spec PyProof.Rows L2

theorem lim_eq : lim = sizeLine := sizeLine_eq.symm
section
variable {α β : Type} {R : Rel α β} {G : Gl} {W : WX} {σ : St} {ρ : List Addr} {H : Hp} {A : AH} {Q' : β → Hp → Prop}
theorem out_of {p : Option (α × AH)} (o : OutR G R W σ ρ H Q' (Res.of p)) : ∃ d A', p = some (d, A') ∧ OutR G R W σ ρ H Q' (.ok d A') := by
  cases p with
  | none => exact (show False from o).elim
  | some q => exact ⟨q.1, q.2, rfl, o⟩
theorem out_of1 {p : Option α} (o : OutR G R W σ ρ H Q' (Res.of1 A p)) : ∃ d, p = some d ∧ OutR G R W σ ρ H Q' (.ok d A) := by
  cases p with
  | none => exact (show False from o).elim
  | some q => exact ⟨q, rfl, o⟩
end
section
variable {G : Gl} {W : WX} {σ : St} {ρ : List Addr} {H : Hp} {A : AH} {Q : VK} {X : Cx} {K : PySem.W.Frag}
theorem out_int {i : Int} (o : OutR G RV W σ ρ H Q (.ok (.int i) A)) (s : Sim ρ A H) : Q (.int i) H := OutR.ok o s (by simp only [RV])
theorem out_bl {i : Bool} (o : OutR G RV W σ ρ H Q (.ok (.bl i) A)) (s : Sim ρ A H) : Q (.bl i) H := OutR.ok o s (by simp only [RV])
theorem out_str {i : Str} (o : OutR G RV W σ ρ H Q (.ok (.str i) A)) (s : Sim ρ A H) : Q (.str i) H := OutR.ok o s (by simp only [RV])
theorem out_non (o : OutR G RV W σ ρ H Q (.ok .non A)) (s : Sim ρ A H) : Q .non H := OutR.ok o s (by simp only [RV])
theorem out_ref {n : Nat} {a : Addr} (o : OutR G RV W σ ρ H Q (.ok (.ref n) A)) (s : Sim ρ A H) (h : ρ[n]? = some a) : Q (.ref a) H := OutR.ok o s (by simp only [RV]; exact ⟨a, h, rfl⟩)
theorem rv_int {i : Int} {v : V} (r : RV ρ H (.int i) v) : v = .int i := by simpa only [RV] using r
theorem rv_bl {i : Bool} {v : V} (r : RV ρ H (.bl i) v) : v = .bl i := by simpa only [RV] using r
theorem rv_str {i : Str} {v : V} (r : RV ρ H (.str i) v) : v = .str i := by simpa only [RV] using r
theorem rv_non {v : V} (r : RV ρ H .non v) : v = .non := by simpa only [RV] using r
theorem rv_tup {ds : List D} {v : V} (r : RV ρ H (.tup ds) v) : ∃ a vs, v = .ref a ∧ H a = some (.tup vs) ∧ RVs ρ H ds vs := by simpa only [RV] using r
theorem tup_rv {ds : List D} {a : Addr} {vs : List V} (h : H a = some (.tup vs)) (r : RVs ρ H ds vs) : RV ρ H (.tup ds) (.ref a) := by simp only [RV]; exact ⟨a, vs, rfl, h, r⟩
/-! ### two-place operations -/
abbrev rAddA (K : PySem.W.Frag) : R2 := fun x y H Q => rI0 (fun i j => .int (i + j)) x y H Q ∨ (∃ i j, x = .str i ∧ y = .str j ∧ i.length + j.length ≤ sizeLine ∧ Q (.str (i ++ j)) H) ∨ rCatA K x y H Q ∨ rCat x y H Q
theorem op_addA : OpR X (binaryOp .Add) (rAddA X.K) := op_add.or (op_add_str.or (op_catA.or op_cat))
theorem pr_add {x y : D} {v u : V} (s : Sim ρ A H) (rx : RV ρ H x v) (ry : RV ρ H y u) (o : OutR G RV W σ ρ H Q (Res.of (binD .add x y A))) : rAddA K v u H Q := by
  obtain ⟨d, A', e, o⟩ := out_of o
  cases x <;> cases y <;> simp only [binD, reduceCtorEq] at e
  · cases e
    cases rv_int rx
    cases rv_int ry
    exact .inl ⟨_, _, rfl, rfl, out_int o s⟩
  · split at e
    · rename_i hl
      cases e
      cases rv_str rx
      cases rv_str ry
      exact .inr (.inl ⟨_, _, rfl, rfl, by rw [← lim_eq]; exact hl, out_str o s⟩)
    · cases e
  · rename_i xs ys
    split at e
    · rename_i hl
      cases e
      obtain ⟨a, vs, rfl, ha, ra⟩ := rv_tup rx
      obtain ⟨b, us, rfl, hb, rb⟩ := rv_tup ry
      refine .inr (.inr (.inl ⟨a, b, vs, us, rfl, rfl, .of ha, .of hb, by rw [ra.length, rb.length, ← lim_eq]; exact hl, fun z => ?_, fun _ z => ?_, fun _ _ => ?_⟩))
      · subst z
        have : xs = [] := List.length_eq_zero_iff.mp (by rw [← ra.length]; rfl)
        subst this
        exact OutR.ok o s (tup_rv hb rb)
      · subst z
        have : ys = [] := List.length_eq_zero_iff.mp (by rw [← rb.length]; rfl)
        subst this
        rw [List.append_nil] at o
        exact OutR.ok o s (tup_rv ha ra)
      · exact out_tup o s (ra.append rb)
    · cases e
  · split at e
    · rename_i xs ys e1 e2
      split at e
      · rename_i hl
        cases e
        obtain ⟨a, vs, rfl, ra, ha⟩ := lstOf_at s rx e1
        obtain ⟨b, us, rfl, rb, hb⟩ := lstOf_at s ry e2
        exact .inr (.inr (.inr ⟨a, b, vs, us, rfl, rfl, ha, hb, by rw [ra.length, rb.length, ← lim_eq]; exact hl, out_lst (ds := xs ++ ys) o s (ra.append rb)⟩))
      · cases e
    · cases e
theorem pr_sub {x y : D} {v u : V} (s : Sim ρ A H) (rx : RV ρ H x v) (ry : RV ρ H y u) (o : OutR G RV W σ ρ H Q (Res.of (binD .sub x y A))) : rI0 (fun i j => .int (i - j)) v u H Q := by
  obtain ⟨d, A', e, o⟩ := out_of o
  cases x <;> cases y <;> simp only [binD, reduceCtorEq] at e
  cases e
  cases rv_int rx
  cases rv_int ry
  exact ⟨_, _, rfl, rfl, out_int o s⟩
abbrev rMulA : R2 := fun x y H Q => rI CMul (fun i j => .int (i * j)) x y H Q ∨ rRep x y H Q
theorem op_mulA : OpR X (binaryOp .Mult) rMulA := op_mul.or op_rep
theorem pr_mul {x y : D} {v u : V} (s : Sim ρ A H) (rx : RV ρ H x v) (ry : RV ρ H y u) (o : OutR G RV W σ ρ H Q (Res.of (binD .mul x y A))) : rMulA v u H Q := by
  obtain ⟨d, A', e, o⟩ := out_of o
  cases x <;> cases y <;> simp only [binD, reduceCtorEq] at e
  · split at e
    · rename_i hl
      cases e
      cases rv_int rx
      cases rv_int ry
      exact .inl ⟨_, _, rfl, rfl, hl, out_int o s⟩
    · cases e
  · rename_i m k
    split at e
    · rename_i xs e1
      split at e
      · rename_i hl
        cases e
        obtain ⟨a, vs, rfl, ra, ha⟩ := lstOf_at s rx e1
        cases rv_int ry
        have h0 := hl.1
        have h1 := hl.2.1
        exact .inr ⟨a, _, vs, rfl, rfl, ha, by omega, by omega, by rw [ra.length, ← lim_eq]; exact hl.2.2, out_lst (ds := (List.replicate k.toNat xs).flatten) o s (ra.replicate _)⟩
      · cases e
    · cases e
theorem pr_fdiv {x y : D} {v u : V} (s : Sim ρ A H) (rx : RV ρ H x v) (ry : RV ρ H y u) (o : OutR G RV W σ ρ H Q (Res.of (binD .fdiv x y A))) : rI CDiv (fun i j => .int (i / j)) v u H Q := by
  obtain ⟨d, A', e, o⟩ := out_of o
  cases x <;> cases y <;> simp only [binD, reduceCtorEq] at e
  split at e
  · rename_i hl
    cases e
    cases rv_int rx
    cases rv_int ry
    exact ⟨_, _, rfl, rfl, hl, out_int o s⟩
  · cases e
theorem pr_mod {x y : D} {v u : V} (s : Sim ρ A H) (rx : RV ρ H x v) (ry : RV ρ H y u) (o : OutR G RV W σ ρ H Q (Res.of (binD .mod x y A))) : rI (fun _ j => 0 < j) (fun i j => .int (i % j)) v u H Q := by
  obtain ⟨d, A', e, o⟩ := out_of o
  cases x <;> cases y <;> simp only [binD, reduceCtorEq] at e
  split at e
  · rename_i hl
    cases e
    cases rv_int rx
    cases rv_int ry
    exact ⟨_, _, rfl, rfl, hl, out_int o s⟩
  · cases e
/-- whatever the operation is -/
theorem bin_ok {op : Operator} {bop : BOp} (h : opOf op = some bop) : ∃ r, OpR X (binaryOp op) r ∧ ∀ {G : Gl} {W : WX} {σ : St} {ρ A H Q x y v u}, Sim ρ A H → RV ρ H x v → RV ρ H y u → OutR G RV W σ ρ H Q (Res.of (binD bop x y A)) → r v u H Q := by
  cases op <;> simp only [opOf, Option.some.injEq, reduceCtorEq] at h <;> subst h
  · exact ⟨_, op_addA, pr_add⟩
  · exact ⟨_, op_sub, pr_sub⟩
  · exact ⟨_, op_mulA, pr_mul⟩
  · exact ⟨_, op_mod, pr_mod⟩
  · exact ⟨_, op_fdiv, pr_fdiv⟩
/-! ### truth -/
theorem pr_truth {x : D} {v : V} {b : Bool} (s : Sim ρ A H) (r : RV ρ H x v) (h : truthD x A = some b) : TruV K v H b := by
  cases x with
  | non => simp only [truthD, Option.some.injEq] at h; cases rv_non r; subst h; rfl
  | bl c => simp only [truthD, Option.some.injEq] at h; cases rv_bl r; subst h; rfl
  | int i => simp only [truthD, Option.some.injEq] at h; cases rv_int r; subst h; rfl
  | str z =>
    simp only [truthD] at h
    split at h
    · rename_i hl
      simp only [Option.some.injEq] at h
      cases rv_str r
      subst h
      exact ⟨by rw [← lim_eq]; exact hl, rfl⟩
    · cases h
  | tup ds =>
    simp only [truthD, Option.some.injEq] at h
    obtain ⟨a, vs, rfl, ha, ra⟩ := rv_tup r
    subst h
    exact .inr (.inl ⟨vs, .of ha, by rw [ra.isEmpty]⟩)
  | ref n =>
    simp only [truthD] at h
    split at h
    · rename_i ds e
      simp only [Option.some.injEq] at h
      obtain ⟨a, _, rfl, vs, ha, ra⟩ := rv_ref s r e
      subst h
      exact .inl ⟨vs, .of ha, by rw [ra.isEmpty]⟩
    · rename_i ds e
      simp only [Option.some.injEq] at h
      obtain ⟨a, _, rfl, o, vs, ha, ra⟩ := rv_ref s r e
      subst h
      exact .inl ⟨vs, .inl (.inr ⟨o, ha⟩), by rw [ra.isEmpty]⟩
    · rename_i ds e
      simp only [Option.some.injEq] at h
      obtain ⟨a, _, rfl, vs, ha, ra⟩ := rv_ref s r e
      subst h
      refine .inr (.inr ⟨vs, ha, ?_⟩)
      have := ra.length
      cases ds <;> cases vs <;> simp_all
    · cases h
end
end Kin
end
section
set_option linter.all false
set_option maxRecDepth 100000
/-! Kin 6: a text against a dict. -/
namespace KinEq
open PySem PySem.Spec PyProof.Rows PySem.SeqAt
open AutoSeq1 (wpAny_loadPart')
open MeetsSeq MeetsSeq2 MeetsSeq3
theorem dict_str (l : Addr) (es : Array DictEntry) (ep : Nat) (dd : Option Addr) (sl : Array (Option Value)) (b : Str) (u : Tok) :
    Meets (Builtin.«dict.__eq__» ⟨[.ref l, .str b u], []⟩) (fun _ R s => s.heap.get? l = some { cls := .type "dict", dict := dd, data := .dict es ep, slots := sl } ∧ R (.ok (.ret .notImplemented)) s) :=
  .of_wp fun prog w A R s h => by
    obtain ⟨hp, g, d, tk, os⟩ := s
    obtain ⟨hl, h⟩ := h
    have f1 := F.sub_str_dict
    have f2 : isSubtype (.type "dict") (.type "dict") = pure true := by rw [isSubtype_type]; kernel_rfl
    wp_walk using wpAny_loadPart' hl
    exact ⟨_, rfl, h⟩
theorem str_dict (l : Addr) (es : Array DictEntry) (ep : Nat) (dd : Option Addr) (sl : Array (Option Value)) (b : Str) (u : Tok) :
    Meets (Builtin.«str.__eq__» ⟨[.str b u, .ref l], []⟩) (fun _ R s => s.heap.get? l = some { cls := .type "dict", dict := dd, data := .dict es ep, slots := sl } ∧ R (.ok (.ret .notImplemented)) s) :=
  .of_wp fun prog w A R s h => by
    obtain ⟨hp, g, d, tk, os⟩ := s
    obtain ⟨hl, h⟩ := h
    have f1 := F.sub_dict_str
    wp_walk using wpAny_loadPart' hl
    exact ⟨_, rfl, h⟩
section
variable {A : Around} {s : Shared}
theorem rc_str_dict {l : Addr} {o : Obj} {es : Array DictEntry} {ep : Nat} (b : Str) (u : Tok) (ho : s.heap.get? l = some o) (hc : o.cls = .type "dict") (hd : o.data = .dict es ep) (hu : A.units < cLine) : RcAt A s (.str b u) (.ref l) false := fun prog w E Q h => by
  obtain ⟨cls, dd, data, sl⟩ := o
  simp only at hc hd
  subst hc hd
  exact rc_eq_decline_or (k := false) (typeIs_str s b u) ⟨_, ho, rfl⟩ (by decide) F.sub_dict_str F.slot_str_eq F.slot_dict_eq_refl
    (fun _ hq => call_meets F.slot_str_eq (typeIs_str s b u) F.entry_str_eq (F.args_str_eq_2 _ _) (str_dict l es ep dd sl b u) ⟨ho, hq⟩)
    (fun _ hq => call_meets F.slot_dict_eq_refl ⟨_, ho, rfl⟩ F.entry_dict_eq (F.args_dict_eq_2 _ _) (dict_str l es ep dd sl b u) ⟨ho, hq⟩)
    (fun _ hq => wpAny_of_eq (rfl : isSame (.str b u) (.ref l) = pure false) hq) (.inr hu) h
theorem at_str_dict {l : Addr} {o : Obj} {es : Array DictEntry} {ep : Nat} (b : Str) (u : Tok) (ho : s.heap.get? l = some o) (hc : o.cls = .type "dict") (hd : o.data = .dict es ep) (hu : A.units < cLine) : EqAt A s (.str b u) (.ref l) false := fun prog w E Q h => by
  unfold eqBool
  refine wpAny_holding ?_
  refine wpAny_ite_split (fun hab => absurd (eq_of_beq hab) nofun) (fun _ => ?_)
  exact wpAny_bind (rc_str_dict b u ho hc hd hu prog w E _ (wpAny_truthy_bool h))
end
end KinEq
namespace Kin
open PySem PySem.Spec PyProof.Rows L2
section
variable {X : Cx} {pins : List (Addr × Obj)} {σ : St} {H : Hp} {s : Shared}
/-- a list or a tuple there -/
def SqV (K : PySem.W.Frag) (H : Hp) (x : V) : Prop := ∃ a ys, x = .ref a ∧ (SqL K H a ys ∨ SqT K H a ys)
theorem eq_flat_seq {A : Around} (I : Inv X pins σ H s) (hu : A.units < cLine) {x y : V} {u v : Value} (rx : RelV x u) (ry : RelV y v) (f : flatV x = true) (q : SqV X.K H y) : SeqAt.EqAt A s u v false := by
  obtain ⟨a, ys, rfl, h⟩ := q
  cases ry
  rcases h with h | h
  · obtain ⟨its, _, p, _⟩ := I.list h
    cases x with
    | non => cases rx; exact SeqAt.EqAt.none_list p.isList hu
    | bl b => cases rx; exact SeqAt.EqAt.bool_list b p.isList hu
    | int i => obtain ⟨t, rfl⟩ := rx; exact SeqAt.EqAt.int_list i t p.isList hu
    | str z => obtain ⟨t, rfl⟩ := rx; exact SeqAt.EqAt.str_list z t p.isList hu
    | _ => cases f
  · obtain ⟨its, _, p, _⟩ := I.tuple h
    cases x with
    | non => cases rx; exact SeqAt.EqAt.none_tuple p hu
    | bl b => cases rx; exact SeqAt.EqAt.bool_tuple b p hu
    | int i => obtain ⟨t, rfl⟩ := rx; exact SeqAt.EqAt.int_tuple i t p hu
    | str z => obtain ⟨t, rfl⟩ := rx; exact SeqAt.EqAt.str_tuple z t p hu
    | _ => cases f
theorem rc_flat_seq {A : Around} (I : Inv X pins σ H s) (hu : A.units < cLine) {x y : V} {u v : Value} (rx : RelV x u) (ry : RelV y v) (f : flatV x = true) (q : SqV X.K H y) : SeqAt.RcAt A s u v false := by
  obtain ⟨a, ys, rfl, h⟩ := q
  cases ry
  rcases h with h | h
  · obtain ⟨its, _, p, _⟩ := I.list h
    cases x with
    | non => cases rx; exact SeqAt.RcAt.none_list p.isList hu
    | bl b => cases rx; exact SeqAt.RcAt.bool_list b p.isList hu
    | int i => obtain ⟨t, rfl⟩ := rx; exact SeqAt.RcAt.int_list i t p.isList hu
    | str z => obtain ⟨t, rfl⟩ := rx; exact SeqAt.RcAt.str_list z t p.isList hu
    | _ => cases f
  · obtain ⟨its, _, p, _⟩ := I.tuple h
    cases x with
    | non => cases rx; exact SeqAt.RcAt.none_tuple p hu
    | bl b => cases rx; exact SeqAt.RcAt.bool_tuple b p hu
    | int i => obtain ⟨t, rfl⟩ := rx; exact SeqAt.RcAt.int_tuple i t p hu
    | str z => obtain ⟨t, rfl⟩ := rx; exact SeqAt.RcAt.str_tuple z t p hu
    | _ => cases f
theorem rc_seq_flat {A : Around} (I : Inv X pins σ H s) (hu : A.units < cLine) {x y : V} {u v : Value} (rx : RelV x u) (ry : RelV y v) (f : flatV x = true) (q : SqV X.K H y) : SeqAt.RcAt A s v u false := by
  obtain ⟨a, ys, rfl, h⟩ := q
  cases ry
  rcases h with h | h
  · obtain ⟨its, _, p, _⟩ := I.list h
    cases x with
    | non => cases rx; exact SeqAt.RcAt.list_none p.isList hu
    | bl b => cases rx; exact SeqAt.RcAt.list_bool b p.isList hu
    | int i => obtain ⟨t, rfl⟩ := rx; exact SeqAt.RcAt.list_int i t p.isList hu
    | str z => obtain ⟨t, rfl⟩ := rx; exact SeqAt.RcAt.list_str z t p.isList hu
    | _ => cases f
  · obtain ⟨its, _, p, _⟩ := I.tuple h
    cases x with
    | non => cases rx; exact SeqAt.RcAt.tuple_none p hu
    | bl b => cases rx; exact SeqAt.RcAt.tuple_bool b p hu
    | int i => obtain ⟨t, rfl⟩ := rx; exact SeqAt.RcAt.tuple_int i t p hu
    | str z => obtain ⟨t, rfl⟩ := rx; exact SeqAt.RcAt.tuple_str z t p hu
    | _ => cases f
end
section
variable {X : Cx}
/-- == of what has no parts and a list or a tuple -/
def rEqFS (K : PySem.W.Frag) : R2 := fun x y H Q => ((flatV x = true ∧ SqV K H y) ∨ (flatV y = true ∧ SqV K H x)) ∧ Q (.bl false) H
theorem op_eqFS (hu : X.A.units < cLine) : OpR X (compareOp .Eq) (rEqFS X.K) := by
  intro pins s σ H x y v u Q I rx ry h
  obtain ⟨h, q⟩ := h
  have fin : EP X pins σ Q (.bool false) s := ⟨.bl false, H, I, rfl, q⟩
  rcases h with ⟨f, g⟩ | ⟨f, g⟩
  · exact rc_flat_seq I hu rx ry f g _ _ _ _ fin
  · exact rc_seq_flat I hu ry rx f g _ _ _ _ fin
/-- in: a list, a tuple or a dict among things without parts -/
def rInP (K : PySem.W.Frag) (neg : Bool) : R2 := fun x y H Q => ∃ p xs, y = .ref p ∧ (SqL K H p xs ∨ SqT K H p xs) ∧ xs.all flatV = true ∧
  (SqV K H x ∨ ((∃ a kvs, x = .ref a ∧ H a = some (.dK kvs)) ∧ ∀ z ∈ xs, ∃ t, z = .str t)) ∧ Q (.bl neg) H
theorem inP_at {pins : List (Addr × Obj)} {σ : St} {H : Hp} {s : Shared} {A : Around} (I : Inv X pins σ H s) (hu : A.units < cLine) {x : V} {v : Value} {xs : List V} {its : List Value} (rx : RelV x v) (r : Vals xs its) (fs : xs.all flatV = true)
    (h : SqV X.K H x ∨ ((∃ a kvs, x = .ref a ∧ H a = some (.dK kvs)) ∧ ∀ z ∈ xs, ∃ t, z = .str t)) : ∀ w ∈ its, SeqAt.EqAt A s w v false := by
  intro w hw
  obtain ⟨j, hj, e⟩ := List.mem_iff_getElem.mp hw
  have hl := r.length
  have e2 : its[j]? = some w := by rw [List.getElem?_eq_getElem hj, e]
  have hj2 : j < xs.length := by rw [hl]; exact hj
  obtain ⟨u, e3, r3⟩ := r.get (List.getElem?_eq_getElem hj2)
  rw [e2] at e3
  cases e3
  have hm : xs[j] ∈ xs := List.getElem_mem hj2
  have f : flatV xs[j] = true := List.all_eq_true.mp fs _ hm
  rcases h with h | ⟨⟨a, kvs, rfl, ha⟩, hs⟩
  · exact eq_flat_seq I hu r3 rx f h
  · obtain ⟨t, et⟩ := hs _ hm
    rw [et] at r3
    obtain ⟨tk, rfl⟩ := r3
    cases rx
    obtain ⟨_, _, vs, _, o, es, ep, ho, hx, hd, _⟩ := I.hok a _ ha
    exact KinEq.at_str_dict t tk ho hx.1 hd hu
theorem op_inP (hu : X.A.units + 1 < cLine) : OpR X (compareOp .In) (rInP X.K false) := by
  intro pins s σ H x y v u Q I rx ry h
  obtain ⟨p, xs, rfl, hq, fs, hx, q⟩ := h
  cases ry
  have hu' : X.A.in1.units < cLine := hu
  have an : ∀ its : List Value, its.toArray.any (fun _ => false) = false := fun its => by simp
  rcases hq with hq | hq
  · obtain ⟨its, r, pl, hz⟩ := I.list hq
    refine SeqAt.in_listAt (fun _ => false) pl.isList (fun w hw => inP_at I hu' rx r fs hx w (by simpa using hw)) ⟨.bl _, H, I, rfl, ?_⟩
    rw [an]
    exact q
  · obtain ⟨its, r, pl, hz⟩ := I.tuple hq
    refine SeqAt.in_tupleAt (fun _ => false) pl (fun w hw => inP_at I hu' rx r fs hx w (by simpa using hw)) ⟨.bl _, H, I, rfl, ?_⟩
    rw [an]
    exact q
theorem op_ninP (hu : X.A.units + 1 < cLine) : OpR X (compareOp .NotIn) (rInP X.K true) := by
  intro pins s σ H x y v u Q I rx ry h
  obtain ⟨p, xs, rfl, hq, fs, hx, q⟩ := h
  cases ry
  have hu' : X.A.in1.units < cLine := hu
  have an : ∀ its : List Value, (!its.toArray.any (fun _ => false)) = true := fun its => by simp
  rcases hq with hq | hq
  · obtain ⟨its, r, pl, hz⟩ := I.list hq
    refine SeqAt.notIn_listAt (fun _ => false) pl.isList (fun w hw => inP_at I hu' rx r fs hx w (by simpa using hw)) ⟨.bl _, H, I, rfl, ?_⟩
    rw [an]
    exact q
  · obtain ⟨its, r, pl, hz⟩ := I.tuple hq
    refine SeqAt.notIn_tupleAt (fun _ => false) pl (fun w hw => inP_at I hu' rx r fs hx w (by simpa using hw)) ⟨.bl _, H, I, rfl, ?_⟩
    rw [an]
    exact q
end
end Kin
end
section
set_option linter.all false
set_option maxRecDepth 100000
/-! Kin 7: comparisons, items, slices, stores, built-in functions. -/
namespace Kin
open PySem PySem.Spec PyProof.Rows L2

section
variable {G : Gl} {W : WX} {σ : St} {ρ : List Addr} {H : Hp} {A : AH} {Q : VK} {X : Cx} {K : PySem.W.Frag}
/-! ### comparisons -/
/-- two things without parts: of kinds that == tells apart as data does, or a flag and an integer -/
theorem flat_two {d e : D} {v u : V} (rx : RV ρ H d v) (ry : RV ρ H e u) (f : flatD d = true) (g : flatD e = true) :
    (scal v u = true ∧ decide (v = u) = eqF d e) ∨ ∃ p q, Dp K H v p ∧ Dp K H u q ∧ SeqAt.shaped p = true ∧ SeqAt.shaped q = true ∧ PyData.eqv p q = eqF d e := by
  cases d <;> simp only [flatD, Bool.false_eq_true] at f <;> cases e <;> simp only [flatD, Bool.false_eq_true] at g <;>
    first | cases rv_non rx | cases rv_bl rx | cases rv_int rx | cases rv_str rx
  all_goals first | cases rv_non ry | cases rv_bl ry | cases rv_int ry | cases rv_str ry
  · exact .inl ⟨rfl, by simp [eqF]⟩
  · exact .inl ⟨rfl, by simp [eqF]⟩
  · exact .inl ⟨rfl, by simp [eqF]⟩
  · exact .inl ⟨rfl, by simp [eqF]⟩
  · exact .inl ⟨rfl, by simp [eqF]⟩
  · exact .inl ⟨rfl, by rw [eqF, dec_bl]⟩
  · exact .inr ⟨.bool _, .int _, .bl _, .int _, rfl, rfl, rfl⟩
  · exact .inl ⟨rfl, by simp [eqF]⟩
  · exact .inl ⟨rfl, by simp [eqF]⟩
  · exact .inr ⟨.int _, .bool _, .int _, .bl _, rfl, rfl, rfl⟩
  · exact .inl ⟨rfl, by rw [eqF, dec_int]⟩
  · exact .inl ⟨rfl, by simp [eqF]⟩
  · exact .inl ⟨rfl, by simp [eqF]⟩
  · exact .inl ⟨rfl, by simp [eqF]⟩
  · exact .inl ⟨rfl, by simp [eqF]⟩
  · exact .inl ⟨rfl, by rw [eqF, dec_str]⟩
theorem sqv_of {d : D} {v : V} (s : Sim ρ A H) (r : RV ρ H d v) (h : isSeq d A = true) : SqV K H v := by
  unfold isSeq at h
  cases e : seqOf d A with
  | none => rw [e] at h; cases h
  | some ds =>
    obtain ⟨a, vs, rfl, _, q⟩ := seqOf_at s r e
    exact ⟨a, vs, rfl, q⟩
theorem dct_of {d : D} {v : V} (s : Sim ρ A H) (r : RV ρ H d v) (h : isDct d A = true) : ∃ a kvs, v = .ref a ∧ H a = some (.dK kvs) := by
  cases d with
  | ref n =>
    simp only [isDct] at h
    split at h
    · rename_i kvs e
      obtain ⟨a, _, rfl, ws, ha, _⟩ := rv_ref s r e
      exact ⟨a, ws, rfl, ha⟩
    · cases h
  | _ => cases h
theorem strs_of : ∀ {ds : List D} {vs : List V}, RVs ρ H ds vs → ds.all isStrD = true → ∀ z ∈ vs, ∃ t, z = .str t
  | [], vs, r, _, z, hz => by simp only [RVs] at r; subst r; cases hz
  | d :: ds, vs, r, h, z, hz => by
    simp only [RVs] at r
    obtain ⟨v, t, rfl, rv, rt⟩ := r
    rw [List.all_cons, Bool.and_eq_true] at h
    rcases List.mem_cons.mp hz with e | e
    · subst e
      cases d <;> first | (exact ⟨_, rv_str rv⟩) | (exact (Bool.false_ne_true h.1).elim)
    · exact strs_of rt h.2 z e
abbrev rEqX (K : PySem.W.Frag) : R2 := fun x y H Q => rEq x y H Q ∨ rEqD K x y H Q ∨ rEqFS K x y H Q
abbrev rNeX (K : PySem.W.Frag) : R2 := fun x y H Q => rNe x y H Q ∨ rNeD K x y H Q
abbrev rInX (K : PySem.W.Frag) (n : Bool) : R2 := fun x y H Q => rIn K n x y H Q ∨ rInP K n x y H Q
theorem out_b {p : Option Bool} (o : OutR G RV W σ ρ H Q (Res.of1 A (p.map .bl))) (s : Sim ρ A H) : ∃ b, p = some b ∧ Q (.bl b) H := by
  obtain ⟨d, e, o⟩ := out_of1 o
  cases p with
  | none => cases e
  | some b =>
    cases e
    exact ⟨b, rfl, out_bl o s⟩
theorem cmp_ok (hu : X.A.units + 64 < cLine) {op : CmpOp} {c : COp} (h : cmpOf op = some c) : ∃ r, OpR X (compareOp op) r ∧ ∀ {G : Gl} {W : WX} {σ : St} {ρ A H Q x y v u}, Sim ρ A H → RV ρ H x v → RV ρ H y u → OutR G RV W σ ρ H Q (Res.of1 A ((cmpD c x y A).map .bl)) → r v u H Q := by
  have int2 : ∀ {g : Int → Int → Bool} (c : COp) (hc : ∀ x y A b, cmpD c x y A = some b → ∃ i j, x = .int i ∧ y = .int j ∧ b = g i j) {G : Gl} {W : WX} {σ : St} {ρ A H Q x y v u}, Sim ρ A H → RV ρ H x v → RV ρ H y u → OutR G RV W σ ρ H Q (Res.of1 A ((cmpD c x y A).map .bl)) → rI0 (fun i j => .bl (g i j)) v u H Q := by
    intro g c hc G W σ ρ A H Q x y v u s rx ry o
    obtain ⟨b, e, q⟩ := out_b o s
    obtain ⟨i, j, rfl, rfl, rfl⟩ := hc _ _ _ _ e
    exact ⟨i, j, rv_int rx, rv_int ry, q⟩
  cases op <;> simp only [cmpOf, Option.some.injEq] at h <;> subst h
  · refine ⟨rEqX X.K, op_eq.or ((op_eqD hu).or (op_eqFS (by omega))), fun {G W σ ρ A H Q x y v u} s rx ry o => ?_⟩
    obtain ⟨b, e, q⟩ := out_b o s
    simp only [cmpD, eqD] at e
    split at e
    · rename_i hf
      rw [Bool.and_eq_true] at hf
      cases e
      rcases flat_two (K := X.K) rx ry hf.1 hf.2 with ⟨a, b⟩ | ⟨p, p', a, b, c, d, f⟩
      · exact .inl ⟨a, by rw [b]; exact q⟩
      · exact .inr (.inl ⟨p, p', a, b, c, d, by rw [f]; exact q⟩)
    · split at e
      · rename_i hf
        cases e
        rw [Bool.or_eq_true, Bool.and_eq_true, Bool.and_eq_true] at hf
        refine .inr (.inr ⟨?_, q⟩)
        rcases hf with ⟨a, b⟩ | ⟨a, b⟩
        · exact .inl ⟨rv_flat rx a, sqv_of s ry b⟩
        · exact .inr ⟨rv_flat ry a, sqv_of s rx b⟩
      · cases e
  · refine ⟨rNeX X.K, op_ne.or (op_neD hu), fun {G W σ ρ A H Q x y v u} s rx ry o => ?_⟩
    obtain ⟨b, e, q⟩ := out_b o s
    simp only [cmpD] at e
    split at e
    · rename_i hf
      rw [Bool.and_eq_true] at hf
      cases e
      rcases flat_two (K := X.K) rx ry hf.1 hf.2 with ⟨a, b⟩ | ⟨p, p', a, b, c, d, f⟩
      · exact .inl ⟨a, by rw [b]; exact q⟩
      · exact .inr ⟨p, p', a, b, c, d, by rw [f]; exact q⟩
    · cases e
  · refine ⟨_, op_lt, int2 .lt fun x y A b e => ?_⟩
    cases x <;> cases y <;> simp only [cmpD, cmpI, reduceCtorEq, Option.some.injEq] at e
    exact ⟨_, _, rfl, rfl, e.symm⟩
  · refine ⟨_, op_le, int2 .le fun x y A b e => ?_⟩
    cases x <;> cases y <;> simp only [cmpD, cmpI, reduceCtorEq, Option.some.injEq] at e
    exact ⟨_, _, rfl, rfl, e.symm⟩
  · refine ⟨_, op_gt, int2 .gt fun x y A b e => ?_⟩
    cases x <;> cases y <;> simp only [cmpD, cmpI, reduceCtorEq, Option.some.injEq] at e
    exact ⟨_, _, rfl, rfl, e.symm⟩
  · refine ⟨_, op_ge, int2 .ge fun x y A b e => ?_⟩
    cases x <;> cases y <;> simp only [cmpD, cmpI, reduceCtorEq, Option.some.injEq] at e
    exact ⟨_, _, rfl, rfl, e.symm⟩
  · refine ⟨_, L2.op_isN, fun {G W σ ρ A H Q x y v u} s rx ry o => ?_⟩
    obtain ⟨b, e, q⟩ := out_b o s
    cases y <;> simp only [cmpD, reduceCtorEq] at e
    cases rv_non ry
    refine ⟨rfl, ?_⟩
    cases x <;> simp only [Option.some.injEq] at e <;> subst e
    · cases rv_non rx; exact q
    · cases rv_bl rx; exact q
    · cases rv_int rx; exact q
    · cases rv_str rx; exact q
    · obtain ⟨a, vs, rfl, _⟩ := rv_tup rx; exact q
    · simp only [RV] at rx; obtain ⟨a, _, rfl⟩ := rx; exact q
  · refine ⟨_, L2.op_notN, fun {G W σ ρ A H Q x y v u} s rx ry o => ?_⟩
    obtain ⟨b, e, q⟩ := out_b o s
    cases y <;> simp only [cmpD, reduceCtorEq] at e
    cases rv_non ry
    refine ⟨rfl, ?_⟩
    cases x <;> simp only [Option.some.injEq] at e <;> subst e
    · cases rv_non rx; exact q
    · cases rv_bl rx; exact q
    · cases rv_int rx; exact q
    · cases rv_str rx; exact q
    · obtain ⟨a, vs, rfl, _⟩ := rv_tup rx; exact q
    · simp only [RV] at rx; obtain ⟨a, _, rfl⟩ := rx; exact q
  · refine ⟨rInX X.K false, op_in_seq.or (op_inP (by omega)), fun {G W σ ρ A H Q x y v u} s rx ry o => ?_⟩
    obtain ⟨b, e, q⟩ := out_b o s
    simp only [cmpD, inD] at e
    split at e
    · rename_i ys ey
      obtain ⟨a, vs, rfl, rs, hs⟩ := seqOf_at (K := X.K) s ry ey
      split at e
      · rename_i hf
        split at e
        · rename_i hx
          cases e
          refine .inl ⟨a, vs, rfl, hs, rv_flat rx hx, rvs_flat rs hf, ?_⟩
          show Q (.bl (inV v vs)) H
          unfold inV
          rw [rvs_any rx hx rs hf]
          exact q
        · split at e
          · rename_i hx
            cases e
            rw [Bool.or_eq_true, Bool.and_eq_true] at hx
            refine .inr ⟨a, vs, rfl, hs, rvs_flat rs hf, ?_, q⟩
            rcases hx with hx | hx
            · exact .inl (sqv_of s rx hx)
            · exact .inr ⟨dct_of s rx hx.1, strs_of rs hx.2⟩
          · cases e
      · cases e
    · cases e
  · refine ⟨rInX X.K true, op_notIn_seq.or (op_ninP (by omega)), fun {G W σ ρ A H Q x y v u} s rx ry o => ?_⟩
    obtain ⟨b, e, q⟩ := out_b o s
    simp only [cmpD, inD] at e
    split at e
    · rename_i ys ey
      obtain ⟨a, vs, rfl, rs, hs⟩ := seqOf_at (K := X.K) s ry ey
      split at e
      · rename_i hf
        split at e
        · rename_i hx
          cases e
          refine .inl ⟨a, vs, rfl, hs, rv_flat rx hx, rvs_flat rs hf, ?_⟩
          show Q (.bl (!inV v vs)) H
          unfold inV
          rw [rvs_any rx hx rs hf]
          exact q
        · split at e
          · rename_i hx
            cases e
            rw [Bool.or_eq_true, Bool.and_eq_true] at hx
            refine .inr ⟨a, vs, rfl, hs, rvs_flat rs hf, ?_, q⟩
            rcases hx with hx | hx
            · exact .inl (sqv_of s rx hx)
            · exact .inr ⟨dct_of s rx hx.1, strs_of rs hx.2⟩
          · cases e
      · cases e
    · cases e
end
end Kin
end
section
set_option linter.all false
set_option maxRecDepth 100000
/-! Kin 8: items, slices, stores, built-in functions. -/
namespace Kin
open PySem PySem.Spec PyProof.Rows L2

section
variable {ρ : List Addr} {H : Hp}
theorem rks_get : ∀ {kvs : List (Key × D)} {ws : List (Key × V)} {k : Key} {d : D}, RKs ρ H kvs ws → kGet kvs k = some d → ∃ v, valV ws k = some v ∧ RV ρ H d v
  | [], _, _, _, _, h => by simp [kGet] at h
  | (l, e) :: r, ws, k, d, rk, h => by
    simp only [RKs] at rk
    obtain ⟨v, t, rfl, rv, rt⟩ := rk
    unfold kGet at h
    unfold valV
    rw [List.find?_cons] at h ⊢
    by_cases q : l = k
    · simp only [q, decide_true, Option.map_some, Option.some.injEq] at h ⊢
      subst h
      exact ⟨v, rfl, rv⟩
    · simp only [q, decide_false] at h ⊢
      exact rks_get rt h
theorem rks_any : ∀ {kvs : List (Key × D)} {ws : List (Key × V)} (k : Key), RKs ρ H kvs ws → (ws.any fun p => decide (p.1 = k)) = kvs.any fun p => decide (p.1 = k)
  | [], _, _, rk => by simp only [RKs] at rk; subst rk; rfl
  | (l, e) :: r, ws, k, rk => by
    simp only [RKs] at rk
    obtain ⟨v, t, rfl, rv, rt⟩ := rk
    rw [List.any_cons, List.any_cons, rks_any k rt]
theorem rks_map : ∀ {kvs : List (Key × D)} {ws : List (Key × V)} {k : Key} {d : D} {v : V}, RKs ρ H kvs ws → RV ρ H d v →
    RKs ρ H (kvs.map fun p => if p.1 = k then (p.1, d) else p) (ws.map fun p => if p.1 = k then (p.1, v) else p)
  | [], _, _, _, _, rk, _ => by simp only [RKs] at rk; subst rk; rfl
  | (l, e) :: r, ws, k, d, v, rk, rv => by
    simp only [RKs] at rk
    obtain ⟨u, t, rfl, ru, rt⟩ := rk
    rw [List.map_cons, List.map_cons]
    by_cases q : l = k
    · simp only [q, if_true, RKs]
      exact ⟨v, _, rfl, rv, rks_map rt rv⟩
    · simp only [q, if_false, RKs]
      exact ⟨u, _, rfl, ru, rks_map rt rv⟩
theorem rks_snoc : ∀ {kvs : List (Key × D)} {ws : List (Key × V)} {k : Key} {d : D} {v : V}, RKs ρ H kvs ws → RV ρ H d v → RKs ρ H (kvs ++ [(k, d)]) (ws ++ [(k, v)])
  | [], _, _, _, _, rk, rv => by
    simp only [RKs] at rk
    subst rk
    simp only [List.nil_append, RKs]
    exact ⟨_, _, rfl, rv, rfl⟩
  | (l, e) :: r, ws, k, d, v, rk, rv => by
    simp only [RKs] at rk
    obtain ⟨u, t, rfl, ru, rt⟩ := rk
    simp only [List.cons_append, RKs]
    exact ⟨u, _, rfl, ru, rks_snoc rt rv⟩
theorem rks_put {kvs : List (Key × D)} {ws : List (Key × V)} {k : Key} {d : D} {v : V} (rk : RKs ρ H kvs ws) (rv : RV ρ H d v) : RKs ρ H (kPut kvs k d) (putK ws k v) := by
  unfold kPut putK
  rw [rks_any k rk]
  split
  · exact rks_map rk rv
  · exact rks_snoc rk rv
theorem keyD_at {d : D} {k : Key} {v : V} (r : RV ρ H d v) (h : keyD d = some k) : v = kV k := by
  cases d <;> simp only [keyD, reduceCtorEq, Option.some.injEq] at h <;> subst h
  · exact rv_int r
  · exact rv_str r
end
section
variable {G : Gl} {W : WX} {σ : St} {ρ : List Addr} {H : Hp} {A : AH} {Q : VK} {X : Cx} {K : PySem.W.Frag}
/-! ### items -/
def rIxD : R2 := fun x y H Q => ∃ a v, x = .ref a ∧ DGet H a y (some v) ∧ Q v H
theorem ix_dict (hu : X.A.units + 1 < cLine) : IxR X rIxD := by
  intro value slice pins s σ H x y v u Q I rx ry h hs
  obtain ⟨a, w, rfl, g, q⟩ := h
  cases rx
  have hT := dict_typeIs I g
  unfold subscriptTail
  refine wpAny_bind ?_
  rw [getitemInPython_of_ne hT.not_modules]
  refine wpAny_bind (wpAny_specialOf hT PySem.F.slot_dict_getitem.lookup ?_)
  have fin : wpAny (model X.prog X.w) X.A (subscripted slice false (.ref a) u) (fun r s₃ => wpAny (model X.prog X.w) X.A (letTemporaryGo value (.ref a) r >>= fun _ => pure r) (EP X pins σ Q) X.xe s₃) X.xe s := by
    rw [hs]
    exact wpAny_operating (d_getItem hu I g ry fun w' s3 I3 rw' => wpAny_bind (wpAny_letTemporaryGo (wpAny_pure ⟨w, H, I3, rw', q⟩)))
  first
    | exact wpAny_pure (wpAny_bind fin)
    | exact wpAny_bind (wpAny_pure (wpAny_bind fin))
    | exact wpAny_bind fin
abbrev rIxX (K : PySem.W.Frag) : R2 := fun x y H Q => rIx K x y H Q ∨ rIxD x y H Q
theorem ix_all (hu : X.A.units + 1 < cLine) : IxR X (rIxX X.K) := ix_seq.or (ix_dict hu)
theorem pr_idx {x y : D} {v u : V} (s : Sim ρ A H) (rx : RV ρ H x v) (ry : RV ρ H y u) (o : OutR G RV W σ ρ H Q (Res.of1 A (idxD x y A))) : rIxX K v u H Q := by
  obtain ⟨d, e, o2⟩ := out_of1 o
  clear o
  cases x with
  | tup ds =>
    cases y <;> simp only [idxD, reduceCtorEq] at e
    obtain ⟨a, vs, rfl, ha, ra⟩ := rv_tup rx
    obtain ⟨w, hw, rw'⟩ := ra.atI e
    exact .inl (.inr (.inl ⟨a, vs, _, w, rfl, rv_int ry, .of ha, hw, OutR.ok o2 s rw'⟩))
  | str z =>
    cases y <;> simp only [idxD, reduceCtorEq] at e
    split at e
    · rename_i hl
      cases q : L2.atI z.cps.toList _ with
      | none => rw [q] at e; cases e
      | some c =>
        rw [q] at e
        cases e
        exact .inl (.inr (.inr ⟨z, _, c, rv_str rx, rv_int ry, by rw [← lim_eq]; exact hl, q, out_str o2 s⟩))
    · cases e
  | ref n =>
    simp only [idxD] at e
    split at e
    · rename_i ds en
      obtain ⟨a, _, rfl, vs, ha, ra⟩ := rv_ref s rx en
      cases y <;> simp only [reduceCtorEq] at e
      obtain ⟨w, hw, rw'⟩ := ra.atI e
      exact .inl (.inl ⟨a, vs, _, w, rfl, rv_int ry, .of ha, hw, OutR.ok o2 s rw'⟩)
    · rename_i ds en
      obtain ⟨a, _, rfl, ob, vs, ha, ra⟩ := rv_ref s rx en
      cases y <;> simp only [reduceCtorEq] at e
      obtain ⟨w, hw, rw'⟩ := ra.atI e
      exact .inl (.inl ⟨a, vs, _, w, rfl, rv_int ry, .inl (.inr ⟨ob, ha⟩), hw, OutR.ok o2 s rw'⟩)
    · rename_i kvs en
      obtain ⟨a, _, rfl, ws, ha, rk⟩ := rv_ref s rx en
      cases ky : keyD y with
      | none => rw [ky] at e; cases e
      | some k =>
        rw [ky] at e
        obtain ⟨w, hw, rw'⟩ := rks_get rk e
        refine .inr ⟨a, w, rfl, ?_, OutR.ok o2 s rw'⟩
        rw [keyD_at ry ky, ← hw]
        exact DGet.k ha
    · cases e
  | _ => simp only [idxD, reduceCtorEq] at e
/-! ### slices -/
abbrev rSlX (K : PySem.W.Frag) : V → Option Int → Option Int → Hp → VK → Prop := fun x lo hi H Q => rSlA K x lo hi H Q ∨ rSlL K x lo hi H Q
theorem sl_all : SlR X (rSlX X.K) := sl_tupA.or sl_list
theorem pr_slc {x : D} {v : V} {lo hi : Option Int} (s : Sim ρ A H) (rx : RV ρ H x v) (o : OutR G RV W σ ρ H Q (Res.of (slcD x lo hi A))) : rSlX K v lo hi H Q := by
  obtain ⟨d, A', e, o2⟩ := out_of o
  clear o
  cases x with
  | tup ds =>
    simp only [slcD, Option.some.injEq, Prod.mk.injEq] at e
    obtain ⟨e1, e2⟩ := e
    subst e1 e2
    obtain ⟨a, vs, rfl, ha, ra⟩ := rv_tup rx
    refine .inl ⟨a, vs, rfl, .of ha, fun hw => ?_, fun _ => out_tup o2 s (ra.cut lo hi)⟩
    rw [ra.length] at hw
    rw [cut_all ds lo hi hw] at o2
    exact OutR.ok o2 s (tup_rv ha ra)
  | ref n =>
    simp only [slcD] at e
    cases q : seqOf (.ref n) A with
    | none => rw [q] at e; cases e
    | some ds =>
      rw [q] at e
      simp only [Option.map_some, Option.some.injEq] at e
      obtain ⟨a, vs, rfl, ra, hs⟩ := seqOf_at (K := K) s rx q
      rcases hs with hs | hs
      · refine .inr ⟨a, vs, rfl, hs, ?_⟩
        have o' : OutR G RV W σ ρ H Q (Res.of (some (new A (.lst (Kin.cut ds lo hi))))) := by rw [e]; exact o2
        exact out_lst o' s (ra.cut lo hi)
      · refine .inr ?_
        simp only [seqOf] at q
        split at q
        · rename_i es en
          cases q
          obtain ⟨b, _, eb, ws, hb, rb⟩ := rv_ref s rx en
          cases eb
          refine ⟨a, ws, rfl, .of hb, ?_⟩
          have o' : OutR G RV W σ ρ H Q (Res.of (some (new A (.lst (Kin.cut ds lo hi))))) := by rw [e]; exact o2
          exact out_lst o' s (rb.cut lo hi)
        · rename_i es en
          cases q
          obtain ⟨b, _, eb, ob, ws, hb, rb⟩ := rv_ref s rx en
          cases eb
          refine ⟨a, ws, rfl, .inl (.inr ⟨ob, hb⟩), ?_⟩
          have o' : OutR G RV W σ ρ H Q (Res.of (some (new A (.lst (Kin.cut ds lo hi))))) := by rw [e]; exact o2
          exact out_lst o' s (rb.cut lo hi)
        · cases q
  | _ => simp only [slcD, reduceCtorEq] at e
/-! ### stores -/
theorem pr_set {x y d : D} {v u w : V} {A' : AH} {P : Hp → Prop} (s : Sim ρ A H) (rx : RV ρ H x v) (ry : RV ρ H y u) (rd : RV ρ H d w) (h : setIdx x y d A = some A')
    (k : ∀ H', Ext ρ H ρ H' → Sim ρ A' H' → P H') : rSetL v u w H P := by
  cases x <;> simp only [setIdx, reduceCtorEq] at h
  rename_i n
  split at h
  · rename_i ds en
    cases y <;> simp only [reduceCtorEq] at h
    rename_i i
    obtain ⟨a, hn, rfl, vs, ha, ra⟩ := rv_ref s rx en
    cases q : L2.ixN ds.length i with
    | none => rw [q] at h; cases h
    | some j =>
      rw [q] at h
      cases h
      have x1 := Ext.put (ho := .lst (vs.set j w)) s (List.mem_of_getElem? hn)
      refine ⟨a, vs, i, j, rfl, rv_int ry, ha, by rw [ra.length]; exact q, k _ x1 (s.put hn ⟨_, upd_same, RVs.mono x1 _ _ (ra.set j rd)⟩)⟩
  · cases h
/-! ### built-in functions -/
theorem rvs1 {a : D} {vs : List V} (r : RVs ρ H [a] vs) : ∃ v, vs = [v] ∧ RV ρ H a v := by
  simp only [RVs] at r
  obtain ⟨v, t, rfl, rv, rfl⟩ := r
  exact ⟨v, rfl, rv⟩
theorem rvs2 {a b : D} {vs : List V} (r : RVs ρ H [a, b] vs) : ∃ v u, vs = [v, u] ∧ RV ρ H a v ∧ RV ρ H b u := by
  simp only [RVs] at r
  obtain ⟨v, t, rfl, rv, u, t2, rfl, ru, rfl⟩ := r
  exact ⟨v, u, rfl, rv, ru⟩
abbrev PrB (b : Blt) (r : List V → Hp → VK → Prop) : Prop := ∀ {G : Gl} {W : WX} {σ : St} {ρ A H Q ds vs}, Sim ρ A H → RVs ρ H ds vs → OutR G RV W σ ρ H Q (Res.of (callB b ds A)) → r vs H Q
/-- built-in functions: what stands under the name, what it does -/
theorem fn_ok (hc : X.calm = true) {x : Str} {b : Blt} (h : bltOf x = some b) : ∃ id r, bootBuiltins x = some (.builtin id) ∧ CallR X (.builtin id) r ∧ PrB b r := by
  unfold bltOf at h
  split at h
  · rename_i e; subst e; cases h
    refine ⟨_, _, by decide +kernel, call_len, fun {G W σ ρ A H Q ds vs} s r o => ?_⟩
    obtain ⟨d, A', e, o⟩ := out_of o
    match ds, e with
    | [.str z], e =>
      simp only [callB] at e
      split at e
      · rename_i hl
        cases e
        obtain ⟨v, rfl, rv⟩ := rvs1 r
        exact ⟨v, _, rfl, by cases rv_str rv; exact ⟨by rw [← lim_eq]; exact hl, rfl⟩, out_int o s⟩
      · cases e
    | [.tup z], e =>
      simp only [callB, seqOf, Option.map_some, Option.some.injEq, Prod.mk.injEq] at e
      obtain ⟨e1, e2⟩ := e
      subst e1 e2
      obtain ⟨v, rfl, rv⟩ := rvs1 r
      obtain ⟨a, ws, rfl, ha, ra⟩ := rv_tup rv
      refine ⟨_, _, rfl, .inr ⟨ws, .of ha, rfl⟩, ?_⟩
      rw [ra.length]
      exact out_int o s
    | [.ref n], e =>
      simp only [callB] at e
      cases q : seqOf (.ref n) A with
      | none => rw [q] at e; cases e
      | some es =>
        rw [q] at e
        simp only [Option.map_some, Option.some.injEq, Prod.mk.injEq] at e
        obtain ⟨e1, e2⟩ := e
        subst e1 e2
        obtain ⟨v, rfl, rv⟩ := rvs1 r
        obtain ⟨a, ws, rfl, ra, hs⟩ := seqOf_at (K := X.K) s rv q
        refine ⟨_, _, rfl, ?_, out_int (i := (es.length : Int)) o s⟩
        rcases hs with hs | hs
        · exact .inl ⟨ws, hs, ra.length.symm⟩
        · exact .inr ⟨ws, hs, ra.length.symm⟩
    | [], e => simp [callB] at e
    | [.non], e => simp [callB, seqOf] at e
    | [.bl _], e => simp [callB, seqOf] at e
    | [.int _], e => simp [callB, seqOf] at e
    | a :: b :: t, e => cases a <;> simp [callB] at e
  split at h
  · rename_i e; subst e; cases h
    refine ⟨_, _, by decide +kernel, cr_sum hc, fun {G W σ ρ A H Q ds vs} s r o => ?_⟩
    obtain ⟨d, A', e, o⟩ := out_of o
    match ds, e with
    | [z], e =>
      simp only [callB] at e
      obtain ⟨v, rfl, rv⟩ := rvs1 r
      cases q : lstOf z A with
      | none => rw [q] at e; cases e
      | some es =>
        rw [q] at e
        cases qi : intsD es with
        | none => simp [qi] at e
        | some is =>
          simp only [Option.bind_some, qi, Option.map_some, Option.some.injEq, Prod.mk.injEq] at e
          obtain ⟨e1, e2⟩ := e
          subst e1 e2
          obtain ⟨a, ws, rfl, ra, ha⟩ := lstOf_at s rv q
          exact ⟨a, is, rfl, by rw [← rvs_ints ra qi]; exact .of ha, out_int o s⟩
    | [], e => simp [callB] at e
    | a :: b :: t, e => simp [callB] at e
  split at h
  · rename_i e; subst e; cases h
    refine ⟨_, _, by decide +kernel, cr_all hc, fun {G W σ ρ A H Q ds vs} s r o => ?_⟩
    obtain ⟨d, A', e, o⟩ := out_of o
    match ds, e with
    | [z], e =>
      simp only [callB] at e
      obtain ⟨v, rfl, rv⟩ := rvs1 r
      cases q : lstOf z A with
      | none => rw [q] at e; cases e
      | some es =>
        rw [q] at e
        cases qi : blsD es with
        | none => simp [qi] at e
        | some is =>
          simp only [Option.bind_some, qi, Option.map_some, Option.some.injEq, Prod.mk.injEq] at e
          obtain ⟨e1, e2⟩ := e
          subst e1 e2
          obtain ⟨a, ws, rfl, ra, ha⟩ := lstOf_at s rv q
          exact ⟨a, is, rfl, by rw [← rvs_bls ra qi]; exact .of ha, out_bl o s⟩
    | [], e => simp [callB] at e
    | a :: b :: t, e => simp [callB] at e
  split at h
  · rename_i e; subst e; cases h
    refine ⟨_, _, by decide +kernel, cr_any hc, fun {G W σ ρ A H Q ds vs} s r o => ?_⟩
    obtain ⟨d, A', e, o⟩ := out_of o
    match ds, e with
    | [z], e =>
      simp only [callB] at e
      obtain ⟨v, rfl, rv⟩ := rvs1 r
      cases q : lstOf z A with
      | none => rw [q] at e; cases e
      | some es =>
        rw [q] at e
        cases qi : blsD es with
        | none => simp [qi] at e
        | some is =>
          simp only [Option.bind_some, qi, Option.map_some, Option.some.injEq, Prod.mk.injEq] at e
          obtain ⟨e1, e2⟩ := e
          subst e1 e2
          obtain ⟨a, ws, rfl, ra, ha⟩ := lstOf_at s rv q
          exact ⟨a, is, rfl, by rw [← rvs_bls ra qi]; exact .of ha, out_bl o s⟩
    | [], e => simp [callB] at e
    | a :: b :: t, e => simp [callB] at e
  split at h
  · rename_i e; subst e; cases h
    refine ⟨_, _, by decide +kernel, call_abs, fun {G W σ ρ A H Q ds vs} s r o => ?_⟩
    obtain ⟨d, A', e, o⟩ := out_of o
    unfold callB at e
    split at e <;> simp only [reduceCtorEq] at * <;> cases e
    obtain ⟨v, rfl, rv⟩ := rvs1 r
    exact ⟨_, by rw [rv_int rv], out_int o s⟩
  split at h
  · rename_i e; subst e; cases h
    refine ⟨_, _, by decide +kernel, call_min2 hc, fun {G W σ ρ A H Q ds vs} s r o => ?_⟩
    obtain ⟨d, A', e, o⟩ := out_of o
    unfold callB at e
    split at e <;> simp only [reduceCtorEq] at * <;> cases e
    obtain ⟨v, u, rfl, rv, ru⟩ := rvs2 r
    exact ⟨_, _, by rw [rv_int rv, rv_int ru], out_int o s⟩
  split at h
  · rename_i e; subst e; cases h
    refine ⟨_, _, by decide +kernel, call_max2 hc, fun {G W σ ρ A H Q ds vs} s r o => ?_⟩
    obtain ⟨d, A', e, o⟩ := out_of o
    unfold callB at e
    split at e <;> simp only [reduceCtorEq] at * <;> cases e
    obtain ⟨v, u, rfl, rv, ru⟩ := rvs2 r
    exact ⟨_, _, by rw [rv_int rv, rv_int ru], out_int o s⟩
  cases h
end
end Kin
end
section
set_option linter.all false
set_option maxRecDepth 100000
/-! Kin 8b: t[::-1] of a tuple. -/
namespace Kin
open PySem PySem.Spec PyProof.Rows L2
theorem rv_adjust (n : Nat) : Builtin.Slice.sliceAdjust none none (-1) (n : Int) = ((n : Int) - 1, -1) := rfl
theorem rv_places (n : Nat) : Builtin.Slice.slicePlaces ((n : Int) - 1) (-1) (-1) = n := by
  unfold Builtin.Slice.slicePlaces
  rw [if_neg (by decide)]
  by_cases h : n = 0
  · subst h
    rfl
  · rw [if_pos (by omega)]
    have e : ((n : Int) - 1 - -1 - 1) / (- -1) = (n : Int) - 1 := by
      rw [show (- -1 : Int) = 1 by decide, Int.ediv_one]
      omega
    rw [e]
    omega
theorem rv_pick (xs : Array Value) : ((List.range xs.size).filterMap fun (k : Nat) => xs[(((xs.size : Int) - 1) + (k : Int) * (-1)).toNat]?).toArray = xs.toList.reverse.toArray := by
  congr 1
  have e : (fun (k : Nat) => xs[(((xs.size : Int) - 1) + (k : Int) * (-1)).toNat]?) = (fun j => xs[j]?) ∘ fun k => xs.size - 1 - k := by
    funext k
    show xs[_]? = xs[xs.size - 1 - k]?
    congr 1
    omega
  rw [e, ← List.filterMap_map, PySem.W.krv_range, List.filterMap_reverse, PySem.W.krv_all]
section
variable {prog : Program} {w : World} {A : Around} {E : Value → Shared → Prop} {z : Shared}
theorem rv_applied {b : Addr} {va vb vc : Value} {n : Nat} {Q : Int × Int × Nat → Shared → Prop} (hb : z.heap.IsSliceOf b va vb vc) (pa : IsPart va none) (pb : IsPart vb none) (pc : IsPart vc (some (-1)))
    (h : Q ((n : Int) - 1, -1, n) z) : wpAny (model prog w) A (Builtin.Slice.sliceApplied (.ref b) (pure (n : Int))) Q E z := by
  obtain ⟨ob, g1, g2, g3⟩ := hb
  unfold Builtin.Slice.sliceApplied Builtin.Slice.sliceFields
  refine wpAny_bind (wpAny_bind (wpAny_field g1 g3 (x := va) rfl (wpAny_bind (wpAny_field g1 g3 (x := vb) rfl (wpAny_bind (wpAny_field g1 g3 (x := vc) rfl (wpAny_pure ?_)))))))
  refine wpAny_bind (HT.slicePart_ pc ?_)
  show wpAny _ _ (if ((-1 : Int) == 0) = true then _ else _) _ _ z
  rw [if_neg (by decide)]
  refine wpAny_bind (HT.slicePart_ pa (wpAny_bind (HT.slicePart_ pb (wpAny_bind (wpAny_pure ?_)))))
  show wpAny _ _ (match Builtin.Slice.sliceAdjust none none (-1) (n : Int) with | (x, y) => pure (x, (-1 : Int), Builtin.Slice.slicePlaces x y (-1))) _ _ z
  rw [rv_adjust]
  show wpAny _ _ (pure ((n : Int) - 1, (-1 : Int), Builtin.Slice.slicePlaces ((n : Int) - 1) (-1) (-1))) _ _ z
  rw [rv_places]
  exact wpAny_pure h
theorem rv_item {t b : Addr} {its : Array Value} {va vb vc : Value} {Q : Value → Shared → Prop} (hT : IsTup z.heap t its) (hb : z.heap.IsSliceOf b va vb vc) (pa : IsPart va none) (pb : IsPart vb none) (pc : IsPart vc (some (-1)))
    (hz : its.size ≤ sizeLine) (h : Q (.ref z.heap.objs.size) { z with heap := z.heap.push { cls := .type "tuple", data := .seq its.toList.reverse.toArray } }) : wpAny (model prog w) A (getItem (.ref t) (.ref b)) Q E z := by
  have ok : sizeOk (.seq its.toList.reverse.toArray) := by
    show its.toList.reverse.toArray.size ≤ sizeLine
    rw [List.size_toArray, List.length_reverse, Array.length_toList]
    exact hz
  obtain ⟨ob, g1, g2, g3⟩ := id hb
  have hB : z.TypeIs (.ref b) "slice" := ⟨ob, g1, g2⟩
  unfold getItem
  try with_reducible refine wpAny_holding ?_
  first | refine wpAny_bind (wpAny_pure ?_) | skip
  refine wpAny_bind (wpAny_sequenceKey hT.typeIs (by decide) ?_)
  refine wpAny_bind (wpAny_callSpecial?_slot (name := Str.ofString "__getitem__") hT.typeIs PyProof.Rows.slot_tuple_getitem (wpAny_call_entry PyProof.Rows.slot_tuple_getitem hT.typeIs entry_tuple_getitem ?_ (args_tuple_getitem _ _)))
  show wpAny _ _ (Builtin.Tuple.tupleItemsOf (.ref t) >>= _) _ _ z
  refine wpAny_bind (tupleItemsOf_ hT ?_)
  refine wpAny_bind (wpAny_typeOf hB ?_)
  rw [if_pos (by decide)]
  refine wpAny_bind (rv_applied hb pa pb pc ?_)
  show wpAny _ _ (if (((its.size : Int) - 1) == 0 && (-1 : Int) == 1 && its.size == its.size) = true then _ else _) _ _ z
  have no : ¬ ((((its.size : Int) - 1) == 0 && (-1 : Int) == 1 && its.size == its.size) = true) := by simp
  rw [if_neg no, rv_pick]
  first
    | exact wpAny_bind (m := Builtin.Tuple.tupleExact _) (wpAny_newObj_type (wpAny_pure ⟨_, rfl, wpAny_pure h⟩) ok)
    | exact wpAny_bind (m := Builtin.Tuple.tupleExact _) (wpAny_newObj_type (wpAny_bind (wpAny_pure (wpAny_pure ⟨_, rfl, wpAny_pure h⟩))) ok)
    | exact wpAny_bind (wpAny_bind (m := Builtin.Tuple.tupleExact _) (wpAny_newObj_type (wpAny_pure (wpAny_pure ⟨_, rfl, wpAny_pure h⟩)) ok))
    | exact wpAny_bind (wpAny_bind (m := Builtin.Tuple.tupleExact _) (wpAny_newObj_type (wpAny_pure ⟨_, rfl, wpAny_pure h⟩) ok))
end
/-- e[::-1], e a tuple -/
def tRevT (K : PySem.W.Frag) (te : TE) : TE := fun σ H Q => te σ H fun x H1 => ∃ a xs, x = .ref a ∧ SqT K H1 a xs ∧ ∀ p, H1 p = none → Q (.ref p) (upd H1 p (.tup xs.reverse))
theorem pe_revT {X : Cx} {e : Expr} {te : TE} {j : Nat} {p1 p2 p3 pos : Pos} (he : PE X e te) : PE X (.Subscript e (.Slice none none (some (.UnaryOp .USub (.Constant (.int 1) j p1) p2)) p3) pos) (tRevT X.K te) := by
  refine ⟨fun pn z τ H Q J h => ?_⟩
  refine Subscript_ (thn (he.run pn z τ H _ J h) fun v z1 ⟨x, H1, J1, r1, a, xs, ex, hx, q⟩ => ?_)
  subst ex
  cases r1
  have st : PO X (some (.UnaryOp .USub (.Constant (.int 1) j p1) p2)) (tPart (tUn (rU fun i => .int (-i)) (tC (.int 1)))) := po_some (pe_un un_neg pe_int)
  refine wpAny_Slice (thn (po_none.run pn z1 τ H1 (fun o G => o = none ∧ G = H1) J1 ⟨rfl, rfl⟩) fun va z2 ⟨l, H2, J2, pa, el, e2⟩ => ?_)
  subst el e2
  refine thn (po_none.run pn z2 τ H2 (fun o G => o = none ∧ G = H2) J2 ⟨rfl, rfl⟩) fun vb z3 ⟨u, H3, J3, pb, eu, e3⟩ => ?_
  subst eu e3
  refine thn (st.run pn z3 τ H3 (fun o G => o = some (-1) ∧ G = H3) J3 ⟨1, rfl, -1, rfl, rfl, rfl⟩) fun vc z4 ⟨o, H4, J4, pc, eo, e4⟩ => ?_
  subst eo e4
  have J5 : Inv X pn τ H4 { z4 with heap := z4.heap.push { cls := .type "slice", data := .fields #[va, vb, vc] } } := J4.kept (t' := z4.toks) fun b ob q => Heap.get?_push_of_some _ q
  obtain ⟨its, r, ht, hz⟩ := J5.tuple hx
  have hlen := r.length
  show wpAny (model X.prog X.w) X.A (subscriptTail e (.Slice none none (some (.UnaryOp .USub (.Constant (.int 1) j p1) p2)) p3) (.ref a) (.ref z4.heap.objs.size)) (EP X pn τ Q) X.xe { z4 with heap := z4.heap.push { cls := .type "slice", data := .fields #[va, vb, vc] } }
  refine tail_any (ops := [.ref a, .ref z4.heap.objs.size]) ht.typeIs (PyProof.Rows.slot_tuple_getitem.lookup) ?_ (by with_unfolding_all rfl)
  refine rv_item ht (Heap.IsSliceOf.new _ va vb vc) pa pb pc (by rw [List.size_toArray]; omega) ?_
  refine ⟨.ref _, _, J5.laid (t' := z4.toks) (o := .tup xs.reverse) (fun b ob q => Heap.get?_push_of_some _ q) (Nat.le_refl _) ?_, rfl, q _ (J5.hok.fresh (Nat.le_refl _))⟩
  refine ⟨by rw [List.length_reverse]; omega, _, r.reverse, ?_⟩
  exact ⟨_, Heap.get?_push_size _ rfl, rfl, 0, rfl⟩
end Kin
end
section
set_option linter.all false
set_option maxRecDepth 100000
/-! Kin 9: built-in types, isinstance. -/
namespace Kin
open PySem PySem.Spec PyProof.Rows L2

section
variable {G : Gl} {W : WX} {σ : St} {ρ : List Addr} {H : Hp} {A : AH} {Q : VK} {X : Cx} {K : PySem.W.Frag}
theorem ty_ok {x : Str} {b : Blt} (h : btyOf x = some b) : ∃ T r, bootBuiltins x = some (.type T) ∧ CallR X (.type T) r ∧ PrB b r := by
  unfold btyOf at h
  split at h
  · rename_i e; subst e; cases h
    refine ⟨_, _, by decide +kernel, call_list_of, fun {G W σ ρ A H Q ds vs} s r o => ?_⟩
    obtain ⟨d, A', e, o2⟩ := out_of o
    clear o
    match ds, e with
    | [z], e =>
      simp only [callB] at e
      obtain ⟨v, rfl, rv⟩ := rvs1 r
      cases q : seqOf z A with
      | none => rw [q] at e; cases e
      | some es =>
        rw [q] at e
        simp only [Option.map_some, Option.some.injEq] at e
        obtain ⟨a, ws, rfl, ra, hs⟩ := seqOf_at (K := X.K) s rv q
        have o' : OutR G RV W σ ρ H Q (Res.of (some (new A (.lst es)))) := by rw [e]; exact o2
        exact ⟨a, ws, rfl, hs, out_lst o' s ra⟩
    | [], e => simp [callB] at e
    | a :: b :: t, e => simp [callB] at e
  split at h
  · rename_i e; subst e; cases h
    refine ⟨_, _, by decide +kernel, call_tuple_of, fun {G W σ ρ A H Q ds vs} s r o => ?_⟩
    obtain ⟨d, A', e, o⟩ := out_of o
    match ds, e with
    | [.tup z], e =>
      simp only [callB, seqOf, Option.map_some, Option.some.injEq, Prod.mk.injEq] at e
      obtain ⟨e1, e2⟩ := e
      subst e1 e2
      obtain ⟨v, rfl, rv⟩ := rvs1 r
      obtain ⟨a, ws, rfl, ha, ra⟩ := rv_tup rv
      exact ⟨a, ws, rfl, .inr ⟨.of ha, OutR.ok o s rv⟩⟩
    | [.ref n], e =>
      simp only [callB] at e
      obtain ⟨v, rfl, rv⟩ := rvs1 r
      cases q : seqOf (.ref n) A with
      | none => rw [q] at e; cases e
      | some es =>
        rw [q] at e
        simp only [Option.map_some, Option.some.injEq, Prod.mk.injEq] at e
        obtain ⟨e1, e2⟩ := e
        subst e1 e2
        simp only [seqOf] at q
        split at q
        · rename_i ds en
          cases q
          obtain ⟨a, _, rfl, ws, ha, ra⟩ := rv_ref s rv en
          exact ⟨a, ws, rfl, .inl ⟨.of ha, out_tup o s ra⟩⟩
        · rename_i ds en
          cases q
          obtain ⟨a, _, rfl, ob, ws, ha, ra⟩ := rv_ref s rv en
          exact ⟨a, ws, rfl, .inl ⟨.inl (.inr ⟨ob, ha⟩), out_tup o s ra⟩⟩
        · cases q
    | [], e => simp [callB] at e
    | [.non], e => simp [callB, seqOf] at e
    | [.bl _], e => simp [callB, seqOf] at e
    | [.int _], e => simp [callB, seqOf] at e
    | [.str _], e => simp [callB, seqOf] at e
    | a :: b :: t, e => simp [callB] at e
  split at h
  · rename_i e; subst e; cases h
    refine ⟨_, _, by decide +kernel, call_int1, fun {G W σ ρ A H Q ds vs} s r o => ?_⟩
    obtain ⟨d, A', e, o⟩ := out_of o
    unfold callB at e
    split at e <;> simp only [reduceCtorEq] at * <;> cases e
    · obtain ⟨v, rfl, rv⟩ := rvs1 r
      exact .inl ⟨_, by rw [rv_int rv], out_int o s⟩
    · obtain ⟨v, rfl, rv⟩ := rvs1 r
      exact .inr ⟨_, by rw [rv_bl rv], out_int o s⟩
  split at h
  · rename_i e; subst e; cases h
    refine ⟨_, _, by decide +kernel, call_bool1, fun {G W σ ρ A H Q ds vs} s r o => ?_⟩
    obtain ⟨d, A', e, o⟩ := out_of o
    unfold callB at e
    split at e <;> simp only [reduceCtorEq] at * <;> cases e
    · obtain ⟨v, rfl, rv⟩ := rvs1 r
      exact .inr ⟨_, by rw [rv_bl rv], out_bl o s⟩
    · obtain ⟨v, rfl, rv⟩ := rvs1 r
      exact .inl ⟨_, by rw [rv_int rv], out_bl o s⟩
  cases h
/-! ### isinstance -/
def tyS : Ty → String
  | .int => "int" | .bool => "bool" | .str => "str" | .tuple => "tuple" | .list => "list" | .dict => "dict"
theorem boot_ty (T : Ty) : ∃ x : Str, x = Str.ofString (tyS T) ∧ bootBuiltins x = some (.type (tyS T)) := ⟨_, rfl, by cases T <;> decide +kernel⟩
theorem kit_non (T : Ty) : PySem.W.kitOne K (.type "NoneType") (.type (tyS T)) = some (([] : List Ty).contains T) := by cases T <;> exact kit_ty (by kernel_rfl)
theorem kit_bl (T : Ty) : PySem.W.kitOne K (.type "bool") (.type (tyS T)) = some (([.bool, .int] : List Ty).contains T) := by cases T <;> exact kit_ty (by kernel_rfl)
theorem kit_int (T : Ty) : PySem.W.kitOne K (.type "int") (.type (tyS T)) = some (([.int] : List Ty).contains T) := by cases T <;> exact kit_ty (by kernel_rfl)
theorem kit_str (T : Ty) : PySem.W.kitOne K (.type "str") (.type (tyS T)) = some (([.str] : List Ty).contains T) := by cases T <;> exact kit_ty (by kernel_rfl)
theorem kit_tup (T : Ty) : PySem.W.kitOne K (.type "tuple") (.type (tyS T)) = some (([.tuple] : List Ty).contains T) := by cases T <;> exact kit_ty (by kernel_rfl)
theorem kit_lst (T : Ty) : PySem.W.kitOne K (.type "list") (.type (tyS T)) = some (([.list] : List Ty).contains T) := by cases T <;> exact kit_ty (by kernel_rfl)
theorem kit_dct (T : Ty) : PySem.W.kitOne K (.type "dict") (.type (tyS T)) = some (([.dict] : List Ty).contains T) := by cases T <;> exact kit_ty (by kernel_rfl)
theorem ty_at {x : D} {v : V} (s : Sim ρ A H) (r : RV ρ H x v) (T : Ty) : ∃ t, TyX K H v t ∧ PySem.W.kitOne K t (.type (tyS T)) = some ((tyD x A).contains T) := by
  cases x with
  | non => cases rv_non r; exact ⟨_, .base .non, kit_non T⟩
  | bl b => cases rv_bl r; exact ⟨_, .base (.bl b), kit_bl T⟩
  | int b => cases rv_int r; exact ⟨_, .base (.int b), kit_int T⟩
  | str b => cases rv_str r; exact ⟨_, .base (.str b), kit_str T⟩
  | tup ds =>
    obtain ⟨a, ws, rfl, ha, ra⟩ := rv_tup r
    exact ⟨_, .base (.tup ha), kit_tup T⟩
  | ref n =>
    simp only [RV] at r
    obtain ⟨a, hn, rfl⟩ := r
    have hl : n < A.length := s.len ▸ (List.getElem?_eq_some_iff.mp hn).1
    have e : A[n]? = some A[n] := List.getElem?_eq_getElem hl
    have ro := s.at_ n a _ hn e
    simp only [tyD, e]
    generalize A[n] = o at ro
    cases o with
    | lst ds => obtain ⟨vs, ha, _⟩ := ro; exact ⟨_, .base (.lst ha), kit_lst T⟩
    | frz ds => obtain ⟨o, vs, ha, _⟩ := ro; exact ⟨_, .base (.frz ha), kit_lst T⟩
    | dct ds => obtain ⟨vs, ha, _⟩ := ro; exact ⟨_, .base (.dK ha), kit_dct T⟩
end
end Kin
end
section
set_option linter.all false
set_option maxRecDepth 100000
/-! Kin 10: contexts; two in a row; lists of expressions. -/
namespace Kin
open PySem PySem.Spec PyProof.Rows L2

/-- a call, by the evaluator -/
def spOf (G : Gl) (F : Fns) (i : Nat) : Sp := fun vs H Q E => ∃ ρ A ds, Sim ρ A H ∧ RVs ρ H ds vs ∧ OutR G RV (fun cls d _ H => E cls d H) [] ρ H Q (F.call i ds A)
/-- what stands around -/
structure Top (G : Gl) (F : Fns) (C : Ctx) (k : Nat) (X : Cx) : Prop where
  calm : X.calm = true
  room : Room k X.A
  cons : ∀ x d, C.cons.lookup x = some d → ∃ v u, X.mg x = some u ∧ RelV v u ∧ ∀ ρ H, RV ρ H d v
  blt : ∀ x, C.blts.contains x = true → X.mg x = none
  fun_ : ∀ x i, C.funs.lookup x = some i → ∃ f fd ps, X.mg x = some (.ref f) ∧ PySem.W.keepIn X.K (.ref f) = true ∧ Binds X.K fd ps [] ∧ FnOk X.prog X.w X.K X.mg X.base (L2.CX X.prog X.w) k f fd ps (spOf G F i)
structure ScOk (C : Ctx) (X : Cx) : Prop where
  nd : X.N.Nodup
  kind : X.env.scope.kind = .function
  vis : ∀ x i, C.slot x = some i → Vis X.env.scope x ∧ X.N[i]? = some x ∧ okName x = true
  tgt : ∀ x i, C.tslot x = some i → L2.Loc X.env.scope x ∧ X.N[i]? = some x ∧ (X.fn x = true ∨ X.env.scope.names.lookup x = some .local)
  sc : X.env.scope = C.sc
  n : X.N = C.N
theorem okName_ok {x : Str} (h : okName x = true) : (x == ("__debug__" : Str)) = false ∧ (x == ("__classdict__" : Str)) = false ∧ x ≠ "__name__" := by
  unfold okName at h
  rw [Bool.and_eq_true, Bool.and_eq_true] at h
  obtain ⟨⟨a, b⟩, c⟩ := h
  refine ⟨by simpa using a, by simpa using b, fun e => ?_⟩
  rw [decide_eq_true e] at c
  exact absurd c (by decide)
theorem ScOk.glob {C : Ctx} {X : Cx} (s : ScOk C X) {x : Str} (h : C.glob x = true) : L2.Gl X x ∧ okName x = true := by
  unfold Ctx.glob at h
  rw [Bool.and_eq_true] at h
  obtain ⟨a, b⟩ := h
  refine ⟨?_, b⟩
  unfold L2.Gl Env.kindOf
  rw [s.sc]
  split at a
  · assumption
  · cases a
theorem ScOk.bltn {C : Ctx} {X : Cx} (s : ScOk C X) {x : Str} (h : C.bltn x = true) : L2.Gl X x ∧ okName x = true ∧ C.blts.contains x = true := by
  unfold Ctx.bltn at h
  rw [Bool.and_eq_true] at h
  exact ⟨(s.glob h.1).1, (s.glob h.1).2, h.2⟩
theorem Top.units {G : Gl} {F : Fns} {C : Ctx} {k : Nat} {X : Cx} (t : Top G F C k X) : X.A.units + 64 < cLine := by
  have := t.room.un
  omega
section
variable {α β γ δ : Type} {G : Gl} {R : Rel α β} {R' : Rel γ δ} {W : WX} {σ : St} {H : Hp} {Q' : δ → Hp → Prop}
theorem tR_seq {m : Loc → AH → Res α} {k : Loc → α → AH → Res γ} (h : tR G R' W (fun L A => (m L A).bind fun x A => k L x A) σ H Q') :
    tR G R W m σ H fun v H1 => ∃ ρ1 A1 L x, Sim ρ1 A1 H1 ∧ RL ρ1 H1 L σ ∧ R ρ1 H1 x v ∧ OutR G R' W σ ρ1 H1 Q' (k L x A1) := by
  obtain ⟨ρ, A, L, s, l, o⟩ := h
  exact ⟨ρ, A, L, s, l, o.bind.imp fun v H1 ⟨ρ1, A1, x, x1, s1, r1, o1⟩ => ⟨ρ1, A1, L, x, s1, l.mono x1, r1, o1⟩⟩
theorem tR.imp {m : Loc → AH → Res γ} {P : δ → Hp → Prop} (h : tR G R' W m σ H Q') (k : ∀ v H', Q' v H' → P v H') : tR G R' W m σ H P := by
  obtain ⟨ρ, A, L, s, l, o⟩ := h
  exact ⟨ρ, A, L, s, l, o.imp k⟩
end
section
variable {γ δ : Type} {G : Gl} {R' : Rel γ δ} {W : WX} {σ : St} {H : Hp} {Q' : δ → Hp → Prop}
theorem tR_two {ma mb : Loc → AH → Res D} {k : Loc → D → D → AH → Res γ} (h : tR G R' W (fun L A => (ma L A).bind fun x A => (mb L A).bind fun y A => k L x y A) σ H Q') :
    tR G RV W ma σ H fun v H1 => tR G RV W mb σ H1 fun u H2 => ∃ ρ A L x y, Sim ρ A H2 ∧ RL ρ H2 L σ ∧ RV ρ H2 x v ∧ RV ρ H2 y u ∧ OutR G R' W σ ρ H2 Q' (k L x y A) :=
  (tR_seq (R := RV) (k := fun L x A => (mb L A).bind fun y A => k L x y A) h).imp fun v H1 ⟨ρ1, A1, L, x, s1, l1, r1, o1⟩ =>
    ⟨ρ1, A1, L, s1, l1, (OutR.bind (R := RV) o1).imp fun u H2 ⟨ρ2, A2, y, x2, s2, r2, o2⟩ => ⟨ρ2, A2, L, x, y, s2, l1.mono x2, RV.mono x2 _ _ r1, r2, o2⟩⟩
end
section
variable {G : Gl} {W : WX} {X : Cx} {P : CProg} {F : Fns} {σ : St} {H : Hp}
abbrev RE (G : Gl) (P : CProg) (F : Fns) (X : Cx) (W : WX) (e : Expr) (c : CE) : Prop := PE X e (tR G RV W (evE P F c))
def REq (α : Type) : Rel α α := fun _ _ a b => a = b
abbrev RT (G : Gl) (P : CProg) (F : Fns) (X : Cx) (W : WX) (e : Expr) (c : CE) : Prop := PT X e (tR G (REq Bool) W (evT P F c))
theorem re_bad {e : Expr} : RE G P F X W e .bad := ⟨fun pins s σ H Q I h => by
  obtain ⟨ρ, A, L, _, _, o⟩ := h
  simp only [evE, OutR] at o⟩
theorem rt_bad {e : Expr} : RT G P F X W e .bad := ⟨fun pins s σ H Q I h => by
  obtain ⟨ρ, A, L, _, _, o⟩ := h
  simp only [evT, evE, Res.bind, OutR] at o⟩
theorem starEach_cons {e : Expr} {es : List Expr} {env : Env} (h : isStar e = false) : starEach (e :: es) env = (false, eval e env) :: starEach es env := by
  cases e <;> first | rfl | (exact (Bool.false_ne_true h.symm).elim)
theorem starEach_plain : ∀ {es : List Expr} {env : Env} {pos : Pos}, es.any isStar = false → (backTo pos (starEach es env)).any (·.1) = false
  | [], _, _, _ => rfl
  | e :: es, env, pos, h => by
    rw [List.any_cons, Bool.or_eq_false_iff] at h
    rw [starEach_cons h.1]
    show (false || (backTo pos (starEach es env)).any (·.1)) = false
    rw [Bool.false_or]
    exact starEach_plain h.2
theorem pa_list {f : Expr → CE} (hf : ∀ e, RE G P F X W e (f e)) : ∀ (es : List Expr), es.any isStar = false → PA X es (tR G RVs W (evEs P F (es.map f)))
  | [], _ => pa_nil.imp fun σ H Q ⟨ρ, A, L, s, l, o⟩ => OutR.ok (R := RVs) (by simpa only [List.map_nil, evEs] using o) s (by simp only [RVs])
  | e :: es, h => by
    rw [List.any_cons, Bool.or_eq_false_iff] at h
    refine (pa_cons (hf e) (pa_list hf es h.2) (starEach_cons h.1)).imp fun σ H Q q => ?_
    have q' : tR G RVs W (fun L A => (evE P F (f e) L A).bind fun d A => (evEs P F (es.map f) L A).bind fun ds A => .ok (d :: ds) A) σ H Q := by
      obtain ⟨ρ, A, L, s, l, o⟩ := q
      refine ⟨ρ, A, L, s, l, ?_⟩
      simpa only [List.map_cons, evEs] using o
    refine (tR_seq (R := RV) q').imp fun v H1 ⟨ρ1, A1, L, x, s1, l1, r1, o1⟩ => ⟨ρ1, A1, L, s1, l1, (OutR.bind (R := RVs) o1).imp fun us H2 ⟨ρ2, A2, ys, x2, s2, r2, o2⟩ => ?_⟩
    refine OutR.ok (R := RVs) o2 s2 ?_
    simp only [RVs]
    exact ⟨v, us, rfl, RV.mono x2 _ _ r1, r2⟩
theorem pa_listF {f : CEF} {C : Ctx} (hf : ∀ e, RE G P F X W e (f C e)) (es : List Expr) : PA X es (tR G RVs W (evEs P F (listF f C es))) := by
  unfold listF
  split
  · refine ⟨fun p pins s σ H Q I h => ?_⟩
    obtain ⟨ρ, A, L, _, _, o⟩ := h
    simp only [evEs, evE, Res.bind, OutR] at o
  · rename_i h
    exact pa_list hf es (by simpa using h)
end
end Kin
end
section
set_option linter.all false
set_option maxRecDepth 100000
/-! Kin 11: a rule for each expression. -/
namespace Kin
open PySem PySem.Spec PyProof.Rows L2
section
variable {G : Gl} {W : WX} {X : Cx} {P : CProg} {F : Fns} {pos : Pos} {C : Ctx} {k : Nat}
theorem re_cst {c : Const} {j : Nat} {d : D} (h : constD c = some d) : RE G P F X W (.Constant c j pos) (.cst d) := by
  cases c <;> simp only [constD, Option.some.injEq, reduceCtorEq] at h <;> subst h
  · exact pe_non.imp fun σ H Q ⟨ρ, A, L, s, l, o⟩ => out_non (by simpa only [evE] using o) s
  · exact pe_bl.imp fun σ H Q ⟨ρ, A, L, s, l, o⟩ => out_bl (by simpa only [evE] using o) s
  · exact pe_int.imp fun σ H Q ⟨ρ, A, L, s, l, o⟩ => out_int (by simpa only [evE] using o) s
  · exact pe_str.imp fun σ H Q ⟨ρ, A, L, s, l, o⟩ => out_str (by simpa only [evE] using o) s
theorem re_slot {i : Nat} {x : Str} (so : ScOk C X) (h : C.slot x = some i) : RE G P F X W (.Name x pos) (.slot i) := by
  obtain ⟨hv, hN, hn⟩ := so.vis x i h
  obtain ⟨d1, d2, _⟩ := okName_ok hn
  exact (pe_var hN hv d1 d2).imp fun σ H Q ⟨ρ, A, L, s, l, o⟩ => by
    simp only [evE] at o
    obtain ⟨d, e, o2⟩ := out_of1 o
    unfold getL at e
    split at e
    · rename_i d' e'
      cases e
      obtain ⟨v, q, r⟩ := l.2 i d e'
      exact ⟨v, q, OutR.ok o2 s r⟩
    · cases e
theorem re_con {x : Str} {d : D} (t : Top G F C k X) (so : ScOk C X) (hg : C.glob x = true) (h : C.cons.lookup x = some d) : RE G P F X W (.Name x pos) (.cst d) := by
  obtain ⟨g, hn⟩ := so.glob hg
  obtain ⟨v, u, hm, r, rv⟩ := t.cons x d h
  exact (pe_glob g hm r (okName_ok hn).1).imp fun σ H Q ⟨ρ, A, L, s, l, o⟩ => OutR.ok (R := RV) (by simpa only [evE] using o) s (rv _ _)
theorem re_tup {es : List Expr} {cs : List CE} {j : Nat} (h : PA X es (tR G RVs W (evEs P F cs))) : RE G P F X W (.Tuple es j pos) (.tup cs) :=
  (pe_tup h).imp fun σ H Q q => by
    have q' : tR G RV W (fun L A => (evEs P F cs L A).bind fun ds A => if ds.length ≤ lim then .ok (.tup ds) A else .bad) σ H Q := by
      obtain ⟨ρ, A, L, s, l, o⟩ := q
      exact ⟨ρ, A, L, s, l, by simpa only [evE] using o⟩
    refine (tR_seq (R := RVs) q').imp fun vs H1 ⟨ρ1, A1, L, ds, s1, l1, r1, o1⟩ => ?_
    split at o1
    · rename_i hl
      exact ⟨by rw [r1.length, ← lim_eq]; exact hl, out_tup o1 s1 r1⟩
    · exact (show False from o1).elim
theorem re_lst {es : List Expr} {cs : List CE} (h : PA X es (tR G RVs W (evEs P F cs))) : RE G P F X W (.List es pos) (.lst cs) :=
  (pe_lst h).imp fun σ H Q q => by
    have q' : tR G RV W (fun L A => (evEs P F cs L A).bind fun ds A => if ds.length ≤ lim then Res.of (some (new A (.lst ds))) else .bad) σ H Q := by
      obtain ⟨ρ, A, L, s, l, o⟩ := q
      exact ⟨ρ, A, L, s, l, by simpa only [evE] using o⟩
    refine (tR_seq (R := RVs) q').imp fun vs H1 ⟨ρ1, A1, L, ds, s1, l1, r1, o1⟩ => ?_
    split at o1
    · rename_i hl
      exact ⟨by rw [r1.length, ← lim_eq]; exact hl, out_lst o1 s1 r1⟩
    · exact (show False from o1).elim
theorem re_bin {a b : Expr} {ca cb : CE} {op : Operator} {bop : BOp} (h : opOf op = some bop) (ha : RE G P F X W a ca) (hb : RE G P F X W b cb) : RE G P F X W (.BinOp a op b pos) (.bin bop ca cb) := by
  obtain ⟨r, ho, k⟩ := bin_ok (X := X) h
  refine (pe_op ho ha hb).imp fun σ H Q q => ?_
  have q' : tR G RV W (fun L A => (evE P F ca L A).bind fun x A => (evE P F cb L A).bind fun y A => Res.of (binD bop x y A)) σ H Q := by
    obtain ⟨ρ, A, L, s, l, o⟩ := q
    exact ⟨ρ, A, L, s, l, by simpa only [evE] using o⟩
  exact (tR_two q').imp fun v H1 q => q.imp fun u H2 ⟨ρ, A, L, x, y, s, l, rx, ry, o⟩ => k s rx ry o
theorem re_pow {i j : Int} {k1 k2 : Nat} {p1 p2 : Pos} (h : 0 ≤ j ∧ j ≤ 100 ∧ i.natAbs < 1000) : RE G P F X W (.BinOp (.Constant (.int i) k1 p1) .Pow (.Constant (.int j) k2 p2) pos) (.cst (.int (i ^ j.toNat))) :=
  (pe_op op_pow pe_int pe_int).imp fun σ H Q ⟨ρ, A, L, s, l, o⟩ => ⟨i, j, rfl, rfl, ⟨h.1, by omega, by omega⟩, out_int (by simpa only [evE] using o) s⟩
theorem re_neg {a : Expr} {ca : CE} (ha : RE G P F X W a ca) : RE G P F X W (.UnaryOp .USub a pos) (.neg ca) :=
  (pe_un un_neg ha).imp fun σ H Q q => by
    have q' : tR G RV W (fun L A => (evE P F ca L A).bind fun x A => Res.of1 A (negD x)) σ H Q := by
      obtain ⟨ρ, A, L, s, l, o⟩ := q
      exact ⟨ρ, A, L, s, l, by simpa only [evE] using o⟩
    refine (tR_seq (R := RV) q').imp fun v H1 ⟨ρ1, A1, L, x, s1, l1, r1, o1⟩ => ?_
    obtain ⟨d, e, o2⟩ := out_of1 o1
    cases x <;> simp only [negD, reduceCtorEq, Option.some.injEq] at e
    subst e
    exact ⟨_, rv_int r1, out_int o2 s1⟩
theorem re_cmp {a b : Expr} {ca cb : CE} {op : CmpOp} {c : COp} (t : Top G F C k X) (h : cmpOf op = some c) (hs : isSet b = false) (ha : RE G P F X W a ca) (hb : RE G P F X W b cb) :
    RE G P F X W (.Compare a [op] [b] pos) (.cmp c ca cb) ∧ RT G P F X W (.Compare a [op] [b] pos) (.cmp c ca cb) := by
  obtain ⟨r, ho, k⟩ := cmp_ok (X := X) t.units h
  have hm : behindInMarks op b = false := by cases b <;> first | rfl | (exact (Bool.false_ne_true hs.symm).elim)
  refine ⟨(pe_cmpR ho ha hb hm).imp fun σ H Q q => ?_, (pt_cmpR ho ha hb hm).imp fun σ H Q q => ?_⟩
  · have q' : tR G RV W (fun L A => (evE P F ca L A).bind fun x A => (evE P F cb L A).bind fun y A => Res.of1 A ((cmpD c x y A).map .bl)) σ H Q := by
      obtain ⟨ρ, A, L, s, l, o⟩ := q
      exact ⟨ρ, A, L, s, l, by simpa only [evE] using o⟩
    exact (tR_two q').imp fun v H1 q => q.imp fun u H2 ⟨ρ, A, L, x, y, s, l, rx, ry, o⟩ => k s rx ry o
  · have q' : tR G (REq Bool) W (fun L A => (evE P F ca L A).bind fun x A => (evE P F cb L A).bind fun y A => (Res.of1 A ((cmpD c x y A).map .bl)).bind fun x A => Res.of1 A (truthD x A)) σ H Q := by
      obtain ⟨ρ, A, L, s, l, o⟩ := q
      refine ⟨ρ, A, L, s, l, ?_⟩
      simp only [evT, evE] at o
      cases e1 : evE P F ca L A with
      | ok x A1 =>
        simp only [e1, Res.bind] at o ⊢
        cases e2 : evE P F cb L A1 with
        | ok y A2 => simpa only [e2, Res.bind] using o
        | exc y A2 => simpa only [e2, Res.bind] using o
        | bad => simpa only [e2, Res.bind] using o
      | exc y A2 => simpa only [e1, Res.bind] using o
      | bad => simpa only [e1, Res.bind] using o
    refine (tR_two q').imp fun v H1 q => q.imp fun u H2 ⟨ρ, A, L, x, y, s, l, rx, ry, o⟩ => ?_
    refine k (W := W) (G := G) (σ := σ) s rx ry ?_
    cases e : cmpD c x y A with
    | none => rw [e] at o; exact o
    | some bb =>
      rw [e] at o
      intro ρ' H' w x' s' r'
      simp only [RV] at r'
      subst r'
      exact ⟨bb, rfl, o _ _ bb x' s' rfl⟩
end
end Kin
end
section
set_option linter.all false
set_option maxRecDepth 100000
/-! Kin 12: more rules for expressions. -/
namespace Kin
open PySem PySem.Spec PyProof.Rows L2
section
variable {G : Gl} {W : WX} {X : Cx} {P : CProg} {F : Fns} {pos : Pos} {C : Ctx} {k : Nat}
/-- a test whose value alone counts -/
theorem rt_of {e : Expr} {c : CE} (h : RE G P F X W e c) (he : ∀ whole, PySem.isTrue e X.env whole = (do let v ← whole; standAt e.pos; holding [v] (truthy v))) : RT G P F X W e c :=
  (pt_truth h he).imp fun σ H Q q => (tR_seq (R := RV) (k := fun _ x A => Res.of1 A (truthD x A)) q).imp fun v H1 ⟨ρ1, A1, L, x, s1, l1, r1, o1⟩ => by
    obtain ⟨b, e, o⟩ := out_of1 o1
    exact ⟨b, pr_truth s1 r1 e, OutR.ok (R := REq Bool) o s1 rfl⟩
theorem res_bind {α β γ : Type} (r : Res α) (f : α → AH → Res β) (g : β → AH → Res γ) : (r.bind f).bind g = r.bind fun x A => (f x A).bind g := by cases r <;> rfl
theorem onB_bind {α β : Type} (o : Option Bool) (t f : Res α) (g : α → AH → Res β) : (onB o t f).bind g = onB o (t.bind g) (f.bind g) := by
  cases o with
  | none => rfl
  | some b => cases b <;> rfl
theorem onB_of {α β : Type} {R : Rel α β} {σ : St} {ρ : List Addr} {H : Hp} {Q : β → Hp → Prop} {o : Option Bool} {t f : Res α} (h : OutR G R W σ ρ H Q (onB o t f)) : ∃ b, o = some b ∧ OutR G R W σ ρ H Q (if b = true then t else f) := by
  cases o with
  | none => exact (show False from h).elim
  | some b => exact ⟨b, rfl, by cases b <;> exact h⟩
theorem evT_eq (c : CE) : evT P F c = fun L A => (evE P F c L A).bind fun x A => Res.of1 A (truthD x A) := rfl
theorem re_and {a b : Expr} {rest : List Expr} {ca cb : CE} (ha : RE G P F X W a ca) (hb : RE G P F X W (.BoolOp .And (b :: rest) pos) cb) : RE G P F X W (.BoolOp .And (a :: b :: rest) pos) (.and ca cb) :=
  (pe_andT ha hb).imp fun σ H Q q => by
    have q' : tR G RV W (fun L A => (evE P F ca L A).bind fun x A => onB (truthD x A) (evE P F cb L A) (.ok x A)) σ H Q := by
      obtain ⟨ρ, A, L, s, l, o⟩ := q
      exact ⟨ρ, A, L, s, l, by simpa only [evE] using o⟩
    refine (tR_seq (R := RV) q').imp fun v H1 ⟨ρ1, A1, L, x, s1, l1, r1, o1⟩ => ?_
    obtain ⟨b, e, o⟩ := onB_of o1
    refine ⟨b, pr_truth s1 r1 e, ?_⟩
    cases b
    · exact OutR.ok (R := RV) o s1 r1
    · exact ⟨ρ1, A1, L, s1, l1, o⟩
theorem re_or {a b : Expr} {rest : List Expr} {ca cb : CE} (ha : RE G P F X W a ca) (hb : RE G P F X W (.BoolOp .Or (b :: rest) pos) cb) : RE G P F X W (.BoolOp .Or (a :: b :: rest) pos) (.or ca cb) :=
  (pe_orT ha hb).imp fun σ H Q q => by
    have q' : tR G RV W (fun L A => (evE P F ca L A).bind fun x A => onB (truthD x A) (.ok x A) (evE P F cb L A)) σ H Q := by
      obtain ⟨ρ, A, L, s, l, o⟩ := q
      exact ⟨ρ, A, L, s, l, by simpa only [evE] using o⟩
    refine (tR_seq (R := RV) q').imp fun v H1 ⟨ρ1, A1, L, x, s1, l1, r1, o1⟩ => ?_
    obtain ⟨b, e, o⟩ := onB_of o1
    refine ⟨b, pr_truth s1 r1 e, ?_⟩
    cases b
    · exact ⟨ρ1, A1, L, s1, l1, o⟩
    · exact OutR.ok (R := RV) o s1 r1
theorem re_not {a : Expr} {ca : CE} (ha : RE G P F X W a ca) : RE G P F X W (.UnaryOp .Not a pos) (.not ca) :=
  (pe_notT ha).imp fun σ H Q q => by
    have q' : tR G RV W (fun L A => (evE P F ca L A).bind fun x A => Res.of1 A ((truthD x A).map fun b => .bl (!b))) σ H Q := by
      obtain ⟨ρ, A, L, s, l, o⟩ := q
      exact ⟨ρ, A, L, s, l, by simpa only [evE] using o⟩
    refine (tR_seq (R := RV) q').imp fun v H1 ⟨ρ1, A1, L, x, s1, l1, r1, o1⟩ => ?_
    obtain ⟨d, e, o⟩ := out_of1 o1
    cases q : truthD x A1 with
    | none => rw [q] at e; cases e
    | some b =>
      rw [q] at e
      cases e
      exact ⟨b, pr_truth s1 r1 q, out_bl o s1⟩
theorem rt_not {a : Expr} {ca : CE} (ha : RT G P F X W a ca) : RT G P F X W (.UnaryOp .Not a pos) (.not ca) :=
  (pt_not ha).imp fun σ H Q ⟨ρ, A, L, s, l, o⟩ => by
    refine ⟨ρ, A, L, s, l, ?_⟩
    simp only [evT, evE, res_bind] at o
    have o' : OutR G (REq Bool) W σ ρ H Q ((evT P F ca L A).bind fun b A => .ok (!b) A) := by
      simp only [evT, res_bind]
      refine cast (congrArg _ (congrArg _ (funext fun x => funext fun A => ?_))) o
      cases truthD x A <;> rfl
    exact (OutR.bind (R := REq Bool) o').imp fun c H1 ⟨ρ1, A1, b, x1, s1, r1, o1⟩ => by
      cases r1
      exact OutR.ok (R := REq Bool) o1 s1 rfl
theorem pw_of1 {op : BoolOp} {a : Expr} {ca : CE} (ha : RT G P F X W a ca) : PW X (.BoolOp op [a] pos) (tR G (REq Bool) W (evT P F ca)) := by
  cases op
  · exact pw_and1 ha
  · exact pw_or1 ha
theorem pw_and_ {a b : Expr} {rest : List Expr} {ca cb : CE} (ha : RT G P F X W a ca) (hb : PW X (.BoolOp .And (b :: rest) pos) (tR G (REq Bool) W (evT P F cb))) : PW X (.BoolOp .And (a :: b :: rest) pos) (tR G (REq Bool) W (evT P F (.and ca cb))) :=
  (pw_and ha hb).imp fun σ H Q ⟨ρ, A, L, s, l, o⟩ => by
    refine ⟨ρ, A, L, s, l, ?_⟩
    have o' : OutR G (REq Bool) W σ ρ H Q ((evT P F ca L A).bind fun b A => if b = true then evT P F cb L A else .ok false A) := by
      simp only [evT, evE, res_bind] at o ⊢
      refine cast (congrArg _ (congrArg _ (funext fun x => funext fun A => ?_))) o
      cases q : truthD x A with
      | none => rfl
      | some b => cases b <;> simp only [onB, Res.bind, Res.of1, q, if_true] <;> rfl
    exact (OutR.bind (R := REq Bool) o').imp fun c H1 ⟨ρ1, A1, b, x1, s1, r1, o1⟩ => by
      cases r1
      cases c
      · exact OutR.ok (R := REq Bool) o1 s1 rfl
      · exact ⟨ρ1, A1, L, s1, l.mono x1, o1⟩
theorem pw_or_ {a b : Expr} {rest : List Expr} {ca cb : CE} (ha : RT G P F X W a ca) (hb : PW X (.BoolOp .Or (b :: rest) pos) (tR G (REq Bool) W (evT P F cb))) : PW X (.BoolOp .Or (a :: b :: rest) pos) (tR G (REq Bool) W (evT P F (.or ca cb))) :=
  (pw_or ha hb).imp fun σ H Q ⟨ρ, A, L, s, l, o⟩ => by
    refine ⟨ρ, A, L, s, l, ?_⟩
    have o' : OutR G (REq Bool) W σ ρ H Q ((evT P F ca L A).bind fun b A => if b = true then .ok true A else evT P F cb L A) := by
      simp only [evT, evE, res_bind] at o ⊢
      refine cast (congrArg _ (congrArg _ (funext fun x => funext fun A => ?_))) o
      cases q : truthD x A with
      | none => rfl
      | some b => cases b <;> simp only [onB, Res.bind, Res.of1, q, if_true] <;> rfl
    exact (OutR.bind (R := REq Bool) o').imp fun c H1 ⟨ρ1, A1, b, x1, s1, r1, o1⟩ => by
      cases r1
      cases c
      · exact ⟨ρ1, A1, L, s1, l.mono x1, o1⟩
      · exact OutR.ok (R := REq Bool) o1 s1 rfl
/-- a row of conditions, as a value and as a test -/
theorem re_bools {op : BoolOp} {f : Expr → CE} (hf : ∀ e, RE G P F X W e (f e)) : ∀ es : List Expr, RE G P F X W (.BoolOp op es pos) (boolF op (es.map f))
  | [] => re_bad
  | [e] => pe_one (hf e)
  | a :: b :: es => by
    cases op
    · exact re_and (hf a) (re_bools hf (b :: es))
    · exact re_or (hf a) (re_bools hf (b :: es))
theorem rt_bools {op : BoolOp} {f : Expr → CE} (hf : ∀ e, RT G P F X W e (f e)) : ∀ es : List Expr, PW X (.BoolOp op es pos) (tR G (REq Bool) W (evT P F (boolF op (es.map f))))
  | [] => ⟨fun w pins s σ H Q I h => by
    obtain ⟨ρ, A, L, _, _, o⟩ := h
    simp only [List.map_nil, boolF, evT, evE, Res.bind, OutR] at o⟩
  | [e] => pw_of1 (hf e)
  | a :: b :: es => by
    cases op
    · exact pw_and_ (hf a) (rt_bools hf (b :: es))
    · exact pw_or_ (hf a) (rt_bools hf (b :: es))
/-! a if c else b -/
theorem re_ite {c a b : Expr} {cc ca cb : CE} (hc : RT G P F X W c cc) (ha : RE G P F X W a ca) (hb : RE G P F X W b cb) : RE G P F X W (.IfExp c a b pos) (.ite cc ca cb) :=
  (pe_ifExp hc ha hb).imp fun σ H Q ⟨ρ, A, L, s, l, o⟩ => by
    refine ⟨ρ, A, L, s, l, ?_⟩
    have o' : OutR G RV W σ ρ H Q ((evT P F cc L A).bind fun k A => if k = true then evE P F ca L A else evE P F cb L A) := by
      simp only [evT, evE, res_bind] at o ⊢
      refine cast (congrArg _ (congrArg _ (funext fun x => funext fun A => ?_))) o
      cases q : truthD x A with
      | none => rfl
      | some b => cases b <;> simp only [onB, Res.bind, Res.of1, if_true] <;> rfl
    exact (OutR.bind (R := REq Bool) o').imp fun c H1 ⟨ρ1, A1, b, x1, s1, r1, o1⟩ => by
      cases r1
      cases c <;> exact ⟨ρ1, A1, L, s1, l.mono x1, o1⟩
theorem rt_ite {c a b : Expr} {cc ca cb : CE} (hc : RT G P F X W c cc) (ha : RT G P F X W a ca) (hb : RT G P F X W b cb) : RT G P F X W (.IfExp c a b pos) (.ite cc ca cb) := by
  have h : PT X (.IfExp c a b pos) (fun σ H Q => tR G (REq Bool) W (evT P F cc) σ H fun k H1 => if k = true then tR G (REq Bool) W (evT P F ca) σ H1 Q else tR G (REq Bool) W (evT P F cb) σ H1 Q) := by
    refine ⟨fun pins s σ H Q I h => ?_⟩
    refine isTrue_IfExp (thn (hc.run pins s σ H _ I h) fun k s1 ⟨H1, I1, q1⟩ => ?_)
    cases k
    · exact hb.run pins s1 σ H1 _ I1 q1
    · exact ha.run pins s1 σ H1 _ I1 q1
  refine h.imp fun σ H Q ⟨ρ, A, L, s, l, o⟩ => ?_
  refine ⟨ρ, A, L, s, l, ?_⟩
  have o' : OutR G (REq Bool) W σ ρ H Q ((evT P F cc L A).bind fun k A => if k = true then evT P F ca L A else evT P F cb L A) := by
    simp only [evT, evE, res_bind, onB_bind] at o ⊢
    refine cast (congrArg _ (congrArg _ (funext fun x => funext fun A => ?_))) o
    cases q : truthD x A with
    | none => rfl
    | some b => cases b <;> simp only [onB, Res.bind, Res.of1, if_true] <;> rfl
  exact (OutR.bind (R := REq Bool) o').imp fun c H1 ⟨ρ1, A1, b, x1, s1, r1, o1⟩ => by
    cases r1
    cases c <;> exact ⟨ρ1, A1, L, s1, l.mono x1, o1⟩
/-! a op b op' c -/
theorem re_chain {a b c : Expr} {ca cb cc : CE} {op op' : CmpOp} {p p' : COp} (t : Top G F C k X) (h : cmpOf op = some p) (h' : cmpOf op' = some p') (hs : isSet c = false) (ha : RE G P F X W a ca) (hb : RE G P F X W b cb) (hc : RE G P F X W c cc) :
    RE G P F X W (.Compare a [op, op'] [b, c] pos) (.chain p p' ca cb cc) ∧ RT G P F X W (.Compare a [op, op'] [b, c] pos) (.chain p p' ca cb cc) := by
  obtain ⟨r, ho, k⟩ := cmp_ok (X := X) t.units h
  obtain ⟨r', ho', k'⟩ := cmp_ok (X := X) t.units h'
  have hm : lastMarks [op, op'] [b, c] = false := by
    show behindInMarks op' c = false
    cases c <;> first | rfl | (exact (Bool.false_ne_true hs.symm).elim)
  have key : ∀ σ H Q, tR G RV W (evE P F (.chain p p' ca cb cc)) σ H Q → tChain r r' (tR G RV W (evE P F ca)) (tR G RV W (evE P F cb)) (tR G RV W (evE P F cc)) σ H Q := by
    intro σ H Q q
    have q' : tR G RV W (fun L A => (evE P F ca L A).bind fun x A => (evE P F cb L A).bind fun y A => onB (cmpD p x y A) ((evE P F cc L A).bind fun z A => Res.of1 A ((cmpD p' y z A).map .bl)) (.ok (.bl false) A)) σ H Q := by
      obtain ⟨ρ, A, L, s, l, o⟩ := q
      exact ⟨ρ, A, L, s, l, by simpa only [evE] using o⟩
    refine (tR_two q').imp fun v H1 q => q.imp fun u H2 ⟨ρ, A, L, x, y, s, l, rx, ry, o⟩ => ?_
    obtain ⟨b, e, o⟩ := onB_of o
    refine k (W := fun _ _ _ _ => False) (G := G) (σ := σ) s rx ry ?_
    rw [e]
    intro ρ' H' w x' s' r''
    simp only [RV] at r''
    subst r''
    refine ⟨b, rfl, ?_⟩
    cases b
    · exact out_bl (OutR.mono x' o) s'
    · rw [if_pos rfl]
      rw [if_pos rfl] at o
      refine ⟨ρ', A, L, s', l.mono x', (OutR.bind (R := RV) (OutR.mono x' o)).imp fun w H4 ⟨ρ4, A4, z, x4, s4, r4, o4⟩ => ?_⟩
      exact k' s4 (RV.mono (x'.trans x4) _ _ ry) r4 o4
  refine ⟨(pe_chain ho ho' ha hb hc hm).imp key, (pt_chain ho ho' ha hb hc hm).imp fun σ H Q q => key σ H _ ?_⟩
  obtain ⟨ρ, A, L, s, l, o⟩ := q
  refine ⟨ρ, A, L, s, l, ?_⟩
  have bl : ∀ d A2, evE P F (.chain p p' ca cb cc) L A = .ok d A2 → ∃ b, d = .bl b := by
    intro d A2 e
    simp only [evE] at e
    cases e1 : evE P F ca L A with
    | ok x A3 =>
      rw [e1] at e
      simp only [Res.bind] at e
      cases e2 : evE P F cb L A3 with
      | ok y A4 =>
        rw [e2] at e
        simp only at e
        cases e3 : cmpD p x y A4 with
        | none => rw [e3] at e; cases e
        | some b =>
          rw [e3] at e
          cases b
          · cases e; exact ⟨_, rfl⟩
          · simp only [onB] at e
            cases e4 : evE P F cc L A4 with
            | ok z A5 =>
              rw [e4] at e
              simp only at e
              cases e5 : cmpD p' y z A5 with
              | none => rw [e5] at e; cases e
              | some b => rw [e5] at e; cases e; exact ⟨_, rfl⟩
            | exc _ _ => rw [e4] at e; cases e
            | bad => rw [e4] at e; cases e
      | exc _ _ => rw [e2] at e; cases e
      | bad => rw [e2] at e; cases e
    | exc _ _ => rw [e1] at e; cases e
    | bad => rw [e1] at e; cases e
  simp only [evT] at o
  cases e : evE P F (.chain p p' ca cb cc) L A with
  | ok d A2 =>
    rw [e] at o
    obtain ⟨b, rfl⟩ := bl d A2 e
    intro ρ' H' v x' s' r'
    simp only [RV] at r'
    subst r'
    exact ⟨b, rfl, o ρ' H' b x' s' rfl⟩
  | exc _ _ => rw [e] at o; exact o
  | bad => rw [e] at o; exact o
end
end Kin
end
section
set_option linter.all false
set_option maxRecDepth 100000
/-! Kin 13: items, slices, calls, isinstance, dicts. -/
namespace Kin
open PySem PySem.Spec PyProof.Rows L2
section
variable {G : Gl} {W : WX} {X : Cx} {P : CProg} {F : Fns} {pos : Pos} {C : Ctx} {k : Nat}
theorem plain_ix {b : Expr} (h : isSlice b = false) : PlainIx b := fun o i => by
  cases b <;> first | rfl | (exact (Bool.false_ne_true h.symm).elim)
theorem re_idx {a b : Expr} {ca cb : CE} (t : Top G F C k X) (hs : isSlice b = false) (ha : RE G P F X W a ca) (hb : RE G P F X W b cb) : RE G P F X W (.Subscript a b pos) (.idx ca cb) :=
  (pe_ix (ix_all (by have := t.units; omega)) ha hb (plain_ix hs)).imp fun σ H Q q => by
    have q' : tR G RV W (fun L A => (evE P F ca L A).bind fun x A => (evE P F cb L A).bind fun y A => Res.of1 A (idxD x y A)) σ H Q := by
      obtain ⟨ρ, A, L, s, l, o⟩ := q
      exact ⟨ρ, A, L, s, l, by simpa only [evE] using o⟩
    exact (tR_two q').imp fun v H1 q => q.imp fun u H2 ⟨ρ, A, L, x, y, s, l, rx, ry, o⟩ => pr_idx s rx ry o
theorem po_of {e : Option Expr} {f : Expr → CE} (hf : ∀ e, RE G P F X W e (f e)) : PO X e (tR G (REq (Option Int)) W (evO P F (e.map f))) := by
  cases e with
  | none => exact po_none.imp fun σ H Q ⟨ρ, A, L, s, l, o⟩ => OutR.ok (R := REq (Option Int)) (by simpa only [Option.map_none, evO] using o) s rfl
  | some e =>
    refine (po_some (hf e)).imp fun σ H Q q => ?_
    have q' : tR G (REq (Option Int)) W (fun L A => (evE P F (f e) L A).bind fun d A => Res.of1 A ((intOf d).map some)) σ H Q := by
      obtain ⟨ρ, A, L, s, l, o⟩ := q
      exact ⟨ρ, A, L, s, l, by simpa only [Option.map_some, evO] using o⟩
    refine (tR_seq (R := RV) q').imp fun v H1 ⟨ρ1, A1, L, x, s1, l1, r1, o1⟩ => ?_
    obtain ⟨d, e, o⟩ := out_of1 o1
    cases x <;> simp only [intOf, Option.map_none, Option.map_some, reduceCtorEq, Option.some.injEq] at e
    subst e
    exact ⟨_, rv_int r1, OutR.ok (R := REq (Option Int)) o s1 rfl⟩
theorem re_slc {a : Expr} {ca : CE} {lo hi : Option Expr} {f : Expr → CE} {p2 : Pos} (hf : ∀ e, RE G P F X W e (f e)) (ha : RE G P F X W a ca) : RE G P F X W (.Subscript a (.Slice lo hi none p2) pos) (.slc ca (lo.map f) (hi.map f)) :=
  (pe_slice sl_all ha (po_of hf) (po_of hf)).imp fun σ H Q q => by
    have q' : tR G RV W (fun L A => (evE P F ca L A).bind fun x A => (evO P F (lo.map f) L A).bind fun l A => (evO P F (hi.map f) L A).bind fun h A => Res.of (slcD x l h A)) σ H Q := by
      obtain ⟨ρ, A, L, s, l, o⟩ := q
      exact ⟨ρ, A, L, s, l, by simpa only [evE] using o⟩
    refine (tR_seq (R := RV) q').imp fun v H1 ⟨ρ1, A1, L, x, s1, l1, r1, o1⟩ => ⟨ρ1, A1, L, s1, l1, (OutR.bind (R := REq (Option Int)) o1).imp fun u H2 ⟨ρ2, A2, y, x2, s2, r2, o2⟩ => ?_⟩
    refine ⟨ρ2, A2, L, s2, l1.mono x2, (OutR.bind (R := REq (Option Int)) o2).imp fun w H3 ⟨ρ3, A3, z, x3, s3, r3, o3⟩ => ?_⟩
    cases r2
    cases r3
    exact pr_slc s3 (RV.mono (x2.trans x3) _ _ r1) o3
theorem rvs_rev {ρ : List Addr} {H : Hp} : ∀ {ds : List D} {vs : List V}, RVs ρ H ds vs → RVs ρ H ds.reverse vs.reverse
  | [], vs, h => by
    simp only [RVs] at h
    subst h
    simp only [List.reverse_nil, RVs]
  | d :: ds, vs, h => by
    simp only [RVs] at h
    obtain ⟨v, us, rfl, r, rs⟩ := h
    rw [List.reverse_cons, List.reverse_cons]
    exact (rvs_rev rs).append (by simp only [RVs]; exact ⟨v, [], rfl, r, rfl⟩)
theorem re_rev {a : Expr} {ca : CE} {j : Nat} {p1 p2 p3 : Pos} (ha : RE G P F X W a ca) : RE G P F X W (.Subscript a (.Slice none none (some (.UnaryOp .USub (.Constant (.int 1) j p1) p2)) p3) pos) (.rev ca) :=
  (pe_revT ha).imp fun σ H Q q => by
    have q' : tR G RV W (fun L A => (evE P F ca L A).bind fun x A => Res.of (revD x A)) σ H Q := by
      obtain ⟨ρ, A, L, s, l, o⟩ := q
      exact ⟨ρ, A, L, s, l, by simpa only [evE] using o⟩
    refine (tR_seq (R := RV) q').imp fun v H1 ⟨ρ1, A1, L, x, s1, l1, r1, o1⟩ => ?_
    cases x with
    | tup ds =>
      obtain ⟨a, vs, rfl, ha, ra⟩ := rv_tup r1
      exact ⟨a, vs, rfl, .of ha, out_tup o1 s1 (rvs_rev ra)⟩
    | _ => exact (show False from o1).elim
/-! calls -/
theorem re_call {x : Str} {e : Expr} {es : List Expr} {cs : List CE} {i : Nat} {p : Pos} (t : Top G F C k X) (so : ScOk C X) (tk : Takes X W) (hg : C.glob x = true) (hf : C.funs.lookup x = some i) (hp : (e :: es).any isStar = false)
    (ha : PA X (e :: es) (tR G RVs W (evEs P F cs))) : RE G P F X W (.Call (.Name x p) (e :: es) [] pos) (.call i cs) := by
  obtain ⟨g, hn⟩ := so.glob hg
  obtain ⟨f, fd, ps, hm, hk, hb, FO⟩ := t.fun_ x i hf
  have hp' := hp
  rw [List.any_cons, Bool.or_eq_false_iff] at hp
  refine (pe_callS FO t.room g hm hk hb (fun σ => passAt tk σ) ha (okName_ok hn).1 (starEach_cons hp.1) (starEach_plain hp.2)).imp fun σ H Q q => ?_
  have q' : tR G RV W (fun L A => (evEs P F cs L A).bind fun ds A => F.call i ds A) σ H Q := by
    obtain ⟨ρ, A, L, s, l, o⟩ := q
    exact ⟨ρ, A, L, s, l, by simpa only [evE] using o⟩
  exact (tR_seq (R := RVs) q').imp fun vs H1 ⟨ρ1, A1, L, ds, s1, l1, r1, o1⟩ => ⟨ρ1, A1, ds, s1, r1, by
    cases h : F.call i ds A1 with
    | ok a A2 => rw [h] at o1; exact o1
    | exc a A2 => rw [h] at o1; exact o1
    | bad => rw [h] at o1; exact o1⟩
theorem re_blt {x : Str} {e : Expr} {es : List Expr} {cs : List CE} {b : Blt} {p : Pos} (t : Top G F C k X) (so : ScOk C X) (hg : C.bltn x = true) (hb : bltOf x = some b ∨ btyOf x = some b) (hp : (e :: es).any isStar = false)
    (ha : PA X (e :: es) (tR G RVs W (evEs P F cs))) : RE G P F X W (.Call (.Name x p) (e :: es) [] pos) (.blt b cs) := by
  obtain ⟨g, hn, hc⟩ := so.bltn hg
  have hm := t.blt x hc
  obtain ⟨d1, _, d3⟩ := okName_ok hn
  have hp' := hp
  rw [List.any_cons, Bool.or_eq_false_iff] at hp
  have fin : ∀ {r : List V → Hp → VK → Prop}, PrB b r → ∀ σ H Q, tR G RV W (evE P F (.blt b cs)) σ H Q → tCB r (tR G RVs W (evEs P F cs)) σ H Q := by
    intro r pr σ H Q q
    have q' : tR G RV W (fun L A => (evEs P F cs L A).bind fun ds A => Res.of (callB b ds A)) σ H Q := by
      obtain ⟨ρ, A, L, s, l, o⟩ := q
      exact ⟨ρ, A, L, s, l, by simpa only [evE] using o⟩
    exact (tR_seq (R := RVs) q').imp fun vs H1 ⟨ρ1, A1, L, ds, s1, l1, r1, o1⟩ => pr s1 r1 o1
  rcases hb with hb | hb
  · obtain ⟨id, r, hv, cr, pr⟩ := fn_ok (X := X) t.calm hb
    exact (pe_callB cr g hm hv ha d3 d1 (starEach_cons hp.1) (starEach_plain hp.2)).imp (fin pr)
  · obtain ⟨T, r, hv, cr, pr⟩ := ty_ok (X := X) hb
    exact (pe_callTy cr g hm hv ha d3 d1 (starEach_cons hp.1) (starEach_plain hp.2)).imp (fin pr)
theorem tyOf_at {T : Ty} {e : Expr} (t : Top G F C k X) (so : ScOk C X) (h : tyOf C e = some T) : PE X e (tC (.ty (tyS T))) := by
  cases e with
  | Name x p =>
    simp only [tyOf] at h
    split at h
    · rename_i hb
      obtain ⟨g, hn, hc⟩ := so.bltn hb
      have hm := t.blt x hc
      obtain ⟨d1, _, d3⟩ := okName_ok hn
      have key : bootBuiltins x = some (.type (tyS T)) := by
        split at h
        · rename_i e; subst e; cases h; decide +kernel
        split at h
        · rename_i e; subst e; cases h; decide +kernel
        split at h
        · rename_i e; subst e; cases h; decide +kernel
        split at h
        · rename_i e; subst e; cases h; decide +kernel
        split at h
        · rename_i e; subst e; cases h; decide +kernel
        split at h
        · rename_i e; subst e; cases h; decide +kernel
        cases h
      exact pe_bltn (v := .ty (tyS T)) g hm key rfl d3 d1
    · cases h
  | _ => simp [tyOf] at h
theorem re_isi {a c : Expr} {ca : CE} {T : Ty} {x : Str} {p : Pos} (t : Top G F C k X) (so : ScOk C X) (hg : C.bltn x = true) (hx : x = ("isinstance" : Str)) (hs : isStar a = false) (hc : tyOf C c = some T) (ha : RE G P F X W a ca) :
    RE G P F X W (.Call (.Name x p) [a, c] [] pos) (.isi ca [T]) := by
  obtain ⟨g, hn, hcc⟩ := so.bltn hg
  have hm := t.blt x hcc
  have sc : isStar c = false := by cases c <;> first | rfl | simp [tyOf] at hc
  obtain ⟨d1, _, d3⟩ := okName_ok hn
  have hv : bootBuiltins x = some (.builtin "isinstance") := by subst hx; decide +kernel
  refine (pe_callB call_isi g hm hv (pa_cons ha (pa_cons (tyOf_at t so hc) pa_nil (starEach_cons sc)) (starEach_cons hs)) d3 d1 (starEach_cons hs) (starEach_plain (by simp [sc]))).imp fun σ H Q q => ?_
  have q' : tR G RV W (fun L A => (evE P F ca L A).bind fun x A => .ok (.bl ([T].any fun c => (tyD x A).contains c)) A) σ H Q := by
    obtain ⟨ρ, A, L, s, l, o⟩ := q
    exact ⟨ρ, A, L, s, l, by simpa only [evE] using o⟩
  refine (tR_seq (R := RV) q').imp fun v H1 ⟨ρ1, A1, L, x, s1, l1, r1, o1⟩ => ?_
  obtain ⟨ty, h1, h2⟩ := ty_at (K := X.K) s1 r1 T
  refine ⟨v, .ty (tyS T), ty, _, _, rfl, .ty _, h1, h2, ?_⟩
  have o2 := out_bl o1 s1
  simpa using o2
/-! list(range(..)) -/
theorem rgV_at {ρ : List Addr} {H : Hp} (a b : Int) : RVs ρ H (rngItems a b) (rgV a b) := by
  refine RVs.of_get (by simp [rngItems, rgV]) fun i d v h1 h2 => ?_
  unfold rngItems at h1
  unfold rgV at h2
  rw [List.getElem?_map] at h1 h2
  cases e : (List.range (b - a).toNat)[i]? with
  | none => rw [e] at h1; cases h1
  | some j =>
    rw [e] at h1 h2
    cases h1
    cases h2
    simp only [RV]
theorem okR_ok {i j : Int} (h : okR i j = true) : -(2 ^ 62) ≤ i ∧ i < 2 ^ 62 ∧ -(2 ^ 62) ≤ j ∧ j < 2 ^ 62 := of_decide_eq_true h
theorem re_listR {e : Expr} {as : List Expr} {f : Expr → CE} {x : Str} {p : Pos} (t : Top G F C k X) (so : ScOk C X) (hg : C.bltn x = true) (hx : x = ("list" : Str)) (he : rangeArgs C e = some as) (hf : ∀ e, RE G P F X W e (f e)) :
    RE G P F X W (.Call (.Name x p) [e] [] pos) (.listR (as.map f)) := by
  obtain ⟨g, hn, hcc⟩ := so.bltn hg
  have hm := t.blt x hcc
  subst hx
  cases e with
  | Call fe es kws pp =>
    cases fe with
    | Name y py =>
      cases kws with
      | cons _ _ => simp [rangeArgs] at he
      | nil =>
        simp only [rangeArgs] at he
        split at he
        · rename_i hc
          rw [Bool.and_eq_true, Bool.and_eq_true] at hc
          obtain ⟨⟨h1, h2⟩, h3⟩ := hc
          have h1' : y = ("range" : Str) := by simpa using h1
          subst h1'
          obtain ⟨g2, _, hc2⟩ := so.bltn h2
          have hm2 := t.blt _ hc2
          have h3' : es.any isStar = false := by simpa using h3
          match es, he, h3' with
          | [a], he, h3' =>
            cases he
            have sa : isStar a = false := by simpa using h3'
            refine (pe_listRg (e := .Call (.Name "range" py) [a] [] pp) t.calm g hm (prg_1 g2 hm2 (hf a) (starEach_cons sa)) rfl).imp fun σ H Q q => ?_
            have q' : tR G RV W (fun L A => (evE P F (f a) L A).bind fun d A => Res.of ((rngLst [d]).map fun l => new A (.lst l))) σ H Q := by
              obtain ⟨ρ, A, L, s, l, o⟩ := q
              refine ⟨ρ, A, L, s, l, ?_⟩
              simp only [evE, List.map_cons, List.map_nil, evEs, res_bind] at o
              simpa only [Res.bind] using o
            refine (tR_seq (R := RV) q').imp fun v H1 ⟨ρ1, A1, L, d, s1, l1, r1, o1⟩ => ?_
            obtain ⟨dd, A', e, o2⟩ := out_of o1
            cases d <;> simp only [rngLst, reduceCtorEq, Option.map_none] at e
            split at e
            · rename_i hl
              rw [Bool.and_eq_true] at hl
              obtain ⟨b1, b2, b3, b4⟩ := okR_ok hl.1
              have b5 := of_decide_eq_true hl.2
              cases e
              exact ⟨_, rv_int r1, ⟨b1, b2, b3, b4, by omega⟩, out_lst (G := G) (W := W) (σ := σ) o2 s1 (rgV_at _ _)⟩
            · cases e
          | [a, b], he, h3' =>
            cases he
            have sa : isStar a = false ∧ isStar b = false := by simpa using h3'
            refine (pe_listRg (e := .Call (.Name "range" py) [a, b] [] pp) t.calm g hm (prg_2 g2 hm2 (hf a) (hf b) (starEach_cons sa.1) (starEach_cons sa.2) (starEach_plain (by simp [sa.2]))) rfl).imp fun σ H Q q => ?_
            have q' : tR G RV W (fun L A => (evE P F (f a) L A).bind fun d A => (evE P F (f b) L A).bind fun d2 A => Res.of ((rngLst [d, d2]).map fun l => new A (.lst l))) σ H Q := by
              obtain ⟨ρ, A, L, s, l, o⟩ := q
              refine ⟨ρ, A, L, s, l, ?_⟩
              simp only [evE, List.map_cons, List.map_nil, evEs, res_bind] at o
              simpa only [Res.bind] using o
            refine (tR_two q').imp fun v H1 q => q.imp fun u H2 ⟨ρ, A, L, d, d2, s1, l, rx, ry, o⟩ => ?_
            obtain ⟨dd, A', e, o2⟩ := out_of o
            cases d <;> cases d2 <;> simp only [rngLst, reduceCtorEq, Option.map_none] at e
            split at e
            · rename_i hl
              rw [Bool.and_eq_true] at hl
              obtain ⟨b1, b2, b3, b4⟩ := okR_ok hl.1
              have b5 := of_decide_eq_true hl.2
              cases e
              exact ⟨_, _, rv_int rx, rv_int ry, ⟨b1, b2, b3, b4, b5⟩, out_lst (G := G) (W := W) (σ := σ) o2 s1 (rgV_at _ _)⟩
            · cases e
        · cases he
    | _ => simp [rangeArgs] at he
  | _ => simp [rangeArgs] at he
end
end Kin
end
section
set_option linter.all false
set_option maxRecDepth 100000
/-! Kin 14: {k: v, ..}. -/
namespace Kin
open PySem PySem.Spec PyProof.Rows L2
section
variable {G : Gl} {W : WX} {X : Cx} {P : CProg} {F : Fns} {pos : Pos} {C : Ctx} {k : Nat}
def RKP : Rel (List (Key × D)) (List (V × V)) := fun ρ H ds ps => ∃ ws, RKs ρ H ds ws ∧ ps = ws.map fun p => (kV p.1, p.2)
def trsOf (G : Gl) (P : CProg) (F : Fns) (W : WX) (f : Expr → CE) : List (Option Expr) → List Expr → List (TE × TE)
  | k :: ks, v :: vs => (tR G RV W (evE P F (optF f k)), tR G RV W (evE P F (f v))) :: trsOf G P F W f ks vs
  | _, _ => []
theorem pps_of {f : Expr → CE} (hf : ∀ e, RE G P F X W e (f e)) : ∀ (ks : List (Option Expr)) (vs : List Expr), ks.length = vs.length → ks.all (·.isSome) = true → PPs X pos ks vs (trsOf G P F W f ks vs)
  | [], [], _, _ => pps_nil
  | [], _ :: _, h, _ => by simp at h
  | _ :: _, [], h, _ => by simp at h
  | some k :: ks, v :: vs, h, a => pps_cons (hf k) (hf v) (pps_of hf ks vs (by simpa using h) (by simpa using a))
  | none :: ks, v :: vs, h, a => by simp at a
theorem pairs_ok {f : Expr → CE} {σ : St} : ∀ (ks : List (Option Expr)) (vs : List Expr), ks.length = vs.length → ∀ (H : Hp) (Q : List (V × V) → Hp → Prop), tR G RKP W (evKVs P F ((ks.map (optF f)).zip (vs.map f))) σ H Q → tPairs (trsOf G P F W f ks vs) σ H Q
  | [], [], _, H, Q, ⟨ρ, A, L, s, l, o⟩ => OutR.ok (R := RKP) (by simpa only [List.map_nil, List.zip_nil_left, evKVs] using o) s ⟨[], by simp only [RKs], rfl⟩
  | [], _ :: _, h, _, _, _ => by simp at h
  | _ :: _, [], h, _, _, _ => by simp at h
  | kk :: ks, v :: vs, h, H, Q, q => by
    have q' : tR G RKP W (fun L A => (evE P F (optF f kk) L A).bind fun d A => (evE P F (f v) L A).bind fun w A => (Res.of1 A (keyD d)).bind fun d A => (evKVs P F ((ks.map (optF f)).zip (vs.map f)) L A).bind fun ds A => .ok ((d, w) :: ds) A) σ H Q := by
      obtain ⟨ρ, A, L, s, l, o⟩ := q
      exact ⟨ρ, A, L, s, l, by simpa only [List.map_cons, List.zip_cons_cons, evKVs] using o⟩
    show tR G RV W (evE P F (optF f kk)) σ H _
    refine (tR_two q').imp fun v1 H1 q => q.imp fun u H2 ⟨ρ, A, L, x, y, s, l, rx, ry, o⟩ => ?_
    refine pairs_ok ks vs (by simpa using h) H2 _ ⟨ρ, A, L, s, l, ?_⟩
    cases e : keyD x with
    | none => rw [e] at o; exact (show False from o).elim
    | some key =>
      rw [e] at o
      refine (OutR.bind (R := RKP) o).imp fun ps H3 ⟨ρ3, A3, ds, x3, s3, ⟨ws, rk, ep⟩, o3⟩ => ?_
      refine OutR.ok (R := RKP) o3 s3 ⟨(key, u) :: ws, ?_, ?_⟩
      · simp only [RKs]
        exact ⟨u, ws, rfl, RV.mono x3 _ _ ry, rk⟩
      · rw [ep, List.map_cons, keyD_at rx e]
theorem rks_merge {ρ : List Addr} {H : Hp} : ∀ {more : List (Key × D)} {ms : List (Key × V)} {kvs : List (Key × D)} {ws : List (Key × V)}, RKs ρ H more ms → RKs ρ H kvs ws → RKs ρ H (more.foldl (fun acc p => kPut acc p.1 p.2) kvs) (mergeK ws ms)
  | [], ms, _, _, h, r => by
    simp only [RKs] at h
    subst h
    exact r
  | (k, d) :: more, ms, kvs, ws, h, r => by
    simp only [RKs] at h
    obtain ⟨v, t, rfl, rv, rt⟩ := h
    show RKs ρ H (more.foldl (fun acc p => kPut acc p.1 p.2) (kPut kvs k d)) (mergeK (putK ws k v) t)
    exact rks_merge rt (rks_put r rv)
theorem re_dct {f : Expr → CE} (hf : ∀ e, RE G P F X W e (f e)) {ks : List (Option Expr)} {vs : List Expr} (hl : ks.length = vs.length) (ha : ks.all (·.isSome) = true) (h0 : ks ≠ []) (h15 : ks.length ≤ 15) :
    RE G P F X W (.Dict ks vs pos) (.dct ((ks.map (optF f)).zip (vs.map f))) :=
  (pe_disp (pps_of hf ks vs hl ha) ha hl h0 h15).imp fun σ H Q q => by
    intro p hp
    obtain ⟨ρ, A, L, s, l, o⟩ := q
    simp only [evE] at o
    refine pairs_ok ks vs hl _ _ ⟨ρ, A, L, s.lay hp, l.mono (Ext.lay hp), ?_⟩
    refine (OutR.bind0 (R := RKP) (Ext.lay (o := .dK []) hp) o).imp fun ps H2 ⟨ρ2, A2, ds, x2, s2, ⟨ws, rk, ep⟩, o2⟩ => ?_
    have hρ : p ∉ ρ := s.not_mem hp
    have h2 : H2 p = some (.dK []) := x2.keep p _ hρ upd_same
    have hρ2 : p ∉ ρ2 := x2.new_not hρ
    split at o2
    · rename_i hz
      refine ⟨h2, ws, ep, by rw [rk.length]; exact hz, ?_⟩
      have ns : ¬ Still (.dK []) := id
      exact o2 _ _ _ (x2.fin hp) ((s2.own hρ2 h2 ns).reg hρ2 ⟨_, upd_same, rks_merge (RKs.mono2 (upd_ex h2 ns) _ _ rk) (by simp only [RKs])⟩) (ref_new s2)
    · exact (show False from o2).elim
theorem re_dct0 : RE G P F X W (.Dict [] [] pos) (.dct []) :=
  pe_dnewK.imp fun σ H Q ⟨ρ, A, L, s, l, o⟩ p hp => by
    simp only [evE, evKVs, Res.bind] at o
    exact o _ _ _ ((Ext.lay hp).reg hp) (s.new_ hp ⟨[], upd_same, by simp only [List.foldl_nil, RKs]⟩) (ref_new s)
end
end Kin
end
section
set_option linter.all false
set_option maxRecDepth 100000
/-! Kin 15: enumerate over a tuple. -/
namespace KinEnm
open PySem
open Sem (wp)
set_option maxHeartbeats 1000000 in
theorem meets_enum1 {v : Value} {o : Obj} {H : Heap → Prop} (B : Begins v o H) :
    Meets (Builtin.«enumerate.__new__» ⟨[.type "enumerate", v], []⟩) (fun _ R s => H s.heap ∧
      R (.ok (.ret (.ref (s.heap.push o).objs.size))) { s with heap := (s.heap.push o).push { cls := .type "enumerate", data := .fields #[.none, .bool false, .ref s.heap.objs.size, rawInt 0, .none, .none] } }) :=
  .of_wp fun prog w A R s h => by
    obtain ⟨hp, g, d, tk, os⟩ := s
    obtain ⟨h1, h⟩ := h
    have hsub := sub_enumerate
    have q1 : ∀ {A' : Around} {E : Value → Shared → Prop} {Q : Value → Shared → Prop}, Q (.ref hp.objs.size) ⟨hp.push o, g, d, tk, os⟩ → wpAny (model prog w) A' (pyIter v) Q E ⟨hp, g, d, tk, os⟩ :=
      fun q => B.iter prog w _ _ ⟨hp, g, d, tk, os⟩ _ h1 q
    wp_walk using q1
    refine wpAny_stack_any fun st => wpAny_pure ?_
    split
    · rename_i c _ _ _ _ _
      cases (c == Value.type "enumerate") <;> (wp_walk using q1; exact ⟨_, rfl, h⟩)
    · wp_walk using q1
      exact ⟨_, rfl, h⟩
section
variable {prog : Program} {w : World} {A : Around} {E : Value → Shared → Prop} {s : Shared}
theorem call_enum1 {v : Value} {o : Obj} {H : Heap → Prop} {Q : Value → Shared → Prop} (B : Begins v o H) (h1 : H s.heap)
    (h : ∀ h', IsEnum h' (s.heap.objs.size + 1) s.heap.objs.size 0 .none → h'.get? s.heap.objs.size = some o → h'.objs.size = s.heap.objs.size + 2 →
      (∀ b o, s.heap.get? b = some o → h'.get? b = some o) → Q (.ref (s.heap.objs.size + 1)) { s with heap := h' }) :
    wpAny (model prog w) A (call (.type "enumerate") [v]) Q E s := by
  refine callType_new F.called_enumerate (by decide) (F.typeCall_enumerate_1 _) (F.newCall_enumerate_1 _) (fun obj => F.args_object_init_2 obj _) F.entry_enumerate_new
    (meets_enum1 B) ⟨h1, ?_⟩
  have hz : (s.heap.push o).objs.size = s.heap.objs.size + 1 := Heap.size_push ..
  show _ ∧ _
  rw [hz]
  have he : IsEnum ((s.heap.push o).push { cls := .type "enumerate", data := .fields #[.none, .bool false, .ref s.heap.objs.size, rawInt 0, .none, .none] }) (s.heap.objs.size + 1) s.heap.objs.size 0 .none := by
    have := Heap.get?_push_size (s.heap.push o) (o := { cls := .type "enumerate", data := .fields #[.none, .bool false, .ref s.heap.objs.size, rawInt 0, .none, .none] }) rfl
    rw [hz] at this
    exact this
  refine ⟨⟨_, he, rfl⟩, h _ he (Heap.get?_push_of_some _ (Heap.get?_push_size _ B.free)) (by rw [Heap.size_push, hz]) fun b o x => Heap.get?_push_of_some _ (Heap.get?_push_of_some _ x)⟩
theorem next_enumT_end {e it t : Addr} {i : Nat} {items : Array Value} {old : Value} {Q : Option Value → Shared → Prop} (hh : A.handled = none)
    (he : IsEnum s.heap e it i old) (hit : s.heap.IsTupleIter it t i) (ht : s.heap.IsTuple t items) (hx : items[i]? = none)
    (hQ : ∀ h', Heap.ExtBut it s.heap h' → Q none { s with heap := h' }) : wpAny (model prog w) A (pyNext (.ref e)) Q E s := by
  have hT : s.TypeIs (.ref e) "enumerate" := ⟨_, he, rfl⟩
  unfold pyNext
  refine wpAny_bind (wpAny_attempt (wpAny_callSpecial?_slot (name := Str.ofString "__next__") hT F.slot_enumerate_next (wpAny_call_entry F.slot_enumerate_next hT F.entry_enumerate_next ?_ (F.args_enumerate_next_1 _))))
  show wpAny _ _ (field (.ref e) 2 >>= _) _ _ _
  refine wpAny_bind (wpAny_field he rfl (x := .ref it) rfl ?_)
  refine wpAny_bind (wpAny_nextOf_tuple_end (A := A.in1) hh hit ht hx fun h' x he' hx' => ?_)
  obtain ⟨o, ho, hc⟩ := hx'
  refine wpAny_bind (wpAny_isInstance (T := "StopIteration") (b := true) ⟨o, ho, hc⟩ isSubtype_stop ?_)
  exact wpAny_pure (hQ _ he')
end
end KinEnm
namespace Kin
open PySem PySem.Spec PyProof.Rows L2
/-- the tuple at a, each item in a new pair -/
def IteT (K : PySem.W.Frag) (a : Addr) : It :=
  ⟨fun i H => ∃ (xs : List V) (x : V), SqT K H a xs ∧ xs[i]? = some x, fun i H v H' => ∃ T x, v = .ref T ∧ H T = none ∧ H' = upd H T (.tup [.int (i : Nat), x]) ∧ ∀ xs, SqT K H a xs → xs[i]? = some x, fun i H => ∃ xs : List V, SqT K H a xs ∧ xs.length ≤ i⟩
theorem turn_enumT {P : Program} {w : World} {K : PySem.W.Frag} {elts : List Expr} {kk : Nat} {tpos : Pos} (a e it : Addr) (hai : a ≠ it) (hae : a ≠ e) :
    Turn P w K (.Tuple elts kk tpos) (IteT K a) [e, it] e (fun i h => (∃ old, IsEnum h e it ((i : Nat) : Int) old) ∧ h.IsTupleIter it a i ∧ e ≠ it) where
  mem := by simp
  obj := fun i h st b hb => by
    obtain ⟨⟨old, he⟩, ⟨o, ho, hc, hd⟩, _⟩ := st
    have e' : b = e ∨ b = it := by simpa using hb
    rcases e' with z | z
    · rw [z]; exact ⟨_, he, fun v q => nomatch q⟩
    · rw [z]; exact ⟨o, ho, fun v q => by rw [hd] at q; cases q⟩
  keep := fun i h h' st k => by
    obtain ⟨⟨old, he⟩, hi, hne⟩ := st
    exact ⟨⟨old, k e (by simp) _ he⟩, hi.at fun o q => k it (by simp) o q, hne⟩
  item := by
    intro X hP hw hK hc i pins s σ H E I hf st hg
    subst hP hw hK
    obtain ⟨⟨old, he⟩, hit, hne⟩ := st
    obtain ⟨xs, x, hq, hx⟩ := hg
    obtain ⟨its, rv, p, hz⟩ := I.tuple hq
    obtain ⟨u, hu, ru⟩ := rv.get hx
    have hlt : i < its.toArray.size := by
      have := (List.getElem?_eq_some_iff.mp hu).1
      simpa using this
    have hel : e < s.heap.objs.size := Heap.lt_size he
    have hil : it < s.heap.objs.size := by obtain ⟨_, q, _⟩ := hit; exact Heap.lt_size q
    refine wpAny_pyNext_enum_itemD (fp := [it, a]) (Draws.tuple (A := X.A.in1) (I.ok.hd hc) it a hai its.toArray) he ⟨hit, p⟩ hlt hne (by simp [hne, hae.symm]) fun y h' tk hy ho st' hT hsz hk => ?_
    have ey : y = u := by
      have : its.toArray[i]? = some u := by simpa using hu
      rw [this] at hy
      exact (Option.some.inj hy).symm
    subst ey
    refine ⟨_, rfl, wpAny_letOwnedTupleGo_enum (s := { s with heap := h', toks := tk + 1 }) ho fun h'' he' sb => ?_⟩
    have hT2 : h''.get? s.heap.objs.size = some { cls := .type "tuple", data := .seq #[.int i tk, y] } := (sb.2 _ (Nat.ne_of_gt hel)).trans hT
    have new : ObjOk X.prog X.w (upd H s.heap.objs.size (.tup [.int (i : Nat), x])) h'' s.heap.objs.size (.tup [.int (i : Nat), x]) :=
      ⟨by show 2 ≤ sizeLine; decide, [.int i tk, y], .cons ⟨_, rfl⟩ (.cons ru .nil), ⟨_, hT2, rfl, _, rfl⟩⟩
    have I1 : Inv X pins σ (upd H s.heap.objs.size (.tup [.int (i : Nat), x])) { s with heap := h'', toks := tk + 1 } :=
      I.turnedNew (ch := [e, it]) (fun b ob hb q => (sb.2 b (fun z => hb (by simp [z]))).trans (hk b ob (fun z => hb (by simp [z])) (fun z => hb (by simp [z])) q)) hf (Nat.le_refl _) new
    refine ⟨.ref s.heap.objs.size, _, I1, rfl, ⟨_, x, rfl, I.hok.fresh (Nat.le_refl _), rfl, fun ys hy => by rw [I.tuple_inj hy hq]; exact hx⟩, ⟨⟨y, ?_⟩, st'.1.at fun o q => (sb.2 it (Ne.symm hne)).trans q, hne⟩, fun b hb => ?_⟩
    · have e1 : ((i + 1 : Nat) : Int) = (i : Int) + 1 := by omega
      rw [e1]
      exact he'
    · have hb' : b < s.heap.objs.size := by
        have e' : b = e ∨ b = it := by simpa using hb
        rcases e' with z | z
        · rw [z]; exact hel
        · rw [z]; exact hil
      rw [upd_ne (Nat.ne_of_lt hb')]
      exact (hf b hb).1
  done := by
    intro X hP hw hK hc i pins s σ H E I hf st hg
    subst hP hw hK
    obtain ⟨⟨old, he⟩, hit, hne⟩ := st
    obtain ⟨xs, hq, hx⟩ := hg
    obtain ⟨its, rv, p, hz⟩ := I.tuple hq
    obtain ⟨f0, f1, f2, f3, f4, f5⟩ := hf it (by simp)
    have hl := rv.length
    exact KinEnm.next_enumT_end (I.ok.hd hc) he hit p (by simp; omega) fun h' eb => ⟨rfl, I.turned (t' := s.toks) (fun b o hb q => eb b o hb q) f0 f1 f3 f4 f5⟩
  self := fun A i s Q E st h => by
    obtain ⟨⟨_, he⟩, _⟩ := st
    exact wpAny_pyIter_enum he h
section
variable {X : Cx}
/-- enumerate over a list or a tuple -/
def iEnumA (K : PySem.W.Frag) (ta : TA) : TI := fun σ H R => ta σ H fun vs H1 => ∃ a xs, vs = [.ref a] ∧ ((SqL K H1 a xs ∧ R (Ite K a) H1) ∨ (SqT K H1 a xs ∧ R (IteT K a) H1))
theorem pi_enumA {e : Expr} {ta : TA} {p pos tpos : Pos} {elts : List Expr} {kk : Nat} (hg : L2.Gl X "enumerate") (hm : X.mg "enumerate" = none) (ha : PA X [e] ta) (hs : starEach [e] X.env = [(false, eval e X.env)]) :
    PI X (.Tuple elts kk tpos) (.Call (.Name "enumerate" p) [e] [] pos) (iEnumA X.K ta) := by
  refine ⟨fun pins s σ H R I h => ?_⟩
  refine Call_ (ld_blt I hg hm boot_enumerate (PyProof.Rows.callWith_type1 (thn (ha.run pos pins s σ H _ I h) fun us s1 ⟨vs, H1, I1, r1, q1⟩ => ?_) hs rfl))
  obtain ⟨a, xs, ex, q1⟩ := q1
  subst ex
  cases r1 with
  | cons r rr =>
    cases rr
    cases r
    have fr : ∀ b ∈ [s1.heap.objs.size + 1, s1.heap.objs.size], FpOk X pins H1 b := fun b hb => by
      have e' : b = s1.heap.objs.size + 1 ∨ b = s1.heap.objs.size := by simpa using hb
      have hle : s1.heap.objs.size ≤ b := by
        rcases e' with z | z
        · rw [z]; exact Nat.le_add_right _ _
        · rw [z]; exact Nat.le_refl _
      exact I1.fpOk hle (I1.hok.fresh hle)
    rcases q1 with ⟨hq, q⟩ | ⟨hq, q⟩
    · obtain ⟨its, rv, p', hz⟩ := I1.list hq
      refine call_enumerate_list p'.isList fun h' he hit hsz hk => wpAny_pyIter_enum he ?_
      have I2 : Inv X pins σ H1 { s1 with heap := h' } := I1.kept (t' := s1.toks) hk
      exact ⟨s1.heap.objs.size + 1, [s1.heap.objs.size + 1, s1.heap.objs.size], _, _, H1, rfl, I2, turn_enum a (s1.heap.objs.size + 1) s1.heap.objs.size, ⟨⟨.none, he⟩, hit, Nat.succ_ne_self _⟩, fr, q⟩
    · obtain ⟨its, rv, p', hz⟩ := I1.tuple hq
      obtain ⟨o1, ho1, _⟩ := id p'
      have hla : a < s1.heap.objs.size := Heap.lt_size ho1
      refine KinEnm.call_enum1 (begins_tuple a its.toArray) p' fun h' he hit hsz hk => wpAny_pyIter_enum he ?_
      have I2 : Inv X pins σ H1 { s1 with heap := h' } := I1.kept (t' := s1.toks) hk
      exact ⟨s1.heap.objs.size + 1, [s1.heap.objs.size + 1, s1.heap.objs.size], _, _, H1, rfl, I2, turn_enumT a (s1.heap.objs.size + 1) s1.heap.objs.size (Nat.ne_of_lt hla) (Nat.ne_of_lt (Nat.lt_succ_of_lt hla)), ⟨⟨.none, he⟩, ⟨_, hit, rfl, rfl⟩, Nat.succ_ne_self _⟩, fr, q⟩
end
end Kin
end
section
set_option linter.all false
set_option maxRecDepth 100000
/-! Kin 16: walks, targets. -/
namespace Kin
open PySem PySem.Spec PyProof.Rows L2
/-- the walk J goes as w tells -/
def JOk : Rel Wk It := fun ρ0 H0 w J => ∀ (i : Nat) (ρ : List Addr) (A : AH) (H : Hp), Ext ρ0 H0 ρ H → Sim ρ A H →
  (w i A = some none → J.stop i H) ∧ ∀ d, w i A = some (some d) → J.go i H ∧ ∀ x H', J.yld i H x H' → Ext ρ H ρ H' ∧ Sim ρ A H' ∧ RV ρ H' d x
section
variable {ρ : List Addr} {H : Hp} {A : AH} {K : PySem.W.Frag}
theorem tup_sq {a : Addr} {vs xs : List V} (h : H a = some (.tup vs)) (q : SqT K H a xs) (hk : ∀ a o, H a = some o → K.lookup a = none) : xs = vs := by
  rcases q with (q | ⟨o, q⟩) | ⟨o, its, n, q, _⟩
  · rw [h] at q; cases q; rfl
  · rw [h] at q; cases q
  · rw [hk a _ h] at q; cases q
theorem get_eq {ds : List D} {vs : List V} {i : Nat} {d : D} (r : RVs ρ H ds vs) (h : ds[i]? = some d) {x : V} (hx : vs[i]? = some x) : RV ρ H d x := by
  obtain ⟨v, a, b⟩ := r.get h
  rw [hx] at a
  cases a
  exact b
theorem len_le {ds : List D} {vs : List V} {i : Nat} (r : RVs ρ H ds vs) (h : ds[i]? = none) : vs.length ≤ i := by
  rw [r.length]
  exact List.getElem?_eq_none_iff.mp h
theorem j_tup {a : Addr} {ds : List D} {vs : List V} (h : H a = some (.tup vs)) (r : RVs ρ H ds vs) : JOk ρ H (wkItems ds) (Itt K a) := by
  intro i ρ1 A1 H1 x1 s1
  have h1 : H1 a = some (.tup vs) := x1.still _ _ trivial h
  have r1 := RVs.mono x1 _ _ r
  refine ⟨fun e => ⟨vs, .of h1, len_le r1 (Option.some.inj e)⟩, fun d e => ?_⟩
  obtain ⟨v, hv, rv⟩ := r1.get (Option.some.inj e)
  refine ⟨⟨vs, v, .of h1, hv⟩, fun x H' y => ?_⟩
  obtain ⟨rfl, y⟩ := y
  exact ⟨.refl, s1, get_eq r1 (Option.some.inj e) (y vs (.of h1))⟩
theorem rng_get {lo hi : Int} {i : Nat} {d : D} (h : (rngItems lo hi)[i]? = some d) : i < (hi - lo).toNat ∧ d = .int (lo + (i : Nat)) := by
  unfold rngItems at h
  rw [List.getElem?_map] at h
  cases e : (List.range (hi - lo).toNat)[i]? with
  | none => rw [e] at h; cases h
  | some j =>
    rw [e] at h
    cases h
    obtain ⟨h1, h2⟩ := List.getElem?_eq_some_iff.mp e
    rw [List.getElem_range] at h2
    subst h2
    exact ⟨by simpa using h1, rfl⟩
theorem rng_none {lo hi : Int} {i : Nat} (h : (rngItems lo hi)[i]? = none) : (hi - lo).toNat ≤ i := by
  have := List.getElem?_eq_none_iff.mp h
  simpa [rngItems] using this
theorem j_rng {lo hi : Int} : JOk ρ H (wkItems (rngItems lo hi)) (Itr lo (hi - lo).toNat) := by
  intro i ρ1 A1 H1 x1 s1
  refine ⟨fun e => rng_none (Option.some.inj e), fun d e => ?_⟩
  obtain ⟨h1, rfl⟩ := rng_get (Option.some.inj e)
  refine ⟨h1, fun x H' y => ?_⟩
  obtain ⟨rfl, rfl⟩ := y
  exact ⟨.refl, s1, by simp only [RV]⟩
theorem j_live {n : Nat} {a : Addr} (h : ρ[n]? = some a) : JOk ρ H (wkLive n) (Itl K a) := by
  intro i ρ1 A1 H1 x1 s1
  have h1 := x1.at h
  unfold wkLive
  refine ⟨fun e => ?_, fun d e => ?_⟩
  · split at e
    · rename_i ds en
      obtain ⟨vs, ha, r⟩ := s1.at_ _ _ _ h1 en
      exact ⟨vs, .of ha, len_le r (Option.some.inj e)⟩
    · cases e
  · split at e
    · rename_i ds en
      obtain ⟨vs, ha, r⟩ := s1.at_ _ _ _ h1 en
      obtain ⟨v, hv, rv⟩ := r.get (Option.some.inj e)
      refine ⟨⟨vs, v, .of ha, hv⟩, fun x H' y => ?_⟩
      obtain ⟨rfl, y⟩ := y
      exact ⟨.refl, s1, get_eq r (Option.some.inj e) (y vs (.of ha))⟩
    · cases e
theorem pair_new {T : Addr} {x : V} {d : D} {i : Nat} (s : Sim ρ A H) (hT : H T = none) (r : RV ρ H d x) : Ext ρ H ρ (upd H T (.tup [.int (i : Nat), x])) ∧ Sim ρ A (upd H T (.tup [.int (i : Nat), x])) ∧ RV ρ (upd H T (.tup [.int (i : Nat), x])) (.tup [.int (i : Nat), d]) (.ref T) := by
  refine ⟨Ext.lay hT, s.lay hT, tup_rv upd_same ?_⟩
  simp only [RVs]
  exact ⟨_, _, rfl, by simp only [RV], x, [], rfl, RV.mono (Ext.lay hT) _ _ r, rfl⟩
theorem pair_new2 {T : Addr} {x y : V} {d e : D} (s : Sim ρ A H) (hT : H T = none) (r : RV ρ H d x) (r2 : RV ρ H e y) : Ext ρ H ρ (upd H T (.tup [x, y])) ∧ Sim ρ A (upd H T (.tup [x, y])) ∧ RV ρ (upd H T (.tup [x, y])) (.tup [d, e]) (.ref T) := by
  refine ⟨Ext.lay hT, s.lay hT, tup_rv upd_same ?_⟩
  simp only [RVs]
  exact ⟨_, _, rfl, RV.mono (Ext.lay hT) _ _ r, y, [], rfl, RV.mono (Ext.lay hT) _ _ r2, rfl⟩
theorem enum_get {w : Wk} {i : Nat} {d : D} (h : wkEnum w i A = some (some d)) : ∃ e, w i A = some (some e) ∧ d = .tup [.int (i : Nat), e] := by
  unfold wkEnum at h
  cases q : w i A with
  | none => rw [q] at h; cases h
  | some o =>
    rw [q] at h
    cases o with
    | none => cases h
    | some e => cases h; exact ⟨e, rfl, rfl⟩
theorem enum_none {w : Wk} {i : Nat} (h : wkEnum w i A = some none) : w i A = some none := by
  unfold wkEnum at h
  cases q : w i A with
  | none => rw [q] at h; cases h
  | some o =>
    rw [q] at h
    cases o with
    | none => rfl
    | some e => cases h
theorem j_enumT {a : Addr} {ds : List D} {vs : List V} (h : H a = some (.tup vs)) (r : RVs ρ H ds vs) : JOk ρ H (wkEnum (wkItems ds)) (IteT K a) := by
  intro i ρ1 A1 H1 x1 s1
  have h1 : H1 a = some (.tup vs) := x1.still _ _ trivial h
  have r1 := RVs.mono x1 _ _ r
  refine ⟨fun e => ⟨vs, .of h1, len_le r1 (Option.some.inj (enum_none e))⟩, fun d e => ?_⟩
  obtain ⟨d', e', rfl⟩ := enum_get e
  obtain ⟨v, hv, rv⟩ := r1.get (Option.some.inj e')
  refine ⟨⟨vs, v, .of h1, hv⟩, fun x H' y => ?_⟩
  obtain ⟨T, x', rfl, hT, rfl, y⟩ := y
  exact pair_new s1 hT (get_eq r1 (Option.some.inj e') (y vs (.of h1)))
theorem j_enumL {n : Nat} {a : Addr} (h : ρ[n]? = some a) : JOk ρ H (wkEnum (wkLive n)) (Ite K a) := by
  intro i ρ1 A1 H1 x1 s1
  have h1 := x1.at h
  refine ⟨fun e => ?_, fun d e => ?_⟩
  · have e := enum_none e
    unfold wkLive at e
    split at e
    · rename_i ds en
      obtain ⟨vs, ha, r⟩ := s1.at_ _ _ _ h1 en
      exact ⟨vs, .of ha, len_le r (Option.some.inj e)⟩
    · cases e
  · obtain ⟨d', e2, rfl⟩ := enum_get e
    clear e
    unfold wkLive at e2
    split at e2
    · rename_i ds en
      obtain ⟨vs, ha, r⟩ := s1.at_ _ _ _ h1 en
      obtain ⟨v, hv, rv⟩ := r.get (Option.some.inj e2)
      refine ⟨⟨vs, v, .of ha, hv⟩, fun x H' y => ?_⟩
      obtain ⟨T, x', rfl, hT, rfl, y⟩ := y
      exact pair_new s1 hT (get_eq r (Option.some.inj e2) (y vs (.of ha)))
    · cases e2
theorem j_zip {a b : Addr} {ds es : List D} {vs us : List V} (h : H a = some (.tup vs)) (r : RVs ρ H ds vs) (h' : H b = some (.tup us)) (r' : RVs ρ H es us) :
    JOk ρ H (wkItems ((ds.zip es).map fun p => D.tup [p.1, p.2])) (RZ.ItzT K a b) := by
  intro i ρ1 A1 H1 x1 s1
  have h1 : H1 a = some (.tup vs) := x1.still _ _ trivial h
  have h1' : H1 b = some (.tup us) := x1.still _ _ trivial h'
  have r1 := RVs.mono x1 _ _ r
  have r1' := RVs.mono x1 _ _ r'
  refine ⟨fun e => ?_, fun d e => ?_⟩
  · have e := List.getElem?_eq_none_iff.mp (Option.some.inj e)
    rw [List.length_map, List.length_zip] at e
    refine ⟨vs, us, .of h1, .of h1', ?_⟩
    rw [r1.length, r1'.length]
    omega
  · have e := Option.some.inj e
    rw [List.getElem?_map] at e
    cases q : (ds.zip es)[i]? with
    | none => rw [q] at e; cases e
    | some p =>
      rw [q] at e
      cases e
      obtain ⟨e1, e2⟩ := List.getElem?_zip_eq_some.mp q
      obtain ⟨v, hv, rv⟩ := r1.get e1
      obtain ⟨u, hu, ru⟩ := r1'.get e2
      refine ⟨⟨vs, us, v, u, .of h1, .of h1', hv, hu⟩, fun x H' y => ?_⟩
      obtain ⟨T, x', y', rfl, hT, rfl, f1, f2⟩ := y
      exact pair_new2 s1 hT (get_eq r1 e1 (f1 vs (.of h1))) (get_eq r1' e2 (f2 us (.of h1')))
end
section
variable {G : Gl} {W : WX} {X : Cx} {P : CProg} {F : Fns} {pos : Pos} {C : Ctx} {k : Nat} {tg : Expr}
abbrev RI (G : Gl) (P : CProg) (F : Fns) (X : Cx) (W : WX) (tg e : Expr) (c : CI) : Prop := PI X tg e (tR G JOk W (evI P F c))
theorem ri_bad {e : Expr} : RI G P F X W tg e .bad := ⟨fun pins s σ H Q I h => by
  obtain ⟨ρ, A, L, _, _, o⟩ := h
  simp only [evI, OutR] at o⟩
def iSeq (K : PySem.W.Frag) (tl : TE) : TI := fun σ H R => tl σ H fun x H1 => ∃ a, x = .ref a ∧ (((∃ xs, SqL K H1 a xs) ∧ R (Itl K a) H1) ∨ ((∃ xs, SqT K H1 a xs) ∧ R (Itt K a) H1))
theorem pi_seq {l : Expr} {tl : TE} (hl : PE X l tl) : PI X tg l (iSeq X.K tl) := by
  refine ⟨fun pins s σ H R I h => ?_⟩
  refine thn (hl.run pins s σ H _ I h) fun v s1 ⟨x, H1, I1, r1, q1⟩ => ?_
  obtain ⟨a, e, q1⟩ := q1
  subst e
  cases r1
  have fr : ∀ b ∈ [s1.heap.objs.size], FpOk X pins H1 b := fun b hb => by
    have e : b = s1.heap.objs.size := by simpa using hb
    subst e
    exact I1.fpOk (Nat.le_refl _) (I1.hok.fresh (Nat.le_refl _))
  rcases q1 with ⟨⟨xs, hq⟩, q⟩ | ⟨⟨xs, hq⟩, q⟩
  · obtain ⟨its, rv, p, hz⟩ := I1.list hq
    refine wpAny_pyIter_list p.isList ?_
    exact ⟨s1.heap.objs.size, [s1.heap.objs.size], _, _, H1, rfl, I1.kept (t' := s1.toks) fun b o e => Heap.get?_push_of_some _ e, turn_list a _, ⟨_, Heap.get?_push_size _ rfl, rfl, rfl⟩, fr, q⟩
  · obtain ⟨its, rv, p, hz⟩ := I1.tuple hq
    refine wpAny_pyIter_tuple (show s1.heap.IsTuple a its.toArray from p) ?_
    exact ⟨s1.heap.objs.size, [s1.heap.objs.size], _, _, H1, rfl, I1.kept (t' := s1.toks) fun b o e => Heap.get?_push_of_some _ e, turn_tuple a _, ⟨_, Heap.get?_push_size _ rfl, rfl, rfl⟩, fr, q⟩
theorem seqWk_cases {ρ : List Addr} {H : Hp} {A : AH} {d : D} {w : Wk} {v : V} (s : Sim ρ A H) (r : RV ρ H d v) (h : seqWk d A = some w) :
    (∃ a ds vs, v = .ref a ∧ d = .tup ds ∧ w = wkItems ds ∧ H a = some (.tup vs) ∧ RVs ρ H ds vs) ∨ ∃ a n vs, v = .ref a ∧ d = .ref n ∧ w = wkLive n ∧ ρ[n]? = some a ∧ H a = some (.lst vs) := by
  cases d with
  | tup ds =>
    simp only [seqWk, Option.some.injEq] at h
    obtain ⟨a, vs, rfl, ha, ra⟩ := rv_tup r
    exact .inl ⟨a, ds, vs, rfl, rfl, h.symm, ha, ra⟩
  | ref n =>
    simp only [seqWk] at h
    split at h
    · rename_i ds en
      cases h
      obtain ⟨a, hn, rfl, vs, ha, ra⟩ := rv_ref s r en
      exact .inr ⟨a, n, vs, rfl, rfl, rfl, hn, ha⟩
    · cases h
  | _ => simp [seqWk] at h
theorem ri_seq {e : Expr} {c : CE} (h : RE G P F X W e c) : RI G P F X W tg e (.seq c) :=
  (pi_seq h).imp fun σ H R q => by
    have q' : tR G JOk W (fun L A => (evE P F c L A).bind fun d A => Res.of1 A (seqWk d A)) σ H R := by
      obtain ⟨ρ, A, L, s, l, o⟩ := q
      exact ⟨ρ, A, L, s, l, by simpa only [evI] using o⟩
    refine (tR_seq (R := RV) q').imp fun v H1 ⟨ρ1, A1, L, x, s1, l1, r1, o1⟩ => ?_
    obtain ⟨w, e, o2⟩ := out_of1 o1
    rcases seqWk_cases s1 r1 e with ⟨a, ds, vs, rfl, rfl, rfl, ha, ra⟩ | ⟨a, n, vs, rfl, rfl, rfl, hn, ha⟩
    · exact ⟨a, rfl, .inr ⟨⟨vs, .of ha⟩, OutR.ok (R := JOk) o2 s1 (j_tup ha ra)⟩⟩
    · exact ⟨a, rfl, .inl ⟨⟨vs, .of ha⟩, OutR.ok (R := JOk) o2 s1 (j_live hn)⟩⟩
theorem ri_range {e : Expr} {as : List Expr} {f : Expr → CE} (t : Top G F C k X) (so : ScOk C X) (he : rangeArgs C e = some as) (hf : ∀ e, RE G P F X W e (f e)) : RI G P F X W tg e (.rng (as.map f)) := by
  cases e with
  | Call fe es kws pp =>
    cases fe with
    | Name y py =>
      cases kws with
      | cons _ _ => simp [rangeArgs] at he
      | nil =>
        simp only [rangeArgs] at he
        split at he
        · rename_i hc
          rw [Bool.and_eq_true, Bool.and_eq_true] at hc
          obtain ⟨⟨h1, h2⟩, h3⟩ := hc
          have h1' : y = ("range" : Str) := by simpa using h1
          subst h1'
          obtain ⟨g2, _, hc2⟩ := so.bltn h2
          have hm2 := t.blt _ hc2
          have h3' : es.any isStar = false := by simpa using h3
          match es, he, h3' with
          | [a], he, h3' =>
            cases he
            have sa : isStar a = false := by simpa using h3'
            refine (pi_range1 g2 hm2 (pa_cons (hf a) pa_nil (starEach_cons sa)) (starEach_cons sa)).imp fun σ H R q => ?_
            have q' : tR G JOk W (fun L A => (evE P F (f a) L A).bind fun d A => Res.of1 A (rngWk [d])) σ H R := by
              obtain ⟨ρ, A, L, s, l, o⟩ := q
              refine ⟨ρ, A, L, s, l, ?_⟩
              simp only [evI, List.map_cons, List.map_nil, evEs, res_bind] at o
              simpa only [Res.bind] using o
            refine (tR_seq (R := RV) q').imp fun v H1 ⟨ρ1, A1, L, d, s1, l1, r1, o1⟩ => ?_
            obtain ⟨w, e, o2⟩ := out_of1 o1
            cases d <;> simp only [rngWk, reduceCtorEq] at e
            rename_i j
            split at e
            · rename_i ho
              cases e
              obtain ⟨b1, b2, b3, b4⟩ := okR_ok ho
              have jo := j_rng (ρ := ρ1) (H := H1) (lo := 0) (hi := j)
              rw [Int.sub_zero] at jo
              exact ⟨j, by rw [rv_int r1], b3, b4, OutR.ok (R := JOk) o2 s1 jo⟩
            · cases e
          | [a, b], he, h3' =>
            cases he
            have sa : isStar a = false ∧ isStar b = false := by simpa using h3'
            refine (pi_range2 g2 hm2 (pa_cons (hf a) (pa_cons (hf b) pa_nil (starEach_cons sa.2)) (starEach_cons sa.1)) (by rw [starEach_cons sa.1, starEach_cons sa.2]; rfl) (starEach_cons sa.2)).imp fun σ H R q => ?_
            have q' : tR G JOk W (fun L A => (evE P F (f a) L A).bind fun d A => (evE P F (f b) L A).bind fun d2 A => Res.of1 A (rngWk [d, d2])) σ H R := by
              obtain ⟨ρ, A, L, s, l, o⟩ := q
              refine ⟨ρ, A, L, s, l, ?_⟩
              simp only [evI, List.map_cons, List.map_nil, evEs, res_bind] at o
              simpa only [Res.bind] using o
            refine (tR_two q').imp fun v H1 q => q.imp fun u H2 ⟨ρ, A, L, d, d2, s1, l, rx, ry, o⟩ => ?_
            obtain ⟨w, e, o2⟩ := out_of1 o
            cases d <;> cases d2 <;> simp only [rngWk, reduceCtorEq] at e
            split at e
            · rename_i ho
              cases e
              exact ⟨_, _, by rw [rv_int rx, rv_int ry], okR_ok ho, OutR.ok (R := JOk) o2 s1 j_rng⟩
            · cases e
        · cases he
    | _ => simp [rangeArgs] at he
  | _ => simp [rangeArgs] at he
theorem ri_enum {x : Str} {a : Expr} {c : CE} {p tpos : Pos} {elts : List Expr} {kk : Nat} (t : Top G F C k X) (so : ScOk C X) (hx : x = ("enumerate" : Str)) (hg : C.bltn x = true) (hs : isStar a = false) (h : RE G P F X W a c) :
    RI G P F X W (.Tuple elts kk tpos) (.Call (.Name x p) [a] [] pos) (.enum c) := by
  subst hx
  obtain ⟨g, _, hc⟩ := so.bltn hg
  refine (pi_enumA g (t.blt _ hc) (pa_cons h pa_nil (starEach_cons hs)) (starEach_cons hs)).imp fun σ H R q => ?_
  have q' : tR G JOk W (fun L A => (evE P F c L A).bind fun d A => Res.of1 A ((seqWk d A).map wkEnum)) σ H R := by
    obtain ⟨ρ, A, L, s, l, o⟩ := q
    exact ⟨ρ, A, L, s, l, by simpa only [evI] using o⟩
  refine (tR_seq (R := RV) q').imp fun v H1 ⟨ρ1, A1, L, x, s1, l1, r1, o1⟩ => ?_
  obtain ⟨w, e, o2⟩ := out_of1 o1
  cases q : seqWk x A1 with
  | none => rw [q] at e; cases e
  | some w0 =>
    rw [q] at e
    cases e
    rcases seqWk_cases s1 r1 q with ⟨a, ds, vs, rfl, rfl, rfl, ha, ra⟩ | ⟨a, n, vs, rfl, rfl, rfl, hn, ha⟩
    · exact ⟨a, vs, rfl, .inr ⟨.of ha, OutR.ok (R := JOk) o2 s1 (j_enumT ha ra)⟩⟩
    · exact ⟨a, vs, rfl, .inl ⟨.of ha, OutR.ok (R := JOk) o2 s1 (j_enumL hn)⟩⟩
theorem ri_zip {x : Str} {a b : Expr} {ca cb : CE} {p tpos : Pos} {elts : List Expr} {kk : Nat} (t : Top G F C k X) (so : ScOk C X) (hx : x = ("zip" : Str)) (hg : C.bltn x = true) (hs : isStar a = false) (hs2 : isStar b = false) (ha : RE G P F X W a ca) (hb : RE G P F X W b cb) :
    RI G P F X W (.Tuple elts kk tpos) (.Call (.Name x p) [a, b] [] pos) (.zip ca cb) := by
  subst hx
  obtain ⟨g, _, hc⟩ := so.bltn hg
  refine (RZ.pi_zipA g (t.blt _ hc) (pa_cons ha (pa_cons hb pa_nil (starEach_cons hs2)) (starEach_cons hs)) (starEach_cons hs) (starEach_plain (by simp [hs2]))).imp fun σ H R q => ?_
  have q' : tR G JOk W (fun L A => (evE P F ca L A).bind fun x A => (evE P F cb L A).bind fun y A => Res.of1 A (zipWk x y)) σ H R := by
    obtain ⟨ρ, A, L, s, l, o⟩ := q
    exact ⟨ρ, A, L, s, l, by simpa only [evI] using o⟩
  refine (tR_two q').imp fun v H1 q => q.imp fun u H2 ⟨ρ, A, L, x, y, s, l, rx, ry, o⟩ => ?_
  obtain ⟨w, e, o2⟩ := out_of1 o
  cases x <;> cases y <;> simp only [zipWk, reduceCtorEq, Option.some.injEq] at e
  obtain ⟨a, vs, rfl, h1, r1⟩ := rv_tup rx
  obtain ⟨b, us, rfl, h2, r2⟩ := rv_tup ry
  subst e
  exact ⟨a, b, vs, us, rfl, .inr ⟨.of h1, .of h2, OutR.ok (R := JOk) o2 s (j_zip h1 r1 h2 r2)⟩⟩
end
end Kin
end
section
set_option linter.all false
set_option maxRecDepth 100000
/-! Kin 17: targets, comprehensions. -/
namespace Kin
open PySem PySem.Spec PyProof.Rows L2
/-! ### slots -/
theorem wipe_set (σ : St) (i : Nat) (x : Option V) : ∀ vs : List Nat, L2.wipe (σ.set i x) vs = if i ∈ vs then L2.wipe σ vs else (L2.wipe σ vs).set i x
  | [] => by simp [L2.wipe]
  | v :: r => by
    simp only [L2.wipe]
    rw [wipe_set σ i x r]
    by_cases h : i ∈ r
    · simp [h]
    · by_cases q : i = v
      · subst q
        simp [h, List.set_set]
      · simp only [h, if_false, List.mem_cons, q, or_self]
        exact List.set_comm _ _ q
theorem wipe_wipe (σ : St) (vs : List Nat) : ∀ us : List Nat, (∀ u ∈ us, u ∈ vs) → L2.wipe (L2.wipe σ us) vs = L2.wipe σ vs
  | [], _ => rfl
  | u :: us, h => by
    simp only [L2.wipe]
    rw [wipe_set, if_pos (h u (by simp))]
    exact wipe_wipe σ vs us fun v hv => h v (by simp [hv])
section
variable {ρ : List Addr} {H : Hp}
theorem rl_set {L : Loc} {σ : St} {i : Nat} {d : D} {v : V} (l : RL ρ H L σ) (r : RV ρ H d v) : RL ρ H (L.set i (some d)) (σ.set i (some v)) := by
  refine ⟨by simp [l.1], fun j e h => ?_⟩
  rw [List.getElem?_set] at h ⊢
  split at h
  · rename_i q
    rw [if_pos q]
    split at h
    · rename_i hl
      rw [if_pos (by rw [← l.1]; exact hl)]
      cases h
      exact ⟨v, rfl, r⟩
    · cases h
  · rename_i q
    rw [if_neg q]
    exact l.2 j e h
theorem rl_none {L : Loc} {σ : St} {i : Nat} (l : RL ρ H L σ) : RL ρ H (L.set i none) (σ.set i none) := by
  refine ⟨by simp [l.1], fun j e h => ?_⟩
  rw [List.getElem?_set] at h ⊢
  split at h
  · split at h <;> cases h
  · rename_i q
    rw [if_neg q]
    exact l.2 j e h
theorem rl_wipe {L : Loc} {σ : St} (l : RL ρ H L σ) : ∀ vs : List Nat, RL ρ H (Kin.wipe L vs) (L2.wipe σ vs)
  | [] => l
  | v :: vs => rl_none (rl_wipe l vs)
end
mutual
def slotsT : CT → List Nat
  | .slot i => [i]
  | .tup ts => slotsTs ts
  | _ => []
def slotsTs : List CT → List Nat
  | [] => []
  | t :: ts => slotsT t ++ slotsTs ts
end
/-- the names behind a target -/
def RLo (ss : List Nat) (σ0 : St) : Rel Loc St := fun ρ H L σ => RL ρ H L σ ∧ ∀ vs, (∀ i ∈ ss, i ∈ vs) → L2.wipe σ vs = L2.wipe σ0 vs
def tG (G : Gl) (W : WX) (ss : List Nat) (f : D → Loc → AH → Res Loc) : TG := fun v σ H Q => ∃ ρ A L d, Sim ρ A H ∧ RL ρ H L σ ∧ RV ρ H d v ∧ OutR G (RLo ss σ) W σ ρ H Q (f d L A)
def tGs (G : Gl) (W : WX) (ss : List Nat) (f : List D → Loc → AH → Res Loc) : TGs := fun vs σ H Q => ∃ ρ A L ds, Sim ρ A H ∧ RL ρ H L σ ∧ RVs ρ H ds vs ∧ OutR G (RLo ss σ) W σ ρ H Q (f ds L A)
section
variable {G : Gl} {W : WX} {X : Cx} {P : CProg} {F : Fns} {pos : Pos} {C : Ctx} {k : Nat}
/-- a target that cannot fail with an error of its own -/
abbrev RG (G : Gl) (P : CProg) (F : Fns) (X : Cx) (W : WX) (e : Expr) (c : CT) : Prop := PG X e (tG G W (slotsT c) (asT P F c))
abbrev RGs (G : Gl) (P : CProg) (F : Fns) (X : Cx) (W : WX) (es : List Expr) (cs : List CT) : Prop := PGs X es (tGs G W (slotsTs cs) (asTs P F cs))
theorem rg_bad {e : Expr} : RG G P F X W e .bad := ⟨fun pins s σ H v u Q I r h => by
  obtain ⟨ρ, A, L, d, _, _, _, o⟩ := h
  simp only [asT, OutR] at o⟩
theorem rg_slot {x : Str} {i : Nat} (so : ScOk C X) (h : C.tslot x = some i) : RG G P F X W (.Name x pos) (.slot i) := by
  obtain ⟨hx, hi, hf⟩ := so.tgt x i h
  exact (pg_name so.nd hi hx hf).imp fun v σ H Q ⟨ρ, A, L, d, s, l, r, o⟩ => by
    simp only [asT] at o
    refine OutR.ok o s ⟨rl_set l r, fun vs hv => ?_⟩
    rw [wipe_set, if_pos (hv i (by simp [slotsT]))]
theorem assignEach_cons {e : Expr} {es : List Expr} {env : Env} (h : isStar e = false) : assignEach (e :: es) env = (false, assign e env) :: assignEach es env := by
  cases e <;> first | rfl | (exact (Bool.false_ne_true h.symm).elim)
theorem assignEach_len : ∀ {es : List Expr} {env : Env}, es.any isStar = false → (assignEach es env).length = es.length ∧ (assignEach es env).findIdx? (·.1) = none
  | [], _, _ => ⟨rfl, rfl⟩
  | e :: es, env, h => by
    rw [List.any_cons, Bool.or_eq_false_iff] at h
    obtain ⟨a, b⟩ := assignEach_len (env := env) h.2
    rw [assignEach_cons h.1]
    refine ⟨by simp [a], ?_⟩
    rw [List.findIdx?_cons]
    simp [b]
theorem rgs_list {f : Expr → CT} (hf : ∀ e, RG G P F X W e (f e)) : ∀ es : List Expr, es.any isStar = false → RGs G P F X W es (es.map f)
  | [], _ => pgs_nil.imp fun vs σ H Q ⟨ρ, A, L, ds, s, l, r, o⟩ => by
    cases ds with
    | nil =>
      simp only [List.map_nil, asTs] at o
      simp only [RVs] at r
      exact ⟨r, OutR.ok o s ⟨l, fun _ _ => rfl⟩⟩
    | cons d ds => simp only [List.map_nil, asTs, OutR] at o
  | e :: es, h => by
    rw [List.any_cons, Bool.or_eq_false_iff] at h
    refine (pgs_cons (hf e) (rgs_list hf es h.2) (by rw [assignEach_cons h.1]; rfl)).imp fun vs σ H Q ⟨ρ, A, L, ds, s, l, r, o⟩ => ?_
    cases ds with
    | nil => simp only [List.map_cons, asTs, OutR] at o
    | cons d ds =>
      simp only [List.map_cons, asTs] at o
      simp only [RVs] at r
      obtain ⟨v, rr, rfl, rv, rt⟩ := r
      refine ⟨v, rr, rfl, ρ, A, L, d, s, l, rv, (OutR.bind (R := RLo (slotsT (f e)) σ) o).imp fun σ' H' ⟨ρ1, A1, L1, x1, s1, ⟨l1, w1⟩, o1⟩ => ?_⟩
      refine ⟨ρ1, A1, L1, ds, s1, l1, RVs.mono x1 _ _ rt, ?_⟩
      cases q : asTs P F (es.map f) ds L1 A1 with
      | ok L2' A2 =>
        rw [q] at o1
        intro ρ' H2 σ2 x2 s2 ⟨l2, w2⟩
        refine o1 ρ' H2 σ2 x2 s2 ⟨l2, fun vs hv => ?_⟩
        simp only [slotsTs, List.mem_append] at hv
        exact (w2 vs fun i hi => hv i (.inr hi)).trans (w1 vs fun i hi => hv i (.inl hi))
      | exc y A2 =>
        rw [q] at o1
        exact (show False from o1).elim
      | bad => rw [q] at o1; exact o1
theorem rg_tup {es : List Expr} {f : Expr → CT} {j : Nat} (t : Top G F C k X) (hf : ∀ e, RG G P F X W e (f e)) (hp : es.any isStar = false) : RG G P F X W (.Tuple es j pos) (.tup (es.map f)) := by
  obtain ⟨a, b⟩ := assignEach_len (env := X.env) hp
  refine (pg_tup t.calm (rgs_list hf es hp) a b).imp fun v σ H Q ⟨ρ, A, L, d, s, l, r, o⟩ => ?_
  simp only [asT] at o
  cases e : tupOf d with
  | none => rw [e] at o; exact (show False from o).elim
  | some ds =>
    rw [e] at o
    cases d <;> simp only [tupOf, reduceCtorEq, Option.some.injEq] at e
    subst e
    obtain ⟨a, vs, rfl, ha, ra⟩ := rv_tup r
    simp only [Res.of1, Res.bind] at o
    split at o
    · rename_i hl
      exact ⟨a, vs, rfl, .of ha, by rw [ra.length, hl, List.length_map], ρ, A, L, _, s, l, ra, o⟩
    · exact (show False from o).elim
theorem rg_item {a i : Expr} {ca ci : CE} (hs : isSlice i = false) (ha : RE G P F X W a ca) (hi : RE G P F X W i ci) : RG G P F X W (.Subscript a i pos) (.item ca ci) := by
  refine (pg_sub ha hi set_list (fun v => ?_)).imp fun v σ H Q ⟨ρ, A, L, d, s, l, r, o⟩ => ?_
  · cases i <;> first | rfl | (exact (Bool.false_ne_true hs.symm).elim)
  · simp only [asT] at o
    refine ⟨ρ, A, L, s, l, (OutR.bind (R := RV) o).imp fun u H1 ⟨ρ1, A1, x, x1, s1, r1, o1⟩ => ⟨ρ1, A1, L, s1, l.mono x1, (OutR.bind (R := RV) o1).imp fun w H2 ⟨ρ2, A2, y, x2, s2, r2, o2⟩ => ?_⟩⟩
    obtain ⟨L', A', e, o3⟩ := out_of o2
    cases q : setIdx x y d A2 with
    | none => rw [q] at e; cases e
    | some A3 =>
      rw [q] at e
      cases e
      exact pr_set s2 (RV.mono x2 _ _ r1) r2 (RV.mono (x1.trans x2) _ _ r) q fun H' x3 s3 => o3 ρ2 H' σ x3 s3 ⟨(l.mono (x1.trans x2)).mono x3, fun _ _ => rfl⟩
end
/-! ### comprehensions -/
section
variable {α β γ δ : Type} {G : Gl} {R : Rel α β} {R' : Rel γ δ} {W W' : WX} {σ σ' : St} {ρ0 ρ : List Addr} {H0 H : Hp} {Q' : δ → Hp → Prop}
theorem calm0 {ε : Type} {r : Res α} {k : α → AH → Res ε} {k2 : ε → AH → Res γ} (h : OutR G R' W σ ρ0 H0 Q' ((r.bind k).calm.bind k2)) :
    OutR G R W' σ' ρ H (fun v H1 => ∃ ρ2 A2 x, Ext ρ H ρ2 H1 ∧ Sim ρ2 A2 H1 ∧ R ρ2 H1 x v ∧ OutR G R' W σ ρ0 H0 Q' ((k x A2).calm.bind k2)) r := by
  cases r with
  | ok x A => exact fun ρ' H' v e s r => ⟨ρ', A, x, e, s, r, h⟩
  | exc x A => exact (show False from h).elim
  | bad => exact h
theorem Ext.over {p : Addr} {o : HO} (x : Ext ρ0 H0 ρ H) (hp : H0 p = none) : Ext ρ0 H0 ρ (upd H p o) := by
  obtain ⟨pr, s, k, d⟩ := x
  refine ⟨pr, fun a u st h => ?_, fun a u n h => ?_, fun a h => ?_⟩
  · rw [upd_ne (ne_of_none h hp)]; exact s a u st h
  · rw [upd_ne (ne_of_none h hp)]; exact k a u n h
  · by_cases q : a = p
    · rw [q]; exact hp
    · rw [upd_ne q] at h; exact d a h
theorem Ext.not_new {p : Addr} {o : HO} (x : Ext ρ0 H0 ρ H) (hp : p ∉ ρ0) (h : H0 p = some o) : p ∉ ρ := fun hm => by
  obtain ⟨t, et, ft⟩ := x.pre
  rw [et] at hm
  rcases List.mem_append.mp hm with hm | hm
  · exact hp hm
  · have := ft p hm
    rw [h] at this
    cases this
end
abbrev WF : WX := fun _ _ _ _ => False
section
variable {G : Gl} {W : WX} {X : Cx} {P : CProg} {F : Fns} {pos : Pos} {C : Ctx} {k : Nat}
abbrev RIf (G : Gl) (P : CProg) (F : Fns) (X : Cx) (W : WX) (es : List Expr) (cs : List CE) : Prop := PTs X es (tR G (REq Bool) W (evIfs P F cs))
theorem _root_.L2.PTs.imp {X : Cx} {e : List Expr} {t t' : TT} (h : PTs X e t) (k : ∀ σ H Q, t' σ H Q → t σ H Q) : PTs X e t' := ⟨fun pins s σ H Q I q => h.run pins s σ H Q I (k σ H Q q)⟩
theorem rif_of {f : Expr → CE} (hf : ∀ e, RT G P F X W e (f e)) : ∀ es : List Expr, RIf G P F X W es (es.map f)
  | [] => pts_nil.imp fun σ H Q ⟨ρ, A, L, s, l, o⟩ => OutR.ok (R := REq Bool) (by simpa only [List.map_nil, evIfs] using o) s rfl
  | [e] => (pts_one (hf e)).imp fun σ H Q ⟨ρ, A, L, s, l, o⟩ => ⟨ρ, A, L, s, l, by simpa only [List.map_cons, List.map_nil, evIfs, evT] using o⟩
  | a :: b :: es => ⟨fun pins s σ H Q I h => by
    obtain ⟨ρ, A, L, _, _, o⟩ := h
    simp only [List.map_cons, evIfs, OutR] at o⟩
theorem comp_lc {own : List (Str × Nat)} {ce : CE} {ct : CT} {ci : CI} {cs : List CE} (hw : ∀ i ∈ slotsT ct, i ∈ own.map (·.2)) {σ : St} {H : Hp} {Q : VK} (q : tR G RV W (evE P F (.comp ce ct ci cs (own.map (·.2)))) σ H Q) :
    tLc (tR G JOk W (evI P F ci)) (tG G WF (slotsT ct) (asT P F ct)) (tR G (REq Bool) WF (evIfs P F cs)) (tR G RV WF (evE P F ce)) (own.map (·.2)) σ H Q := by
  obtain ⟨ρ, A, L, s, l, o⟩ := q
  simp only [evE] at o
  refine ⟨ρ, A, L, s, l, (OutR.bind (R := JOk) o).imp fun J H1 ⟨ρ1, A1, w, x1, s1, jo, o1⟩ => ?_⟩
  intro Da hDa
  have l1 := l.mono x1
  generalize hf : (fun (d : D) (acc : List D) (A : AH) => ((asT P F ct d (Kin.wipe L (own.map (·.2))) A).bind fun L A => (evIfs P F cs L A).bind fun b A =>
      if b then (evE P F ce L A).bind fun v A => if acc.length < lim then .ok (acc ++ [v]) A else .bad else .ok acc A).calm) = f at o1
  let Wp : Nat → Nat → Hp → Prop := fun i m H => ∃ ρ A acc vs, Sim ρ A H ∧ Ext ρ1 H1 ρ H ∧ Da ∉ ρ ∧ H Da = some (.lst vs) ∧ RVs ρ H acc vs ∧
    OutR G RV W σ ρ1 H1 Q ((overW w f m i acc A).bind fun ds A => Res.of (some (new A (.lst ds))))
  refine ⟨Wp, ⟨fuel, ρ1, A1, [], [], s1.lay hDa, Ext.lay hDa, s1.not_mem hDa, upd_same, by simp only [RVs], o1⟩, ?_⟩
  rintro i m H2 ⟨ρ2, A2, acc, vs, s2, x2, n2, h2, r2, o2⟩
  cases m with
  | zero => exact (show False from o2).elim
  | succ m =>
    simp only [overW] at o2
    have jj := jo i ρ2 A2 H2 x2 s2
    split at o2
    · exact (show False from o2).elim
    · rename_i e
      exact .inl ⟨jj.1 e, o2 _ _ _ (x2.reg hDa) (s2.reg n2 ⟨vs, h2, r2⟩) (ref_new s2)⟩
    · rename_i d e
      obtain ⟨go, yl⟩ := jj.2 d e
      refine .inr ⟨go, fun H' => Wp (i + 1) m H', fun H' q => ⟨m, Nat.lt_succ_self m, q⟩, fun x H' y => ?_⟩
      obtain ⟨x3, s3, r3⟩ := yl x H' y
      have h3 : H' Da = some (.lst vs) := x3.keep _ _ n2 h2
      subst hf
      rw [res_bind] at o2
      refine ⟨ρ2, A2, _, d, s3, rl_wipe ((l1.mono x2).mono x3) _, r3, (calm0 (R := RLo (slotsT ct) (L2.wipe σ (own.map (·.2)))) o2).imp fun σ4 H4 ⟨ρ4, A4, L4, x4, s4, ⟨l4, w4⟩, o4⟩ => ?_⟩
      refine ⟨?_, ρ4, A4, L4, s4, l4, (calm0 (R := REq Bool) o4).imp fun b H5 ⟨ρ5, A5, b', x5, s5, eb, o5⟩ => ?_⟩
      · rw [w4 _ hw]
        exact wipe_wipe σ _ _ fun _ h => h
      · cases eb
        have h5 : H5 Da = some (.lst vs) := (x4.trans x5).keep _ _ n2 h3
        have n5 : Da ∉ ρ5 := (x4.trans x5).not_new n2 h3
        cases b
        · exact ⟨ρ5, A5, acc, vs, s5, ((x2.trans x3).trans x4).trans x5, n5, h5, RVs.mono (x3.trans (x4.trans x5)) _ _ r2, o5⟩
        · refine ⟨ρ5, A5, L4, s5, l4.mono x5, (calm0 (R := RV) o5).imp fun v H6 ⟨ρ6, A6, d6, x6, s6, r6, o6⟩ => ?_⟩
          have h6 : H6 Da = some (.lst vs) := x6.keep _ _ n5 h5
          have n6 : Da ∉ ρ6 := x6.not_new n5 h5
          split at o6
          · rename_i hl
            have ra := RVs.mono ((x3.trans (x4.trans x5)).trans x6) _ _ r2
            have ns : ¬ Still (.lst vs) := id
            refine ⟨vs, h6, by rw [ra.length, ← lim_eq]; exact hl, ρ6, A6, acc ++ [d6], vs ++ [v], s6.own n6 h6 ns, ((((x2.trans x3).trans x4).trans x5).trans x6).over hDa, n6, upd_same, RVs.mono2 (upd_ex h6 ns) _ _ (ra.append (RVs.one r6)), o6⟩
          · exact (show False from o6).elim
theorem re_comp {elt tg iter : Expr} {ifs : List Expr} {scope : Scope} {own : List (Str × Nat)} {ce : CE} {ct : CT} {ci : CI} {cs : List CE} (t : Top G F C k X) (hN : X.N.Nodup) (hi : RI G P F X W tg iter ci) (ok : BlkOk X.N X.env.scope scope own)
    (hw : ∀ i ∈ slotsT ct, i ∈ own.map (·.2))
    (hg : ∀ s H C cl fp, RG G P F (X.blk s H scope (compEnvC scope cl C X.env) fp) WF tg ct) (ht : ∀ s H C cl fp, RIf G P F (X.blk s H scope (compEnvC scope cl C X.env) fp) WF ifs cs)
    (he : ∀ s H C cl fp, RE G P F (X.blk s H scope (compEnvC scope cl C X.env) fp) WF elt ce) (hs : ∀ x, foldedSetIterable iter X.env x = pure x) :
    RE G P F X W (.ListComp elt [⟨tg, iter, ifs, 0⟩] scope pos) (.comp ce ct ci cs (own.map (·.2))) := by
  exact (pe_lc t.calm hN hi ok hg ht he hs).imp fun σ H Q q => comp_lc hw q
end
end Kin
end
section
set_option linter.all false
set_option maxRecDepth 100000
/-! Kin 18: the compiler's expressions. -/
namespace Kin
open PySem PySem.Spec PyProof.Rows L2
theorem ix_at {x : Str} {l : List Str} {i : Nat} (h : ix x l = some i) : l[i]? = some x := by
  unfold ix List.idxOf? at h
  obtain ⟨hi, e, _⟩ := List.findIdx?_eq_some_iff_getElem.mp h
  rw [List.getElem?_eq_getElem hi]
  exact congrArg some (eq_of_beq e)
theorem visB_ok {sc : Scope} {x : Str} (h : visB sc x = true) : Vis sc x := by
  unfold visB at h
  split at h
  · rename_i e; exact .inl e
  · rename_i e; exact .inr (.inl e)
  · rename_i e; exact .inr (.inr e)
  · cases h
theorem locB_ok {sc : Scope} {x : Str} (h : locB sc x = true) : L2.Loc sc x := by
  unfold locB at h
  split at h
  · rename_i e; exact .inl e
  · rename_i e; exact .inr e
  · cases h
/-- from what is seen -/
theorem ScOk.mk' {C : Ctx} {X : Cx} (nd : X.N.Nodup) (kind : X.env.scope.kind = .function) (sc : X.env.scope = C.sc) (n : X.N = C.N)
    (fn : ∀ x, wrB C.wr x = true → L2.Loc X.env.scope x → X.fn x = true ∨ X.env.scope.names.lookup x = some .local) : ScOk C X where
  nd := nd
  kind := kind
  sc := sc
  n := n
  vis := fun x i h => by
    unfold Ctx.slot at h
    split at h
    · rename_i e
      rw [Bool.and_eq_true] at e
      exact ⟨by rw [sc]; exact visB_ok e.1, by rw [n]; exact ix_at h, e.2⟩
    · cases h
  tgt := fun x i h => by
    unfold Ctx.tslot at h
    split at h
    · rename_i e
      rw [Bool.and_eq_true, Bool.and_eq_true] at e
      have l : L2.Loc X.env.scope x := by rw [sc]; exact locB_ok e.1.1
      exact ⟨l, by rw [n]; exact ix_at h, fn x e.2 l⟩
    · cases h
theorem own_ix {scope : Scope} {C : Ctx} : ∀ p ∈ ownOf scope C, C.N[p.2]? = some p.1 := by
  intro p hp
  unfold ownOf at hp
  obtain ⟨y, hy, e⟩ := List.mem_filterMap.mp hp
  have key : ∀ q : Option Nat, (q.map fun i => (y.1, i)) = some p → q = some p.2 ∧ p.1 = y.1 := by
    intro q h
    cases q with
    | none => cases h
    | some i => cases h; exact ⟨rfl, rfl⟩
  split at e
  · obtain ⟨a, b⟩ := key _ e; rw [b]; exact ix_at a
  · obtain ⟨a, b⟩ := key _ e; rw [b]; exact ix_at a
  · cases e
theorem blk_ok {scope : Scope} {C : Ctx} (h : blkB scope C = true) : BlkOk C.N C.sc scope (ownOf scope C) := by
  unfold blkB at h
  rw [Bool.and_eq_true] at h
  obtain ⟨h1, h2⟩ := h
  have h2 := List.all_eq_true.mp h2
  have own : ∀ y : Str, ((ownOf scope C).any (fun p => decide (p.1 = y)) || !C.N.contains y) = true → y ∈ (ownOf scope C).map (·.1) ∨ y ∉ C.N := by
    intro y hy
    rw [Bool.or_eq_true] at hy
    rcases hy with hy | hy
    · obtain ⟨p, hp, e⟩ := List.any_eq_true.mp hy
      exact .inl (List.mem_map.mpr ⟨p, hp, of_decide_eq_true e⟩)
    · exact .inr fun hm => by simp [hm] at hy
  refine ⟨by simpa using h1, fun y hy => ?_, own_ix, fun y hy e => ?_, fun y hy e => ?_⟩
  · have := h2 y hy
    rw [Bool.and_eq_true] at this
    exact of_decide_eq_true this.1
  · have := h2 y hy
    rw [Bool.and_eq_true, e] at this
    have := this.2
    simp only at this
    split at this
    · rename_i q; exact .inl q
    · rename_i q; exact .inr q
    · cases this
  · have := h2 y hy
    rw [Bool.and_eq_true] at this
    have := this.2
    rcases e with e | e
    · rw [e] at this
      exact own _ this
    · rw [e] at this
      exact own _ this
section
variable {G : Gl} {P : CProg} {F : Fns} {k : Nat} {C : Ctx} {X : Cx}
theorem Top.blk (t : Top G F C k X) {s : Shared} {H : Hp} {scope : Scope} {env : Env} {fp : List Addr} : Top G F (relC scope C) k (X.blk s H scope env fp) := ⟨t.calm, t.room, t.cons, t.blt, t.fun_⟩
theorem ScOk.blk (so : ScOk C X) {s : Shared} {H : Hp} {scope : Scope} {C' : Addr} {cl : List (Str × Addr)} {fp : List Addr} (hb : blkB scope C = true) : ScOk (relC scope C) (X.blk s H scope (compEnvC scope cl C' X.env) fp) := by
  have hsc : (compEnvC scope cl C' X.env).scope = relS scope C.sc := by rw [← so.sc]; rfl
  refine ScOk.mk' so.nd ?_ hsc so.n fun x h l => ?_
  · show (compEnvC scope cl C' X.env).scope.kind = .function
    rw [hsc]
    exact (blk_ok hb).kind
  · have h' : locB scope x = true := h
    rcases locB_ok h' with e | e
    · refine .inr ?_
      show (compEnvC scope cl C' X.env).scope.names.lookup x = some .local
      rw [hsc]
      exact lookup_relS_keep (by simp) e
    · refine .inl ?_
      show (scope.names.lookup x == some .cell) = true
      rw [e]
      rfl
theorem lookup_mem {x : Str} {k : NameKind} : ∀ {l : List (Str × NameKind)}, l.lookup x = some k → (x, k) ∈ l
  | [], h => by simp at h
  | (y, j) :: r, h => by
    rw [List.lookup_cons] at h
    by_cases q : x = y
    · subst q
      simp at h
      subst h
      simp
    · have : (x == y) = false := by simpa using q
      rw [this] at h
      exact List.mem_cons_of_mem _ (lookup_mem h)
/-- the slots of a comprehension's target are its own -/
theorem slots_in {f : CEF} {scope : Scope} {C : Ctx} (hN : C.N.Nodup) : ∀ (m : Nat) (e : Expr), ∀ i ∈ slotsT (tgtF f m (relC scope C) e), i ∈ (ownOf scope C).map (·.2)
  | 0, e, i, h => by simp [tgtF, slotsT] at h
  | m + 1, e, i, h => by
    cases e with
    | Name x p =>
      simp only [tgtF] at h
      split at h
      · rename_i j ej
        simp only [slotsT, List.mem_singleton] at h
        subst h
        unfold Ctx.tslot at ej
        split at ej
        · rename_i hc
          rw [Bool.and_eq_true, Bool.and_eq_true] at hc
          have hw : locB scope x = true := hc.2
          refine List.mem_map.mpr ⟨(x, i), ?_, rfl⟩
          unfold ownOf
          rcases locB_ok hw with e | e
          · refine List.mem_filterMap.mpr ⟨(x, .local), lookup_mem e, ?_⟩
            show (ix x C.N).map _ = _
            rw [show ix x C.N = some i from ej]
            rfl
          · refine List.mem_filterMap.mpr ⟨(x, .cell), lookup_mem e, ?_⟩
            show (ix x C.N).map _ = _
            rw [show ix x C.N = some i from ej]
            rfl
        · cases ej
      · simp [slotsT] at h
    | Tuple es j p =>
      simp only [tgtF] at h
      split at h
      · simp [slotsT] at h
      · simp only [slotsT] at h
        have key : ∀ es : List Expr, i ∈ slotsTs (es.map (tgtF f m (relC scope C))) → i ∈ (ownOf scope C).map (·.2) := by
          intro es
          induction es with
          | nil => intro h; simp [slotsTs] at h
          | cons e es ih =>
            intro h
            simp only [List.map_cons, slotsTs, List.mem_append] at h
            rcases h with h | h
            · exact slots_in hN m e i h
            · exact ih h
        exact key es h
    | Subscript a b p =>
      simp only [tgtF] at h
      split at h <;> simp [slotsT] at h
    | _ => simp [tgtF, slotsT] at h
theorem tgt_ok {W : WX} {f : CEF} (t : Top G F C k X) (so : ScOk C X) (hf : ∀ e, RE G P F X W e (f C e)) : ∀ (m : Nat) (e : Expr), RG G P F X W e (tgtF f m C e)
  | 0, e => rg_bad
  | m + 1, e => by
    cases e with
    | Name x p =>
      simp only [tgtF]
      split
      · rename_i j ej
        exact rg_slot so ej
      · exact rg_bad
    | Tuple es j p =>
      simp only [tgtF]
      split
      · exact rg_bad
      · rename_i h
        exact rg_tup t (fun e => tgt_ok t so hf m e) (by simpa using h)
    | Subscript a b p =>
      simp only [tgtF]
      split
      · exact rg_bad
      · rename_i h
        exact rg_item (by simpa using h) (hf a) (hf b)
    | _ => exact rg_bad
theorem iter_ok {W : WX} {f : CEF} (t : Top G F C k X) (so : ScOk C X) (hf : ∀ e, RE G P F X W e (f C e)) (tg e : Expr) : RI G P F X W tg e (iterF f C (isTup tg) e) := by
  unfold iterF
  split
  · rename_i as h
    exact ri_range t so h hf
  · split
    · rename_i g p es q _
      split
      · rename_i h
        rw [Bool.and_eq_true, Bool.and_eq_true] at h
        split
        · rename_i a _
          split
          · exact ri_bad
          · rename_i hs
            cases tg <;> first | (exact (Bool.false_ne_true h.2).elim) | exact ri_enum t so (by simpa using h.1.1) h.1.2 (by simpa using hs) (hf a)
        · exact ri_bad
      · split
        · rename_i h
          rw [Bool.and_eq_true, Bool.and_eq_true] at h
          split
          · rename_i a b _
            split
            · exact ri_bad
            · rename_i hs
              have hs : isStar a = false ∧ isStar b = false := by simpa using hs
              cases tg <;> first | (exact (Bool.false_ne_true h.2).elim) | exact ri_zip t so (by simpa using h.1.1) h.1.2 hs.1 hs.2 (hf a) (hf b)
          · exact ri_bad
        · split
          · exact ri_bad
          · exact ri_seq (hf _)
    · split
      · exact ri_bad
      · exact ri_seq (hf _)
theorem folded_ok {W : WX} {f : CEF} (tg e : Expr) (env : Env) (h : iterF f C (isTup tg) e ≠ .bad) : ∀ x, foldedSetIterable e env x = pure x := by
  intro x
  cases e with
  | Set a b c => exact absurd (by simp [iterF, rangeArgs, isSet]) h
  | _ => rfl
end
end Kin
end
section
set_option linter.all false
set_option maxRecDepth 100000
/-! Kin 19: every expression that the compiler reads. -/
namespace Kin
open PySem PySem.Spec PyProof.Rows L2
section
variable {G : Gl} {P : CProg} {F : Fns} {k : Nat}
theorem takes_wf {X : Cx} : Takes X WF := fun _ _ h => by
  obtain ⟨_, _, _, _, _, _, _, _, _, _, _, _, _, _, _, _, w⟩ := h
  exact w.elim
theorem plain_of {C : Ctx} {as : List Expr} {e : Expr} (h : rangeArgs C e = some as) : isStar e = false := by
  cases e <;> first | rfl | simp [rangeArgs] at h
theorem callF_ok {X : Cx} {C : Ctx} {W : WX} {f : CEF} {x : Str} {es : List Expr} {p pos : Pos} (t : Top G F C k X) (so : ScOk C X) (tk : Takes X W) (hf : ∀ e, RE G P F X W e (f C e)) :
    RE G P F X W (.Call (.Name x p) es [] pos) (callF f C x es) := by
  unfold callF
  split
  · rename_i i hi
    split
    · rename_i hg
      rw [Bool.and_eq_true] at hg
      obtain ⟨hg, he⟩ := hg
      cases es with
      | nil => simp at he
      | cons e es =>
        by_cases hp : (e :: es).any isStar = true
        · refine ⟨fun pins s σ H Q I h => ?_⟩
          obtain ⟨ρ, A, L, _, _, o⟩ := h
          simp only [listF, hp, if_true, evE, evEs, Res.bind, OutR] at o
        · have hp : (e :: es).any isStar = false := by simpa using hp
          exact re_call t so tk hg hi hp (pa_listF hf _)
    · exact re_bad
  · split
    · rename_i hb
      split
      · rename_i hx
        split
        · rename_i a tt
          split
          · exact re_bad
          · rename_i hs
            split
            · rename_i T hT
              exact re_isi t so hb hx (by simpa using hs) hT (hf a)
            · exact re_bad
        · exact re_bad
      · have blt : ∀ {b : Blt} {e : Expr} {es : List Expr}, (bltOf x = some b ∨ btyOf x = some b) → RE G P F X W (.Call (.Name x p) (e :: es) [] pos) (.blt b (listF f C (e :: es))) := by
          intro b e es h
          by_cases hp : (e :: es).any isStar = true
          · refine ⟨fun pins s σ H Q I h => ?_⟩
            obtain ⟨ρ, A, L, _, _, o⟩ := h
            simp only [listF, hp, if_true, evE, evEs, Res.bind, OutR] at o
          · have hp : (e :: es).any isStar = false := by simpa using hp
            exact re_blt t so hb h hp (pa_listF hf _)
        split
        · exact blt (.inl (by assumption))
        · rename_i b e _ h
          split
          · rename_i hx
            split
            · rename_i as ha
              exact re_listR t so hb hx ha hf
            · exact blt (.inr h)
          · exact blt (.inr h)
        · exact re_bad
    · exact re_bad
theorem subF_ok {X : Cx} {C : Ctx} {W : WX} {f : CEF} {a i : Expr} {pos : Pos} (t : Top G F C k X) (hf : ∀ e, RE G P F X W e (f C e)) : RE G P F X W (.Subscript a i pos) (subF f C a i) := by
  unfold subF
  split
  · exact re_rev (hf a)
  · exact re_slc hf (hf a)
  · exact re_bad
  · rename_i h1 h2 h3
    refine re_idx t ?_ (hf a) (hf i)
    cases i <;> first | rfl | exact (h3 _ _ _ _ rfl).elim
theorem exp_ok : ∀ (n : Nat) {X : Cx} {C : Ctx} {W : WX}, Top G F C k X → ScOk C X → Takes X W → ∀ e, RE G P F X W e (compE n C e) ∧ RT G P F X W e (compE n C e)
  | 0, _, _, _, _, _, _, e => ⟨re_bad, rt_bad⟩
  | n + 1, X, C, W, t, so, tk, e => by
    have IH := fun e => exp_ok n t so tk e
    have hE := fun e => (IH e).1
    have hT := fun e => (IH e).2
    have plain : ∀ {e : Expr} {c : CE}, (∀ whole, PySem.isTrue e X.env whole = (do let v ← whole; standAt e.pos; holding [v] (truthy v))) → RE G P F X W e c → RE G P F X W e c ∧ RT G P F X W e c := fun he h => ⟨h, rt_of h he⟩
    have bb : ∀ {e : Expr}, RE G P F X W e .bad ∧ RT G P F X W e .bad := ⟨re_bad, rt_bad⟩
    cases e with
    | Constant c j p =>
      simp only [compE]
      split
      · rename_i d h
        exact plain (fun _ => rfl) (re_cst h)
      · exact bb
    | Name x p =>
      simp only [compE]
      split
      · rename_i i h
        exact plain (fun _ => rfl) (re_slot so h)
      · split
        · rename_i hg
          split
          · rename_i d h
            exact plain (fun _ => rfl) (re_con t so hg h)
          · exact bb
        · exact bb
    | Tuple es j p =>
      simp only [compE]
      exact plain (fun _ => rfl) (re_tup (pa_listF hE es))
    | List es p =>
      simp only [compE]
      exact plain (fun _ => rfl) (re_lst (pa_listF hE es))
    | Dict ks vs p =>
      simp only [compE]
      split
      · rename_i h
        rw [Bool.and_eq_true, Bool.and_eq_true, Bool.and_eq_true] at h
        obtain ⟨⟨⟨h1, h2⟩, h3⟩, h4⟩ := h
        exact plain (fun _ => rfl) (re_dct hE (of_decide_eq_true h2) h1 (fun e => by subst e; simp at h3) (of_decide_eq_true h4))
      · split
        · rename_i h
          rw [Bool.and_eq_true] at h
          have e1 : ks = [] := by simpa using h.1
          have e2 : vs = [] := by simpa using h.2
          subst e1 e2
          exact plain (fun _ => rfl) re_dct0
        · exact bb
    | BinOp a op b p =>
      simp only [compE]
      split
      · split
        · rename_i h
          exact plain (fun _ => rfl) (re_pow h)
        · exact bb
      · split
        · rename_i o h
          exact plain (fun _ => rfl) (re_bin h (hE a) (hE b))
        · exact bb
    | UnaryOp op a p =>
      cases op with
      | USub => exact plain (fun _ => rfl) (re_neg (hE a))
      | Not => exact ⟨re_not (hE a), rt_not (hT a)⟩
      | _ => exact bb
    | BoolOp op es p => exact ⟨re_bools hE es, (rt_bools hT es).pt⟩
    | IfExp c a b p => exact ⟨re_ite (hT c) (hE a) (hE b), rt_ite (hT c) (hT a) (hT b)⟩
    | Compare a ops bs p =>
      match ops, bs with
      | [op], [b] =>
        simp only [compE]
        split
        · rename_i o h
          split
          · exact bb
          · rename_i hs
            exact re_cmp t h (by simpa using hs) (hE a) (hE b)
        · exact bb
      | [op, op'], [b, c] =>
        simp only [compE]
        split
        · rename_i o o' h h'
          split
          · exact bb
          · rename_i hs
            exact re_chain t h h' (by simpa using hs) (hE a) (hE b) (hE c)
        · exact bb
      | [], _ => exact bb
      | [_], [] => exact bb
      | [_], _ :: _ :: _ => exact bb
      | [_, _], [] => exact bb
      | [_, _], [_] => exact bb
      | [_, _], _ :: _ :: _ :: _ => exact bb
      | _ :: _ :: _ :: _, _ => exact bb
    | Subscript a i p => exact plain (fun _ => rfl) (subF_ok t hE)
    | Call fe es kws p =>
      cases fe with
      | Name x q =>
        cases kws with
        | nil => exact plain (fun _ => rfl) (callF_ok t so tk hE)
        | cons _ _ => exact bb
      | _ => exact bb
    | ListComp elt gs scope p =>
      match gs with
      | [⟨tg, it, ifs, as⟩] =>
        by_cases h0 : as = 0
        case neg =>
          have e : compE (n + 1) C (.ListComp elt [⟨tg, it, ifs, as⟩] scope p) = .bad := by
            unfold compE
            split <;> first | rfl | (simp_all)
          rw [e]
          exact bb
        subst h0
        simp only [compE]
        split
        · rename_i hb
          have ok := blk_ok hb
          by_cases hbad : iterF (compE n) C (isTup tg) it = .bad
          · rw [hbad]
            refine plain (fun _ => rfl) ⟨fun pins s σ H Q I h => ?_⟩
            obtain ⟨ρ, A, L, _, _, o⟩ := h
            simp only [evE, evI, Res.bind, OutR] at o
          · refine plain (fun _ => rfl) (re_comp t so.nd (iter_ok t so hE tg it) (by rw [so.n, so.sc]; exact ok) (slots_in (so.n ▸ so.nd) 6 tg) (fun s H C' cl fp => ?_) (fun s H C' cl fp => ?_) (fun s H C' cl fp => ?_) (folded_ok (W := W) tg it X.env hbad))
            · exact tgt_ok t.blk (so.blk hb) (fun e => (exp_ok n t.blk (so.blk hb) takes_wf e).1) 6 tg
            · exact rif_of (fun e => (exp_ok n t.blk (so.blk hb) takes_wf e).2) ifs
            · exact (exp_ok n t.blk (so.blk hb) takes_wf elt).1
        · exact bb
      | [] => exact bb
      | g1 :: g2 :: gs =>
        have e : compE (n + 1) C (.ListComp elt (g1 :: g2 :: gs) scope p) = .bad := by
          unfold compE
          split <;> first | rfl | (simp_all)
        rw [e]
        exact bb
    | _ => exact bb
end
end Kin
end
section
set_option linter.all false
set_option maxRecDepth 100000
/-! Kin 20: statements. -/
namespace Kin
open PySem PySem.Spec PyProof.Rows L2
def OutS (G : Gl) (W : WX) (ρ : List Addr) (H : Hp) (D : Ends) : SRes → Prop
  | .nx L A => ∀ ρ' H' σ', Ext ρ H ρ' H' → Sim ρ' A H' → RL ρ' H' L σ' → D.nx σ' H'
  | .rt d A => ∀ ρ' H' v, Ext ρ H ρ' H' → Sim ρ' A H' → RV ρ' H' d v → D.rt v H'
  | .bk L A => ∀ ρ' H' σ', Ext ρ H ρ' H' → Sim ρ' A H' → RL ρ' H' L σ' → D.bk σ' H'
  | .ct L A => ∀ ρ' H' σ', Ext ρ H ρ' H' → Sim ρ' A H' → RL ρ' H' L σ' → D.ct σ' H'
  | .exc x L A => ∀ ρ' H' σ' cls dx, Ext ρ H ρ' H' → Sim ρ' A H' → RL ρ' H' L σ' → RX G ρ' H' x cls dx → W cls dx σ' H'
  | .bad => False
def tS (G : Gl) (W : WX) (m : Loc → AH → SRes) : TS := fun D σ H => ∃ ρ A L, Sim ρ A H ∧ RL ρ H L σ ∧ OutS G W ρ H D (m L A)
section
variable {G : Gl} {W : WX} {ρ ρ1 : List Addr} {H H1 : Hp} {D D' : Ends} {σ : St}
theorem OutS.mono (x : Ext ρ H ρ1 H1) : ∀ {r : SRes}, OutS G W ρ H D r → OutS G W ρ1 H1 D r
  | .nx _ _, h => fun ρ' H' v e s r => h ρ' H' v (x.trans e) s r
  | .rt _ _, h => fun ρ' H' v e s r => h ρ' H' v (x.trans e) s r
  | .bk _ _, h => fun ρ' H' v e s r => h ρ' H' v (x.trans e) s r
  | .ct _ _, h => fun ρ' H' v e s r => h ρ' H' v (x.trans e) s r
  | .exc _ _ _, h => fun ρ' H' v c d e s r => h ρ' H' v c d (x.trans e) s r
  | .bad, h => h
theorem OutS.nx {L : Kin.Loc} {A : AH} (h : OutS G W ρ H D (.nx L A)) (s : Sim ρ A H) (l : RL ρ H L σ) : D.nx σ H := h ρ H σ .refl s l
theorem OutS.ofE {α β : Type} {R : Rel α β} {L : Kin.Loc} {r : Res α} {f : α → AH → SRes} (l : RL ρ H L σ) (h : OutS G W ρ H D (SRes.ofE L r f)) :
    OutR G R W σ ρ H (fun v H1 => ∃ ρ1 A1 x, Ext ρ H ρ1 H1 ∧ Sim ρ1 A1 H1 ∧ R ρ1 H1 x v ∧ OutS G W ρ1 H1 D (f x A1)) r := by
  cases r with
  | ok x A => exact fun ρ' H' v e s r => ⟨ρ', A, x, e, s, r, OutS.mono e h⟩
  | exc x A => exact fun ρ' H' c d e s r => h ρ' H' σ c d e s (l.mono e) r
  | bad => exact h
end
section
variable {G : Gl} {W : WX} {X : Cx} {P : CProg} {F : Fns} {pos : Pos} {C : Ctx} {k : Nat}
abbrev RS (G : Gl) (P : CProg) (F : Fns) (X : Cx) (W : WX) (st : Stmt) (c : CS) : Prop := PS X st (tS G W (evS P F c))
abbrev RSs (G : Gl) (P : CProg) (F : Fns) (X : Cx) (W : WX) (st : List Stmt) (cs : List CS) : Prop := PSs X st (tS G W (evSs P F cs))
theorem rs_bad {st : Stmt} : RS G P F X W st .bad := ⟨fun pins s σ H D I h => by
  obtain ⟨ρ, A, L, _, _, o⟩ := h
  simp only [evS, OutS] at o⟩
theorem rss_list {f : Stmt → CS} (hf : ∀ s, RS G P F X W s (f s)) : ∀ ss : List Stmt, RSs G P F X W ss (ss.map f)
  | [] => pss_nil.imp fun D σ H ⟨ρ, A, L, s, l, o⟩ => OutS.nx (by simpa only [List.map_nil, evSs] using o) s l
  | s :: ss => (pss_cons (hf s) (rss_list hf ss)).imp fun D σ H ⟨ρ, A, L, si, l, o⟩ => by
    refine ⟨ρ, A, L, si, l, ?_⟩
    simp only [List.map_cons, evSs] at o
    cases e : evS P F (f s) L A with
    | nx L1 A1 =>
      rw [e] at o
      exact fun ρ' H' σ' x s' l' => ⟨ρ', A1, L1, s', l', OutS.mono x o⟩
    | rt d A1 => rw [e] at o; exact o
    | bk L1 A1 => rw [e] at o; exact o
    | ct L1 A1 => rw [e] at o; exact o
    | exc x L1 A1 => rw [e] at o; exact o
    | bad => rw [e] at o; exact o
theorem swaps_plain {e : Expr} {t : Option Expr} {l : Nat} {env : Env} (h : isComp e = false) : swapsWith e t l env = pure false := by
  cases e <;> first | rfl | (exact (Bool.false_ne_true h.symm).elim)
theorem rs_ex {e : Expr} {c : CE} (hc : isComp e = false) (he : RE G P F X W e c) : RS G P F X W (.Expr e pos) (.ex c) :=
  (ps_expr he (swaps_plain hc)).imp fun D σ H ⟨ρ, A, L, s, l, o⟩ => by
    simp only [evS] at o
    exact ⟨ρ, A, L, s, l, (OutS.ofE (R := RV) l o).imp fun v H1 ⟨ρ1, A1, x, x1, s1, r1, o1⟩ => OutS.nx o1 s1 (l.mono x1)⟩
theorem rs_ret {e : Expr} {c : CE} (he : RE G P F X W e c) : RS G P F X W (.Return (some e) pos) (.ret c) :=
  (ps_ret he).imp fun D σ H ⟨ρ, A, L, s, l, o⟩ => by
    simp only [evS] at o
    exact ⟨ρ, A, L, s, l, (OutS.ofE (R := RV) l o).imp fun v H1 ⟨ρ1, A1, x, x1, s1, r1, o1⟩ => o1 ρ1 H1 v .refl s1 r1⟩
theorem rs_retN : RS G P F X W (.Return none pos) (.ret (.cst .non)) :=
  ps_retN.imp fun D σ H ⟨ρ, A, L, s, l, o⟩ => by
    simp only [evS, evE, SRes.ofE] at o
    exact o ρ H .non .refl s (by simp only [RV])
theorem rs_cond {c : Expr} {cc : CE} {a b : List Stmt} {ca cb : List CS} (hc : RT G P F X W c cc) (ha : RSs G P F X W a ca) (hb : RSs G P F X W b cb) : RS G P F X W (.If c a b pos) (.cond cc ca cb) :=
  (ps_if hc ha hb).imp fun D σ H ⟨ρ, A, L, s, l, o⟩ => by
    simp only [evS] at o
    refine ⟨ρ, A, L, s, l, (OutS.ofE (R := REq Bool) l o).imp fun v H1 ⟨ρ1, A1, x, x1, s1, r1, o1⟩ => ?_⟩
    cases r1
    cases v
    · exact ⟨ρ1, A1, L, s1, l.mono x1, o1⟩
    · exact ⟨ρ1, A1, L, s1, l.mono x1, o1⟩
/-- target = value -/
theorem asg_imp {te : TE} {g : TG} {ct : CT} {ce : CE} (h1 : ∀ {σ H Q}, tR G RV W (evE P F ce) σ H Q → te σ H Q) (h2 : ∀ {v σ H Q}, tG G W (slotsT ct) (asT P F ct) v σ H Q → g v σ H Q) {D : Ends} {σ : St} {H : Hp}
    (q : tS G W (evS P F (.asg ct ce)) D σ H) : tAsg te g D σ H := by
  obtain ⟨ρ, A, L, s, l, o⟩ := q
  simp only [evS] at o
  refine h1 ⟨ρ, A, L, s, l, (OutS.ofE (R := RV) l o).imp fun v H1 ⟨ρ1, A1, x, x1, s1, r1, o1⟩ => ?_⟩
  refine h2 ⟨ρ1, A1, L, x, s1, l.mono x1, r1, ?_⟩
  exact (OutS.ofE (R := RLo (slotsT ct) σ) (l.mono x1) o1).imp fun σ2 H2 ⟨ρ2, A2, L2, x2, s2, ⟨l2, _⟩, o2⟩ => OutS.nx o2 s2 l2
theorem rs_asg {tg e : Expr} {ct : CT} {ce : CE} (hg : RG G P F X W tg ct) (he : RE G P F X W e ce) (hs : swapsWith e (some tg) pos.line X.env = pure false) (hw : swappedStores [tg] e X.env = pure none) (hst : isStar tg = false) :
    RS G P F X W (.Assign [tg] e pos) (.asg ct ce) :=
  (ps_asg he hg hs hw (by rw [assignEach_cons hst]; rfl)).imp fun D σ H q => asg_imp (fun h => h) (fun h => h) q
/-! loops -/
theorem rs_loop {tg it : Expr} {b : List Stmt} {ct : CT} {ci : CI} {cb : List CS} (t : Top G F C k X) (hp : PassesOwn (model X.prog X.w) X.A X.env X.xe) (hi : RI G P F X W tg it ci) (hg : RG G P F X W tg ct) (hb : RSs G P F X W b cb)
    (hs : ∀ x, foldedSetIterable it X.env x = pure x) : RS G P F X W (.For tg it b [] pos) (.loop ct ci cb) :=
  (ps_for hp t.calm hi hg hb hs).imp fun Dn σ H ⟨ρ, A, L, s, l, o⟩ => by
    simp only [evS] at o
    refine ⟨ρ, A, L, s, l, (OutS.ofE (R := JOk) l o).imp fun J H1 ⟨ρ1, A1, w, x1, s1, jo, o1⟩ => ?_⟩
    have l1 := l.mono x1
    generalize hf : (fun (d : Kin.D) (L : Kin.Loc) (A : AH) => SRes.ofE L (asT P F ct d L A) fun L A => evSs P F cb L A) = f at o1
    let Wp : Nat → Nat → St → Hp → Prop := fun i m σ H => ∃ ρ A L, Sim ρ A H ∧ Ext ρ1 H1 ρ H ∧ RL ρ H L σ ∧ OutS G W ρ H Dn (turnsW w f m i L A)
    refine ⟨Wp, ⟨fuel, ρ1, A1, L, s1, .refl, l1, o1⟩, ?_⟩
    rintro i m σ2 H2 ⟨ρ2, A2, L2, s2, x2, l2, o2⟩
    cases m with
    | zero => exact (show False from o2).elim
    | succ m =>
      simp only [turnsW] at o2
      have jj := jo i ρ2 A2 H2 x2 s2
      split at o2
      · exact (show False from o2).elim
      · rename_i e
        exact .inl ⟨jj.1 e, OutS.nx o2 s2 l2⟩
      · rename_i d e
        obtain ⟨go, yl⟩ := jj.2 d e
        refine .inr ⟨go, fun σ' H' => Wp (i + 1) m σ' H', fun σ' H' q => ⟨m, Nat.lt_succ_self m, q⟩, fun x H' y => ?_⟩
        obtain ⟨x3, s3, r3⟩ := yl x H' y
        have o3 : OutS G W ρ2 H' { Dn with nx := fun σ' H' => Wp (i + 1) m σ' H', ct := fun σ' H' => Wp (i + 1) m σ' H', bk := Dn.nx } (f d L2 A2) := by
          cases q : f d L2 A2 with
          | nx L4 A4 =>
            rw [q] at o2
            exact fun ρ' H4 σ' x4 s4 l4 => ⟨ρ', A4, L4, s4, (x2.trans x3).trans x4, l4, OutS.mono (x3.trans x4) o2⟩
          | ct L4 A4 =>
            rw [q] at o2
            exact fun ρ' H4 σ' x4 s4 l4 => ⟨ρ', A4, L4, s4, (x2.trans x3).trans x4, l4, OutS.mono (x3.trans x4) o2⟩
          | bk L4 A4 => rw [q] at o2; exact fun ρ' H4 σ' x4 s4 l4 => o2 ρ' H4 σ' (x3.trans x4) s4 l4
          | rt d4 A4 => rw [q] at o2; exact fun ρ' H4 v x4 s4 r4 => o2 ρ' H4 v (x3.trans x4) s4 r4
          | exc y L4 A4 => rw [q] at o2; exact fun ρ' H4 σ' c dx x4 s4 l4 r4 => o2 ρ' H4 σ' c dx (x3.trans x4) s4 l4 r4
          | bad => rw [q] at o2; exact o2
        subst hf
        refine ⟨ρ2, A2, L2, d, s3, l2.mono x3, r3, (OutS.ofE (R := RLo (slotsT ct) σ2) (l2.mono x3) o3).imp fun σ4 H4 ⟨ρ4, A4, L4, x4, s4, ⟨l4, _⟩, o4⟩ => ⟨ρ4, A4, L4, s4, l4, o4⟩⟩
theorem rs_while {c : Expr} {cc : CE} {b : List Stmt} {cb : List CS} (hp : PassesOwn (model X.prog X.w) X.A X.env X.xe) (hc : RT G P F X W c cc) (hb : RSs G P F X W b cb) : RS G P F X W (.While c b [] pos) (.while cc cb) :=
  (ps_while hp hc hb).imp fun D σ H ⟨ρ, A, L, s, l, o⟩ => by
    simp only [evS] at o
    let Wp : Nat → St → Hp → Prop := fun m σ H => ∃ ρ A L, Sim ρ A H ∧ RL ρ H L σ ∧ OutS G W ρ H D (whileN (evT P F cc) (fun L A => evSs P F cb L A) m L A)
    refine ⟨Wp, ⟨fuel, ρ, A, L, s, l, o⟩, ?_⟩
    rintro m σ2 H2 ⟨ρ2, A2, L2, s2, l2, o2⟩
    cases m with
    | zero => exact (show False from o2).elim
    | succ m =>
      simp only [whileN] at o2
      refine ⟨ρ2, A2, L2, s2, l2, ?_⟩
      cases q : evT P F cc L2 A2 with
      | exc y A3 => rw [q] at o2; exact fun ρ' H' c dx x s r => o2 ρ' H' σ2 c dx x s (l2.mono x) r
      | bad => rw [q] at o2; exact o2
      | ok k A3 =>
        rw [q] at o2
        intro ρ3 H3 v x3 s3 r3
        cases r3
        cases k
        · exact o2 ρ3 H3 σ2 x3 s3 (l2.mono x3)
        · refine ⟨fun σ' H' => Wp m σ' H', fun σ' H' q => ⟨m, Nat.lt_succ_self m, q⟩, ρ3, A3, L2, s3, l2.mono x3, ?_⟩
          cases q2 : evSs P F cb L2 A3 with
          | nx L4 A4 => simp only [q2] at o2; exact fun ρ' H4 σ' x4 s4 l4 => ⟨ρ', A4, L4, s4, l4, OutS.mono (x3.trans x4) o2⟩
          | ct L4 A4 => simp only [q2] at o2; exact fun ρ' H4 σ' x4 s4 l4 => ⟨ρ', A4, L4, s4, l4, OutS.mono (x3.trans x4) o2⟩
          | bk L4 A4 => simp only [q2] at o2; exact fun ρ' H4 σ' x4 s4 l4 => o2 ρ' H4 σ' (x3.trans x4) s4 l4
          | rt d4 A4 => simp only [q2] at o2; exact fun ρ' H4 v x4 s4 r4 => o2 ρ' H4 v (x3.trans x4) s4 r4
          | exc y L4 A4 => simp only [q2] at o2; exact fun ρ' H4 σ' c dx x4 s4 l4 r4 => o2 ρ' H4 σ' c dx (x3.trans x4) s4 l4 r4
          | bad => simp only [q2] at o2; exact o2
end
end Kin
end
section
set_option linter.all false
set_option maxRecDepth 100000
/-! Kin 21: every statement that the compiler reads. -/
namespace Kin
open PySem PySem.Spec PyProof.Rows L2
section
variable {G : Gl} {W : WX} {X : Cx} {P : CProg} {F : Fns} {pos : Pos} {C : Ctx} {k : Nat}
def isLst : Expr → Bool
  | .List _ _ => true
  | _ => false
theorem stores_none {tg e : Expr} {env : Env} (h : isTup tg = false ∨ isTup e = false) (h2 : isLst tg = false) : swappedStores [tg] e env = pure none := by
  cases tg <;> first
    | rfl
    | (exact (Bool.false_ne_true h2.symm).elim)
    | (rcases h with h | h
       · exact (Bool.false_ne_true h.symm).elim
       · cases e <;> first | rfl | (exact (Bool.false_ne_true h.symm).elim))
theorem set_all2 {i j : Nat} {L : Kin.Loc} {ds : List Kin.D} {L' : Kin.Loc} (h : setAll [i, j] ds L = some L') : ∃ d e, ds = [d, e] ∧ L' = (L.set i (some d)).set j (some e) := by
  match ds, h with
  | [], h => simp [setAll] at h
  | [d], h => simp [setAll] at h
  | [d, e], h => simp only [setAll, Option.some.injEq] at h; exact ⟨d, e, rfl, h.symm⟩
  | _ :: _ :: _ :: _, h => simp [setAll] at h
theorem set_all3 {i j l : Nat} {L : Kin.Loc} {ds : List Kin.D} {L' : Kin.Loc} (h : setAll [i, j, l] ds L = some L') : ∃ d e f, ds = [d, e, f] ∧ L' = ((L.set i (some d)).set j (some e)).set l (some f) := by
  match ds, h with
  | [], h => simp [setAll] at h
  | [d], h => simp [setAll] at h
  | [d, e], h => simp [setAll] at h
  | [d, e, f], h => simp only [setAll, Option.some.injEq] at h; exact ⟨d, e, f, rfl, h.symm⟩
  | _ :: _ :: _ :: _ :: _, h => simp [setAll] at h
theorem blockKind_ok (so : ScOk C X) : X.env.blockKind = .function := by
  unfold Env.blockKind
  rw [so.kind]
  rfl
theorem dedup2 {x y : Str} (h : x ≠ y) : [x, y].eraseDups = [x, y] := by
  have : (x == y) = false := by simpa using h
  have h2 : (y == x) = false := by simpa using h.symm
  simp [List.eraseDups, List.eraseDupsBy, List.eraseDupsBy.loop, this, h2]
theorem dedup3 {x y z : Str} (h : x ≠ y) (h2 : x ≠ z) (h3 : y ≠ z) : [x, y, z].eraseDups = [x, y, z] := by
  have a : (x == y) = false := by simpa using h
  have a' : (y == x) = false := by simpa using h.symm
  have b : (x == z) = false := by simpa using h2
  have b' : (z == x) = false := by simpa using h2.symm
  have c : (y == z) = false := by simpa using h3
  have c' : (z == y) = false := by simpa using h3.symm
  simp [List.eraseDups, List.eraseDupsBy, List.eraseDupsBy.loop, a, a', b, b', c, c']
theorem no_star {es : List Expr} {f : Expr → Bool} (hs : es.any isStar = false) (h : es.any f = true) (hf : ∀ e, f e = true → isStar e = true := by intro e h; cases e <;> first | rfl | cases h) : False := by
  obtain ⟨e, he, q⟩ := List.any_eq_true.mp h
  have := List.any_eq_true.mpr ⟨e, he, hf e q⟩
  rw [hs] at this
  cases this
theorem stores2 {x y : Str} {px py pt pt2 : Pos} {kt k2 : Nat} {a b : Expr} (so : ScOk C X) (hx : C.sc.names.lookup x = some .local) (hy : C.sc.names.lookup y = some .local) (hxy : x ≠ y) (hl : (py.line == px.line) = true)
    (hs : [a, b].any isStar = false) (hf : [a, b].all (foldedForSure 8) = false) (hc : [a, b].all (constantsAlone 8) = false) :
    swappedStores [.Tuple [.Name x px, .Name y py] kt pt] (.Tuple [a, b] k2 pt2) X.env = pure (some [x, y]) := by
  have e1 : X.env.kindOf x = some .local := by unfold Env.kindOf; rw [so.sc]; exact hx
  have e2 : X.env.kindOf y = some .local := by unfold Env.kindOf; rw [so.sc]; exact hy
  unfold swappedStores
  simp only [List.length_cons, List.length_nil, blockKind_ok so, hf, hc, List.filterMap_cons, List.filterMap_nil, List.head?_cons, Option.map_some, Option.getD_some, Expr.pos, e1, e2, hl, beq_self_eq_true, Bool.and_self, if_true, dedup2 hxy]
  rw [if_neg (by decide), if_neg (fun hh => no_star hs hh), if_neg (by decide), if_neg (by decide), if_neg (by decide)]
theorem stores3 {x y z : Str} {px py pz pt pt2 : Pos} {kt k2 : Nat} {a b c : Expr} (so : ScOk C X) (hx : C.sc.names.lookup x = some .local) (hy : C.sc.names.lookup y = some .local) (hz : C.sc.names.lookup z = some .local) (hxy : x ≠ y) (hxz : x ≠ z) (hyz : y ≠ z)
    (hl : (py.line == px.line) = true) (hl2 : (pz.line == px.line) = true)
    (hs : [a, b, c].any isStar = false) (hf : [a, b, c].all (foldedForSure 8) = false) (hc : [a, b, c].all (constantsAlone 8) = false) :
    swappedStores [.Tuple [.Name x px, .Name y py, .Name z pz] kt pt] (.Tuple [a, b, c] k2 pt2) X.env = pure (some [x, y, z]) := by
  have e1 : X.env.kindOf x = some .local := by unfold Env.kindOf; rw [so.sc]; exact hx
  have e2 : X.env.kindOf y = some .local := by unfold Env.kindOf; rw [so.sc]; exact hy
  have e3 : X.env.kindOf z = some .local := by unfold Env.kindOf; rw [so.sc]; exact hz
  unfold swappedStores
  simp only [List.length_cons, List.length_nil, blockKind_ok so, hf, hc, List.filterMap_cons, List.filterMap_nil, List.head?_cons, Option.map_some, Option.getD_some, Expr.pos, e1, e2, e3, hl, hl2, beq_self_eq_true, Bool.and_self, if_true, dedup3 hxy hxz hyz]
  rw [if_neg (by decide), if_neg (fun hh => no_star hs hh), if_neg (by decide), if_neg (by decide), if_neg (by decide)]
end
end Kin
end
section
set_option linter.all false
set_option maxRecDepth 100000
/-! Kin 22: a, b = x, y; every statement. -/
namespace Kin
open PySem PySem.Spec PyProof.Rows L2
section
variable {G : Gl} {P : CProg} {F : Fns} {k : Nat}
theorem tslot_inj {C : Ctx} {x y : Str} {i j : Nat} (hx : C.tslot x = some i) (hy : C.tslot y = some j) (h : i ≠ j) : x ≠ y := by
  intro e
  subst e
  rw [hx] at hy
  cases hy
  exact h rfl
theorem par_cons {C : Ctx} {line : Nat} {e : Expr} {r : List Expr} {is : List Nat} (h : parNames C line (e :: r) = some is) :
    ∃ x pos i is', e = .Name x pos ∧ (pos.line == line) = true ∧ C.sc.names.lookup x = some .local ∧ C.tslot x = some i ∧ parNames C line r = some is' ∧ is = i :: is' := by
  cases e with
  | Name x pos =>
    simp only [parNames] at h
    split at h
    · rename_i hc
      rw [Bool.and_eq_true] at hc
      cases ex : C.tslot x with
      | none => rw [ex] at h; cases h
      | some i =>
        rw [ex] at h
        cases er : parNames C line r with
        | none => rw [er] at h; cases h
        | some is' =>
          rw [er] at h
          cases h
          exact ⟨x, pos, i, is', rfl, hc.1, of_decide_eq_true hc.2, ex, rfl, rfl⟩
    · cases h
  | _ => simp [parNames] at h
theorem parF_ok {X : Cx} {C : Ctx} {W : WX} {f : CEF} {ts vs : List Expr} {kt k2 : Nat} {pt pt2 pos : Pos} (t : Top G F C k X) (so : ScOk C X) (hf : ∀ e, RE G P F X W e (f C e)) :
    RS G P F X W (.Assign [.Tuple ts kt pt] (.Tuple vs k2 pt2) pos) (parF f C ts vs) := by
  unfold parF
  split
  · rename_i hc
    simp only [Bool.and_eq_true, Bool.not_eq_true'] at hc
    obtain ⟨⟨⟨⟨h1, h2⟩, h3⟩, h4⟩, h5⟩ := hc
    split
    · rename_i is hp
      split
      · rename_i nd
        have nd := of_decide_eq_true nd
        cases ts with
        | nil => simp at h1
        | cons t1 ts =>
        obtain ⟨x, px, i, is1, e1, _, hxl, ex, hp1, e2⟩ := par_cons hp
        subst e1 e2
        clear hp
        simp only [List.head?_cons, Option.map_some, Option.getD_some, Expr.pos] at hp1
        cases ts with
        | nil => simp at h1
        | cons t2 ts =>
        obtain ⟨y, py, j, is2, e1, ly, hyl, ey, hp2, e2⟩ := par_cons hp1
        subst e1 e2
        clear hp1
        cases ts with
        | nil =>
          simp only [parNames, Option.some.injEq] at hp2
          subst hp2
          match vs, h2, h3, h4, h5 with
          | [a, b], h2, h3, h4, h5 =>
            have hij : i ≠ j := by simpa using nd
            obtain ⟨_, hi, _⟩ := so.tgt x i ex
            obtain ⟨_, hj, _⟩ := so.tgt y j ey
            refine (ps_par t.calm so.nd hi hj hij (by rw [so.sc]; exact hxl) (by rw [so.sc]; exact hyl) (pa_list hf [a, b] h3) (stores2 so hxl hyl (tslot_inj ex ey hij) ly h3 h4 h5) rfl).imp fun D σ H ⟨ρ, A, L, s, l, o⟩ => ?_
            simp only [evS] at o
            refine ⟨ρ, A, L, s, l, (OutS.ofE (R := RVs) l o).imp fun us H1 ⟨ρ1, A1, ds, x1, s1, r1, o1⟩ => ?_⟩
            cases q : setAll [i, j] ds L with
            | none => rw [q] at o1; exact (show False from o1).elim
            | some L' =>
              rw [q] at o1
              obtain ⟨d, e, rfl, rfl⟩ := set_all2 q
              obtain ⟨v, u, rfl, rv, ru⟩ := rvs2 r1
              exact ⟨v, u, rfl, OutS.nx o1 s1 (rl_set (rl_set (l.mono x1) rv) ru)⟩
          | [], h2, _, _, _ => simp at h2
          | [_], h2, _, _, _ => simp at h2
          | _ :: _ :: _ :: _, h2, _, _, _ => simp at h2
        | cons t3 ts =>
        obtain ⟨z, pz, m, is3, e1, lz, hzl, ez, hp3, e2⟩ := par_cons hp2
        subst e1 e2
        clear hp2
        cases ts with
        | nil =>
          simp only [parNames, Option.some.injEq] at hp3
          subst hp3
          match vs, h2, h3, h4, h5 with
          | [a, b, c], h2, h3, h4, h5 =>
            have hij : i ≠ j ∧ i ≠ m ∧ j ≠ m := by
              simp only [List.nodup_cons, List.mem_cons, List.not_mem_nil, not_or, or_false] at nd
              exact ⟨nd.1.1, nd.1.2, nd.2.1⟩
            obtain ⟨h12, h13, h23⟩ := hij
            obtain ⟨_, hi, _⟩ := so.tgt x i ex
            obtain ⟨_, hj, _⟩ := so.tgt y j ey
            obtain ⟨_, hm, _⟩ := so.tgt z m ez
            refine (ps_par3 t.calm so.nd hi hj hm h12 h13 h23 (by rw [so.sc]; exact hxl) (by rw [so.sc]; exact hyl) (by rw [so.sc]; exact hzl) (pa_list hf [a, b, c] h3)
              (stores3 so hxl hyl hzl (tslot_inj ex ey h12) (tslot_inj ex ez h13) (tslot_inj ey ez h23) ly lz h3 h4 h5) rfl).imp fun D σ H ⟨ρ, A, L, s, l, o⟩ => ?_
            simp only [evS] at o
            refine ⟨ρ, A, L, s, l, (OutS.ofE (R := RVs) l o).imp fun us H1 ⟨ρ1, A1, ds, x1, s1, r1, o1⟩ => ?_⟩
            cases q : setAll [i, j, m] ds L with
            | none => rw [q] at o1; exact (show False from o1).elim
            | some L' =>
              rw [q] at o1
              obtain ⟨d, e, g, rfl, rfl⟩ := set_all3 q
              simp only [RVs] at r1
              obtain ⟨v1, _, rfl, rv1, v2, _, rfl, rv2, v3, _, rfl, rv3, rfl⟩ := r1
              exact ⟨v1, v2, v3, rfl, OutS.nx o1 s1 (rl_set (rl_set (rl_set (l.mono x1) rv1) rv2) rv3)⟩
          | [], h2, _, _, _ => simp at h2
          | [_], h2, _, _, _ => simp at h2
          | [_, _], h2, _, _, _ => simp at h2
          | _ :: _ :: _ :: _ :: _, h2, _, _, _ => simp at h2
        | cons t4 ts => simp at h1
      · exact rs_bad
    · exact rs_bad
  · exact rs_bad
/-- name = [.. for ..] -/
def swB (X : Cx) (x : Str) (q p : Pos) (scope : Scope) : Bool := X.env.blockKind == .function && X.env.kindOf x == some .local && q.line == p.line && !(scope.names.any fun (n, k) => n == x && (k == .local || k == .cell))
theorem sw_eq {X : Cx} {x : Str} {q p : Pos} {scope : Scope} {elt : Expr} {gs : List Comprehension} {l : Nat} : swapsWith (.ListComp elt gs scope p) (some (.Name x q)) l X.env = pure (swB X x q p scope) := rfl
theorem rs_lc {X : Cx} {C : Ctx} {W : WX} {x : Str} {q p pos : Pos} {elt : Expr} {gs : List Comprehension} {scope : Scope} {i : Nat} (t : Top G F C k X) (so : ScOk C X) (tk : Takes X W) (ex : C.tslot x = some i) (n : Nat) :
    RS G P F X W (.Assign [.Name x q] (.ListComp elt gs scope p) pos) (.asg (.slot i) (compE n C (.ListComp elt gs scope p))) := by
  have hE := (exp_ok (P := P) n t so tk (.ListComp elt gs scope p)).1
  have bad : ∀ {c : CE}, c = .bad → RS G P F X W (.Assign [.Name x q] (.ListComp elt gs scope p) pos) (.asg (.slot i) c) := by
    intro c hc
    subst hc
    refine ⟨fun pins s σ H D I h => ?_⟩
    obtain ⟨ρ, A, L, _, _, o⟩ := h
    simp only [evS, evE, SRes.ofE, OutS] at o
  cases hb : swB X x q p scope with
  | false => exact rs_asg (rg_slot so ex) hE (by rw [sw_eq, hb]) (stores_none (.inl rfl) rfl) rfl
  | true =>
    have hsw : swapsWith (.ListComp elt gs scope p) (some (.Name x q)) pos.line X.env = pure true := by rw [sw_eq, hb]
    have hl : X.env.scope.names.lookup x = some .local := by
      unfold swB at hb
      simp only [Bool.and_eq_true] at hb
      have := hb.1.1.2
      unfold Env.kindOf at this
      exact eq_of_beq this
    obtain ⟨_, hi, _⟩ := so.tgt x i ex
    cases n with
    | zero => exact bad rfl
    | succ n =>
      match gs with
      | [] => exact bad (by unfold compE; split <;> first | rfl | (simp_all))
      | g1 :: g2 :: gs => exact bad (by unfold compE; split <;> first | rfl | (simp_all))
      | [⟨tg, it, ifs, as⟩] =>
        by_cases h0 : as = 0
        case neg => exact bad (by unfold compE; split <;> first | rfl | (simp_all))
        subst h0
        by_cases hB : blkB scope C = true
        case neg => exact bad (by simp only [compE]; rw [if_neg hB])
        by_cases hbad : iterF (compE n) C (isTup tg) it = .bad
        · have ec : compE (n + 1) C (.ListComp elt [⟨tg, it, ifs, 0⟩] scope p) = .comp (compE n (relC scope C) elt) (tgtF (compE n) 6 (relC scope C) tg) .bad (ifs.map (compE n (relC scope C))) ((ownOf scope C).map (·.2)) := by
            simp only [compE]
            rw [if_pos hB, hbad]
          rw [ec]
          refine ⟨fun pins s σ H D I h => ?_⟩
          obtain ⟨ρ, A, L, _, _, o⟩ := h
          simp only [evS, evE, evI, Res.bind, SRes.ofE, OutS] at o
        · have ec : compE (n + 1) C (.ListComp elt [⟨tg, it, ifs, 0⟩] scope p) = .comp (compE n (relC scope C) elt) (tgtF (compE n) 6 (relC scope C) tg) (iterF (compE n) C (isTup tg) it) (ifs.map (compE n (relC scope C))) ((ownOf scope C).map (·.2)) := by
            simp only [compE]
            rw [if_pos hB]
          rw [ec]
          have IH := fun e => (exp_ok (P := P) n t so tk e).1
          have hw := slots_in (f := compE n) (scope := scope) (C := C) (so.n ▸ so.nd) 6 tg
          refine (ps_setLc t.calm so.nd hi hl hsw (iter_ok t so IH tg it) (by rw [so.n, so.sc]; exact blk_ok hB) (fun s H C' cl fp => tgt_ok t.blk (so.blk hB) (fun e => (exp_ok (P := P) n t.blk (so.blk hB) takes_wf e).1) 6 tg)
            (fun s H C' cl fp => rif_of (fun e => (exp_ok (P := P) n t.blk (so.blk hB) takes_wf e).2) ifs) (fun s H C' cl fp => (exp_ok (P := P) n t.blk (so.blk hB) takes_wf elt).1) (folded_ok (W := W) tg it X.env hbad)).imp fun D σ H qq => ?_
          exact asg_imp (fun h => comp_lc hw h) (fun {v σ H Q} ⟨ρ, A, L, d, s, l, r, o⟩ => by
            simp only [asT] at o
            exact OutR.ok o s ⟨rl_set l r, fun vs hv => by rw [wipe_set, if_pos (hv i (by simp [slotsT]))]⟩) qq
/-- every statement -/
theorem stm_ok {X : Cx} {C : Ctx} {W : WX} (t : Top G F C k X) (so : ScOk C X) (tk : Takes X W) (hp : PassesOwn (model X.prog X.w) X.A X.env X.xe) : ∀ (n : Nat) (st : Stmt), RS G P F X W st (compS n C st)
  | 0, st => rs_bad
  | n + 1, st => by
    have hE := fun e => (exp_ok (P := P) n t so tk e).1
    have hT := fun e => (exp_ok (P := P) n t so tk e).2
    have hS := rss_list (stm_ok t so tk hp n)
    cases st with
    | Expr e p =>
      simp only [compS]
      split
      · exact rs_bad
      · rename_i h
        exact rs_ex (by simpa using h) (hE e)
    | Assign ts e p =>
      match ts with
      | [tg] =>
        simp only [compS]
        split
        · exact parF_ok t so hE
        · exact rs_bad
        · exact rs_bad
        · split
          · rename_i i ex
            exact rs_lc t so tk ex n
          · exact rs_bad
        · rename_i h1 h2 h3 h4
          have hst : isStar tg = false := by cases tg <;> first | rfl | (exfalso; first | (apply h1 <;> rfl) | (apply h2 <;> rfl) | (apply h3 <;> rfl) | (apply h4 <;> rfl))
          have hls : isLst tg = false := by cases tg <;> first | rfl | (exfalso; first | (apply h1 <;> rfl) | (apply h2 <;> rfl) | (apply h3 <;> rfl) | (apply h4 <;> rfl))
          have htp : isTup tg = false ∨ isTup e = false := by
            cases tg <;> first | exact .inl rfl | (cases e <;> first | exact .inr rfl | (exfalso; first | (apply h1 <;> rfl) | (apply h2 <;> rfl) | (apply h3 <;> rfl) | (apply h4 <;> rfl)))
          by_cases hc : isComp e = true
          · have bad : compE n C e = .bad → RS G P F X W (.Assign [tg] e p) (.asg (tgtF (compE n) 6 C tg) (compE n C e)) := fun h => by
              rw [h]
              refine ⟨fun pins s σ H D I h => ?_⟩
              obtain ⟨ρ, A, L, _, _, o⟩ := h
              simp only [evS, evE, SRes.ofE, OutS] at o
            cases e with
            | ListComp elt gs scope q =>
              refine rs_asg (tgt_ok t so hE 6 tg) (hE _) ?_ (stores_none htp hls) hst
              cases tg <;> first | rfl | (exfalso; first | (apply h1 <;> rfl) | (apply h2 <;> rfl) | (apply h3 <;> rfl) | (apply h4 <;> rfl))
            | SetComp _ _ _ _ => exact bad (by cases n <;> rfl)
            | DictComp _ _ _ _ _ => exact bad (by cases n <;> rfl)
            | _ => exact (Bool.false_ne_true hc).elim
          · exact rs_asg (tgt_ok t so hE 6 tg) (hE e) (swaps_plain (by simpa using hc)) (stores_none htp hls) hst
      | [] => exact rs_bad
      | _ :: _ :: _ => exact rs_bad
    | Return v p =>
      cases v with
      | none => exact rs_retN
      | some e => exact rs_ret (hE e)
    | If c a b p => exact rs_cond (hT c) (hS a) (hS b)
    | For tg it b els p =>
      cases els with
      | cons _ _ => exact rs_bad
      | nil =>
        simp only [compS]
        by_cases hbad : iterF (compE n) C (isTup tg) it = .bad
        · rw [hbad]
          refine ⟨fun pins s σ H D I h => ?_⟩
          obtain ⟨ρ, A, L, _, _, o⟩ := h
          simp only [evS, evI, SRes.ofE, OutS] at o
        · exact rs_loop t hp (iter_ok t so hE tg it) (tgt_ok t so hE 6 tg) (hS b) (folded_ok (W := W) tg it X.env hbad)
    | While c b els p =>
      cases els with
      | cons _ _ => exact rs_bad
      | nil => exact rs_while hp (hT c) (hS b)
    | Break p => exact ps_break.imp fun D σ H ⟨ρ, A, L, s, l, o⟩ => by simp only [compS, evS] at o; exact o ρ H σ .refl s l
    | Continue p => exact ps_continue.imp fun D σ H ⟨ρ, A, L, s, l, o⟩ => by simp only [compS, evS] at o; exact o ρ H σ .refl s l
    | Pass p => exact ps_pass.imp fun D σ H ⟨ρ, A, L, s, l, o⟩ => by simp only [compS, evS] at o; exact o ρ H σ .refl s l
    | _ => exact rs_bad
end
end Kin
end
section
set_option linter.all false
set_option maxRecDepth 100000
/-! Kin 23: a call's arguments are bound in order. -/
namespace Kin
open PySem PySem.Spec PyProof.Rows L2
theorem lookup_zip {α : Type} : ∀ {ps : List Str} {us : List α}, ps.Nodup → us.length = ps.length → ∀ (acc : List (Str × α)), (∀ p ∈ ps, acc.lookup p = none) → ps.filterMap (fun n => ((acc ++ ps.zip us).lookup n).map fun v => (n, v)) = ps.zip us
  | [], [], _, _, _, _ => rfl
  | p :: ps, u :: us, nd, hl, acc, ha => by
    have e1 : (acc ++ (p :: ps).zip (u :: us)).lookup p = some u := by
      rw [List.lookup_append, ha p List.mem_cons_self]
      simp [List.zip_cons_cons, List.lookup_cons]
    rw [List.filterMap_cons, e1]
    simp only [Option.map_some, List.zip_cons_cons]
    congr 1
    have e2 : acc ++ (p, u) :: ps.zip us = (acc ++ [(p, u)]) ++ ps.zip us := by simp
    rw [e2]
    refine lookup_zip (List.nodup_cons.mp nd).2 (by simpa using hl) (acc ++ [(p, u)]) fun q hq => ?_
    rw [List.lookup_append, ha q (List.mem_cons_of_mem _ hq)]
    have : q ≠ p := fun e => (List.nodup_cons.mp nd).1 (e ▸ hq)
    have e3 : (q == p) = false := by simpa using this
    simp only [List.lookup_cons, e3, List.lookup_nil, Option.or_none]
theorem zip_some {α : Type} : ∀ {ps : List Str} {us : List α}, us.length = ps.length → ∀ p ∈ ps, ((ps.zip us).lookup p).isNone = false
  | [], [], _, p, h => nomatch h
  | q :: ps, u :: us, hl, p, h => by
    rw [List.zip_cons_cons, List.lookup_cons]
    cases e : p == q with
    | true => rfl
    | false =>
      rcases List.mem_cons.mp h with rfl | h
      · simp at e
      · exact zip_some (by simpa using hl) p h
theorem bind_plain {fd : FuncData} {us : List Value} (h1 : fd.params.posonlyargs = []) (h2 : fd.params.kwonlyargs = []) (h3 : fd.params.vararg = none) (h4 : fd.params.kwarg = none) (hd : fd.defaults = .none)
    (nd : (fd.params.args.map (·.arg)).Nodup) (hl : us.length = (fd.params.args.map (·.arg)).length) : bindArgs fd ⟨us, []⟩ = pure ((fd.params.args.map (·.arg)).zip us) := by
  obtain ⟨n1, n2, ⟨po, as, va, ko, kd, kw, df⟩, n4, n5, n6, n7, n8, n9, n10, n11, n12, n13, n14, n15⟩ := fd
  dsimp only at h1 h2 h3 h4 hd nd hl ⊢
  subst h1 h2 h3 h4 hd
  have e0 : seqItems? (.none : Value) = pure none := rfl
  have e1 := lookup_zip nd hl [] (fun _ _ => rfl)
  simp only [List.nil_append] at e1
  have e2 : ((as.map (·.arg)).filter fun n => (((as.map (·.arg)).zip us).lookup n).isNone) = [] := by
    rw [List.filter_eq_nil_iff]
    intro p hp
    rw [zip_some hl p hp]
    simp
  have e3 : decide (us.length > (as.map (·.arg)).length) = false := by rw [hl]; simp
  unfold bindArgs
  dsimp only
  simp only [List.map_nil, List.nil_append, List.append_nil, List.forIn_nil, pure_bind, e0, Option.getD_none, List.drop_nil, List.length_nil, Nat.sub_zero, List.zip_nil_right, e3, Option.isNone_none, Bool.and_true, List.take_length, e2, e1, List.isEmpty_nil]
  rfl
end Kin
end
section
set_option linter.all false
set_option maxRecDepth 100000
/-! Kin 24: every def of the module, by levels. -/
namespace Kin
open PySem PySem.Spec PyProof.Rows L2
structure Arr (a : Arguments) (sc : Scope) (b : List Stmt) : Prop where
  po : a.posonlyargs = []
  ko : a.kwonlyargs = []
  va : a.vararg = none
  kw : a.kwarg = none
  sc : FnScope (namesOf a sc b) (paramsOf a) sc
theorem arrB_ok {a : Arguments} {sc : Scope} {b : List Stmt} (h : arrB a sc b = true) : Arr a sc b := by
  unfold arrB at h
  simp only [Bool.and_eq_true, Bool.not_eq_true', decide_eq_true_eq, List.isEmpty_iff, Option.isNone_iff_eq_none, List.all_eq_true] at h
  obtain ⟨⟨⟨⟨⟨⟨⟨⟨⟨⟨⟨h1, h2⟩, h3⟩, h4⟩, h5⟩, h6⟩, h7⟩, h8⟩, h9⟩, h10⟩, h11⟩, h12⟩ := h
  exact ⟨h1, h2, h3, h4, ⟨h6, h7, h8, h9, h10, h11, h12⟩⟩
/-- what the head tells of the module -/
structure Facts (T : Tab) (K : PySem.W.Frag) (mg : Str → Option Value) : Prop where
  good : ∀ it ∈ T.items, arrB it.args it.sc it.body = true
  fun_ : ∀ it ∈ T.items, mg it.name = some (.ref (He.ga K it.name)) ∧ ∃ fd, FunD K it.name it.name it.args it.body it.sc [] [] (He.ga K it.name) fd
  cons : ∀ x d, T.cons.lookup x = some d → ∃ v u, mg x = some u ∧ RelV v u ∧ ∀ ρ H, RV ρ H d v
  blt : ∀ x, allBlts.contains x = true → mg x = none
theorem lookup_zipIdx {x : Str} {i : Nat} : ∀ {l : List Str} {k : Nat}, (l.zipIdx k).lookup x = some i → k ≤ i ∧ l[i - k]? = some x
  | [], k, h => nomatch h
  | y :: l, k, h => by
    rw [List.zipIdx_cons, List.lookup_cons] at h
    cases e : x == y with
    | true =>
      rw [e] at h
      cases h
      refine ⟨Nat.le_refl _, ?_⟩
      rw [Nat.sub_self]
      simp only [List.getElem?_cons_zero]
      rw [eq_of_beq e]
    | false =>
      rw [e] at h
      obtain ⟨h1, h2⟩ := lookup_zipIdx (l := l) h
      refine ⟨by omega, ?_⟩
      rw [show i - k = (i - (k + 1)) + 1 by omega, List.getElem?_cons_succ]
      exact h2
theorem RVs.len {ρ : List Addr} {H : Hp} : ∀ {ds : List D} {vs : List V}, RVs ρ H ds vs → ds.length = vs.length
  | [], vs, h => by
    simp only [RVs] at h
    rw [h] <;> rfl
  | d :: ds, vs, h => by
    simp only [RVs] at h
    obtain ⟨v, us, rfl, _, r⟩ := h
    rw [List.length_cons, List.length_cons, RVs.len r]
theorem ret_ok {G : Gl} {E : XK} {ρ : List Addr} {H : Hp} {Q : VK} : ∀ {r : SRes}, OutR G RV (fun cls d _ H => E cls d H) [] ρ H Q r.ret → OutS G (fun cls d _ H => E cls d H) ρ H { nx := fun _ H' => Q .non H', rt := Q } r
  | .nx L A, h => fun ρ' H' σ' x s l => h ρ' H' .non x s (by simp only [RV])
  | .rt d A, h => h
  | .bk L A, h => (show False from h).elim
  | .ct L A, h => (show False from h).elim
  | .exc y L A, h => fun ρ' H' σ' c d x s l r => h ρ' H' c d x s r
  | .bad, h => h
/-- the names at the entry -/
theorem RL.start {ρ : List Addr} {H : Hp} {ds : List D} {vs : List V} {N : List Str} (r : RVs ρ H ds vs) : RL ρ H (ds.map some ++ List.replicate (N.length - ds.length) none) (L2.start N vs) := by
  have el := r.len
  refine ⟨by simp [L2.start, el], fun i d h => ?_⟩
  have hi : i < ds.length := by
    by_cases hi : i < ds.length
    · exact hi
    · rw [List.getElem?_append_right (by simpa using hi), List.getElem?_replicate] at h
      split at h <;> cases h
  rw [List.getElem?_append_left (by simpa using hi), List.getElem?_map] at h
  have hd : ds[i]? = some d := by
    cases e : ds[i]? with
    | none => rw [e] at h; cases h
    | some y => rw [e] at h; cases h; rfl
  obtain ⟨v, hv, rv⟩ := r.get hd
  refine ⟨v, ?_, rv⟩
  unfold L2.start
  rw [List.getElem?_append_left (by simpa using el ▸ hi), List.getElem?_map, hv]
  rfl
section
variable {T : Tab} {K : PySem.W.Frag} {mg : Str → Option Value} {base : Heap} {P : Program} {w : World} {G : Gl}
theorem fns_ok (f : Facts T K mg) : ∀ (j i : Nat) (it : Item), T.items[i]? = some it → ∀ fd, FunD K it.name it.name it.args it.body it.sc [] [] (He.ga K it.name) fd →
    FnOk P w K mg base (L2.CX P w) j (He.ga K it.name) fd (paramsOf it.args) (spOf G (fns T.prog j) i)
  | 0, i, it, hi, fd, F => ⟨fun vs H Q E ⟨ρ, A, ds, s, r, o⟩ => (show False from o).elim, fun A outer s H args us vs Q E hr e0 hb hv ⟨ρ, A', ds, _, r, o⟩ => (show False from o).elim⟩
  | j + 1, i, it, hi, fd, F => by
    have ar := arrB_ok (f.good it (List.mem_of_getElem? hi))
    have hdef : T.prog.defs[i]? = some (T.def_ it) := by
      show (T.items.map T.def_)[i]? = _
      rw [List.getElem?_map, hi]
      rfl
    refine F.ok ar.sc (fun vs H Q E ⟨ρ, A, ds, s, r, o⟩ => ?_) (fun cdv A outer s H vs Q E hr ⟨ρ, A0, ds, si, r, o⟩ => ?_)
    · simp only [fns, hdef] at o
      split at o
      · rename_i e
        rw [← r.len]
        exact e
      · exact (show False from o).elim
    · simp only [fns, hdef] at o
      split at o
      case isFalse => exact (show False from o).elim
      rename_i el
      let X : Cx := cxOf (L2.CX P w) P w K mg base (namesOf it.args it.sc it.body) it.name it.sc (He.ga K it.name) cdv A outer s H E
      have so : ScOk (T.ctx it) X := ScOk.mk' ar.sc.nd ar.sc.kind rfl rfl fun x _ _ => .inl rfl
      have top : Top G (fns T.prog j) (T.ctx it) j X := by
        refine ⟨rfl, hr, f.cons, f.blt, fun x k hk => ?_⟩
        have hk : ((T.items.map (·.name)).zipIdx).lookup x = some k := hk
        have h2 := (lookup_zipIdx hk).2
        rw [Nat.sub_zero, List.getElem?_map] at h2
        cases e : T.items[k]? with
        | none => rw [e] at h2; cases h2
        | some it' =>
          rw [e] at h2
          cases h2
          obtain ⟨hm, fd', F'⟩ := f.fun_ it' (List.mem_of_getElem? e)
          have ar' := arrB_ok (f.good it' (List.mem_of_getElem? e))
          have nd' : (paramsOf it'.args).Nodup := by
            rw [← ar'.sc.pre]
            exact ar'.sc.nd.sublist (List.take_sublist _ _)
          exact ⟨He.ga K it'.name, fd', paramsOf it'.args, hm, F'.kp, F'.bindsN fun kV doc pm an cdv ct us hl => bind_plain ar'.po ar'.ko ar'.va ar'.kw rfl nd' hl, fns_ok f j k it' e fd' F'⟩
      have tk : Takes X (fun cls d _ H => E cls d H) := takes_of rfl rfl rfl rfl
      have hp : PassesOwn (model X.prog X.w) X.A X.env X.xe := passes_of rfl
      refine ⟨tS G (fun cls d _ H => E cls d H) (evSs T.prog (fns T.prog j) (T.def_ it).body), rss_list (P := T.prog) (stm_ok top so tk hp 60) it.body, ρ, A0, _, si, RL.start r, ?_⟩
      have e2 : (T.def_ it).n - (T.def_ it).nps = (namesOf it.args it.sc it.body).length - ds.length := by
        rw [el]
        rfl
      rw [e2] at o
      exact ret_ok o
end
end Kin
end
section
set_option linter.all false
set_option maxRecDepth 100000
/-! Kin 25: the head, and a law by the evaluator. -/
namespace Kin
open PySem PySem.Spec PyProof.Rows L2
def faT (T : Tab) : List He.Fa :=
  T.items.map (fun it => He.Fa.glo it.name) ++ (allBlts.map He.Fa.free ++ T.cons.flatMap fun p => match p.2 with
    | .int i => [He.Fa.int p.1 i]
    | .str z => [He.Fa.str p.1 z]
    | _ => [])
def fnT (T : Tab) : List He.DefD := T.items.map fun it => ⟨(it.name, none), it.name, it.name, it.args, it.body, it.sc, [], []⟩
/-- lists are not looked at -/
def noL (g : Addr → Option Obj) (a : Addr) : Option Obj := match g a with
  | some o => (match o.cls with
    | .type c => if c = "list" then none else some o
    | _ => some o)
  | none => none
def NoL (K : PySem.W.Frag) : Prop := ∀ a o, K.lookup a = some o → o.cls ≠ .type "list"
theorem noL_at {g : Addr → Option Obj} {a : Addr} {o : Obj} (h : noL g a = some o) : g a = some o ∧ o.cls ≠ .type "list" := by
  unfold noL at h
  cases e : g a with
  | none => rw [e] at h; cases h
  | some u =>
    rw [e] at h
    dsimp only at h
    split at h
    · rename_i c hc
      split at h
      · cases h
      · rename_i n
        cases h
        exact ⟨rfl, fun z => n (by rw [hc] at z; injection z)⟩
    · rename_i n
      cases h
      exact ⟨rfl, fun z => n "list" z⟩
def obK (n : Nat) (fa : List He.Fa) (fn : List He.DefD) (g : Addr → Option Obj) : He.AlD := He.obsDG n fa fn (noL g)
def hookK (n : Nat) (fa : List He.Fa) (fn : List He.DefD) : PySem.W.Hook where
  α := He.AlD
  obs := fun s => obK n fa fn s.heap.get?
  val := fun _ => He.valD fn
  says := fun _ h => ∃ K : PySem.W.Frag, K.In h ∧ He.SaysD fa fn K ∧ NoL K
  of := fun _ _ e => ⟨_, fun _ _ q => (noL_at (He.frG_at _ q)).1, e, fun _ _ q => (noL_at (He.frG_at _ q)).2⟩
  keeps := fun _ _ _ ⟨K, hK, c, n⟩ k => ⟨K, PySem.W.Frag.In.keeps hK k, c, n⟩
theorem obK_eq {n : Nat} {fa : List He.Fa} {fn : List He.DefD} {g : Addr → Option Obj} {s : Shared} (h : ∀ a, g a = s.heap.get? a) : obK n fa fn g = (hookK n fa fn).obs s := by
  rw [show g = s.heap.get? from funext h] <;> rfl
theorem cons_num {top : List Stmt} {x : Str} {d : D} (h : (x, d) ∈ (tabOf top).cons) : (∃ i, d = .int i) ∨ ∃ z, d = .str z := by
  obtain ⟨st, _, hm⟩ := List.mem_flatMap.mp (show (x, d) ∈ top.flatMap consOf from h)
  unfold consOf at hm
  split at hm
  · split at hm
    · cases hm
    · obtain ⟨y, hy, e⟩ := List.mem_map.mp hm
      cases e
      rename_i c _ _ _ _ _
      cases c with
      | int i => simp only [numD, Option.toList_some, List.mem_singleton] at hy; exact .inl ⟨_, hy⟩
      | str z => simp only [numD, Option.toList_some, List.mem_singleton] at hy; exact .inr ⟨_, hy⟩
      | _ => simp [numD] at hy
  · cases hm
theorem lookup_in {α β : Type} [BEq α] [LawfulBEq α] {x : α} {y : β} : ∀ {l : List (α × β)}, l.lookup x = some y → (x, y) ∈ l
  | [], h => nomatch h
  | (a, b) :: l, h => by
    rw [List.lookup_cons] at h
    cases e : x == a with
    | true =>
      rw [e] at h
      cases h
      rw [eq_of_beq e]
      exact List.mem_cons_self
    | false =>
      rw [e] at h
      exact List.mem_cons_of_mem _ (lookup_in h)
theorem says_fa {fa : List He.Fa} {fn : List He.DefD} {K : PySem.W.Frag} (c : He.SaysD fa fn K) {f : He.Fa} (h : f ∈ fa) : f.ok K = true := by
  obtain ⟨i, hi⟩ := List.mem_iff_getElem?.mp h
  exact c.fact i hi
theorem facts_of {top : List Stmt} {K : PySem.W.Frag} {mg : Str → Option Value} {h : Heap} (X : K.In h) (g : h.Ns mainGlobals mg) (c : He.SaysD (faT (tabOf top)) (fnT (tabOf top)) K) : Facts (tabOf top) K mg := by
  refine ⟨fun it hit => ?_, fun it hit => ⟨?_, ?_⟩, fun x d hx => ?_, fun x hx => ?_⟩
  · obtain ⟨st, _, e⟩ := List.mem_filterMap.mp (show it ∈ top.filterMap itemOf from hit)
    unfold itemOf at e
    split at e
    · split at e
      · rename_i ok
        cases e
        exact ok
      · cases e
    · cases e
  · exact He.glo_ok X g (says_fa c (List.mem_append_left _ (List.mem_map_of_mem hit)))
  · obtain ⟨i, hi⟩ := List.mem_iff_getElem?.mp hit
    have hf : (fnT (tabOf top))[i]? = some ⟨(it.name, none), it.name, it.name, it.args, it.body, it.sc, [], []⟩ := by
      unfold fnT
      rw [List.getElem?_map, hi]
      rfl
    exact c.def_ i hf
  · have hm := lookup_in hx
    have up : ∀ f : He.Fa, f ∈ (match d with
      | .int i => [He.Fa.int x i]
      | .str z => [He.Fa.str x z]
      | _ => []) → f.ok K = true := fun f hf => says_fa c (List.mem_append_right _ (List.mem_append_right _ (List.mem_flatMap.mpr ⟨(x, d), hm, hf⟩)))
    rcases cons_num hm with ⟨i, rfl⟩ | ⟨z, rfl⟩
    · obtain ⟨t, ht⟩ := He.int_ok X g (up _ List.mem_cons_self)
      exact ⟨.int i, _, ht, ⟨t, rfl⟩, fun ρ H => by simp only [RV]⟩
    · obtain ⟨t, ht⟩ := He.str_ok X g (up _ List.mem_cons_self)
      exact ⟨.str z, _, ht, ⟨t, rfl⟩, fun ρ H => by simp only [RV]⟩
  · exact He.free_ok X g (says_fa c (List.mem_append_right _ (List.mem_append_left _ (List.mem_map_of_mem (List.contains_iff_mem.mp hx)))))
theorem sim_one {H : Hp} {a : Addr} {o : Obj} {ns : List Int} (h : H a = some (.frz o (.lst (ns.map V.int)))) : Sim [a] [.frz (ns.map D.int)] H := by
  refine ⟨rfl, by simp, fun n b u e1 e2 => ?_⟩
  cases n with
  | succ n => cases e1
  | zero =>
    cases e1
    cases e2
    refine ⟨o, _, h, ?_⟩
    clear h
    induction ns with
    | nil => simp [RVs]
    | cons n ns ih =>
      simp only [List.map_cons, RVs, RV]
      exact ⟨_, _, rfl, rfl, ih⟩
theorem kin_walk {l : PySem.W.OpenLaw} {q : Program} {loose : List Str} {d : PySem.DefRec} {it : Item} {li : Nat} {top : List Stmt} (hn : l.most = some 63) (hdf : d.params.defaults = []) (hdn : d.name = it.name)
    (hit : (tabOf top).items[li]? = some it) (hps : paramsOf it.args = [("script" : Str)])
    (go : ∀ ns : List Int, ns.length ≤ 63 → isTrue ((fns (tabOf top).prog 60).call li [.ref 0] [.frz (ns.map D.int)]) = true) :
    PySem.W.WalkO q loose (PySem.W.XL q []) (hookK 4 (faT (tabOf top)) (fnT (tabOf top))).says l.row.toRowW d [] (fun f vs => PySem.call f vs) := by
  refine Att.attach_call hn hdf fun w s₀ s₁ mg mb fa o pm cd doc a vs ns gr Y ho hd hcd hmg hobj hints hlen hg => ?_
  obtain ⟨K, KX, c, nl⟩ := Y
  have F := facts_of KX gr.T.g c
  obtain ⟨hm, fd, fD⟩ := F.fun_ it (List.mem_of_getElem? hit)
  have ar := arrB_ok (F.good it (List.mem_of_getElem? hit))
  rw [hdn, hm] at hmg
  cases hmg
  have nd : (paramsOf it.args).Nodup := by rw [hps]; simp
  have ok := fun base => fns_ok (P := l.prog) (w := w) (base := base) (G := ⟨fun _ => 0, fun _ => ""⟩) F 60 li it hit fd fD
  rw [hps] at ok
  refine law_call (k := 60) (x := "script") (CX := L2.CX l.prog w) KX gr.T.g gr.T.b gr.T.builtins gr.T.nolimit hg hobj hints (Nat.le_trans hlen (by decide)) ⟨rfl, by decide, by decide⟩ (fun base _ _ => ok base)
    (fun s u => ?_) (fun H hO hS => ?_) (fun H e s' ⟨_, _, _, _, _, _, _, _, _, _, _, _, z⟩ => z)
  · have b := fD.bindsA (ps := paramsOf it.args) (fun kV doc pm an cdv ct us hl => bind_plain ar.po ar.ko ar.va ar.kw rfl nd hl) s [u] (by rw [hps]; rfl)
    rw [hps] at b
    exact b
  · have hf : ∃ o, H a = some (.frz o (.lst (ns.map V.int))) := by
      rcases hS with (h | h) | ⟨o, its, n, h1, h2, _⟩
      · rcases hO a with z | ⟨o, xs, z⟩
        · rw [z] at h; cases h
        · rw [z] at h; cases h
      · exact h
      · exact (nl _ _ h1 h2).elim
    obtain ⟨ob, hf⟩ := hf
    have g := go ns hlen
    cases e : (fns (tabOf top).prog 60).call li [.ref 0] [.frz (ns.map D.int)] with
    | exc y A => rw [e] at g; cases g
    | bad => rw [e] at g; cases g
    | ok dd A =>
      rw [e] at g
      refine ⟨[a], _, [.ref 0], sim_one hf, ?_, ?_⟩
      · simp [RVs, RV]
      · rw [e]
        intro ρ' H' v _ _ r
        cases dd with
        | bl b =>
          have : b = true := g
          subst this
          simpa only [RV] using r
        | _ => cases g
end Kin
end
section
set_option linter.all false
/-! Kin 30: what holds behind a run: of expressions and statements, by their parts. -/
namespace Kin
open PySem

def Wp {α : Type} (r : Res α) (Q : α → AH → Prop) (E : Ex → AH → Prop) : Prop :=
  match r with
  | .ok a A => Q a A
  | .exc x A => E x A
  | .bad => False
structure SQ where
  nx : Loc → AH → Prop
  rt : D → AH → Prop
  bk : Loc → AH → Prop
  ct : Loc → AH → Prop
  ex : Ex → AH → Prop
def WpS (r : SRes) (Q : SQ) : Prop :=
  match r with
  | .nx L A => Q.nx L A
  | .rt d A => Q.rt d A
  | .bk L A => Q.bk L A
  | .ct L A => Q.ct L A
  | .exc x _ A => Q.ex x A
  | .bad => False
section
variable {α β : Type} {P : CProg} {F : Fns} {L : Loc} {A : AH} {E : Ex → AH → Prop}
theorem Wp.mono {r : Res α} {Q Q' : α → AH → Prop} {E' : Ex → AH → Prop} (h : Wp r Q E) (q : ∀ a A, Q a A → Q' a A) (e : ∀ a A, E a A → E' a A) : Wp r Q' E' := by
  cases r with
  | ok a A => exact q _ _ h
  | exc x A => exact e _ _ h
  | bad => exact h
theorem Wp.ok {r : Res α} {Q : α → AH → Prop} (h : Wp r Q fun _ _ => False) : ∃ a A, r = .ok a A ∧ Q a A := by
  cases r with
  | ok a A => exact ⟨a, A, rfl, h⟩
  | exc x A => exact h.elim
  | bad => exact h.elim
theorem WpS.mono {r : SRes} {Q Q' : SQ} (h : WpS r Q) (h1 : ∀ L A, Q.nx L A → Q'.nx L A) (h2 : ∀ L A, Q.rt L A → Q'.rt L A) (h3 : ∀ L A, Q.bk L A → Q'.bk L A) (h4 : ∀ L A, Q.ct L A → Q'.ct L A) (h5 : ∀ L A, Q.ex L A → Q'.ex L A) : WpS r Q' := by
  cases r with
  | nx L A => exact h1 _ _ h
  | rt L A => exact h2 _ _ h
  | bk L A => exact h3 _ _ h
  | ct L A => exact h4 _ _ h
  | exc x L A => exact h5 _ _ h
  | bad => exact h.elim
@[simp] theorem wp_ok {a : α} {Q : α → AH → Prop} : Wp (.ok a A) Q E ↔ Q a A := Iff.rfl
@[simp] theorem wp_exc {x : Ex} {Q : α → AH → Prop} : Wp (.exc x A) Q E ↔ E x A := Iff.rfl
@[simp] theorem wp_bad {Q : α → AH → Prop} : Wp .bad Q E ↔ False := Iff.rfl
@[simp] theorem wp_bind {r : Res α} {f : α → AH → Res β} {Q : β → AH → Prop} : Wp (r.bind f) Q E ↔ Wp r (fun a A => Wp (f a A) Q E) E := by
  cases r <;> exact Iff.rfl
@[simp] theorem wp_of1 {a : α} {Q : α → AH → Prop} : Wp (Res.of1 A (some a)) Q E ↔ Q a A := Iff.rfl
@[simp] theorem wp_of1n {Q : α → AH → Prop} : Wp (Res.of1 A none) Q E ↔ False := Iff.rfl
@[simp] theorem wp_of {a : α} {Q : α → AH → Prop} : Wp (Res.of (some (a, A))) Q E ↔ Q a A := Iff.rfl
@[simp] theorem wp_ofn {Q : α → AH → Prop} : Wp (Res.of none) Q E ↔ False := Iff.rfl
@[simp] theorem wp_calm {r : Res α} {Q : α → AH → Prop} : Wp r.calm Q E ↔ Wp r Q fun _ _ => False := by
  cases r <;> exact Iff.rfl
@[simp] theorem wp_onB {b : Bool} {t f : Res α} {Q : α → AH → Prop} : Wp (onB (some b) t f) Q E ↔ if b then Wp t Q E else Wp f Q E := by
  cases b <;> exact Iff.rfl
@[simp] theorem wp_onBn {t f : Res α} {Q : α → AH → Prop} : Wp (onB none t f) Q E ↔ False := Iff.rfl
@[simp] theorem wp_ite {c : Prop} [Decidable c] {t f : Res α} {Q : α → AH → Prop} : Wp (if c then t else f) Q E ↔ if c then Wp t Q E else Wp f Q E := by
  split <;> exact Iff.rfl
/-! expressions -/
section
variable {Q : D → AH → Prop}
theorem wp_slot {i : Nat} : Wp (evE P F (.slot i) L A) Q E ↔ Wp (Res.of1 A (getL L i)) Q E := by simp only [evE]
theorem wp_cst {d : D} : Wp (evE P F (.cst d) L A) Q E ↔ Q d A := by simp only [evE, wp_ok]
theorem wp_tup {es : List CE} : Wp (evE P F (.tup es) L A) Q E ↔ Wp (evEs P F es L A) (fun ds A => if ds.length ≤ lim then Q (.tup ds) A else False) E := by simp only [evE, wp_bind, wp_ite, wp_ok, wp_bad]
theorem wp_lst {es : List CE} : Wp (evE P F (.lst es) L A) Q E ↔ Wp (evEs P F es L A) (fun ds A => if ds.length ≤ lim then Q (.ref A.length) (A ++ [.lst ds]) else False) E := by simp only [evE, wp_bind, wp_ite, wp_bad]; rfl
theorem wp_bin {op : BOp} {a b : CE} : Wp (evE P F (.bin op a b) L A) Q E ↔ Wp (evE P F a L A) (fun x A => Wp (evE P F b L A) (fun y A => Wp (Res.of (binD op x y A)) Q E) E) E := by simp only [evE, wp_bind]
theorem wp_neg {a : CE} : Wp (evE P F (.neg a) L A) Q E ↔ Wp (evE P F a L A) (fun x A => Wp (Res.of1 A (negD x)) Q E) E := by simp only [evE, wp_bind]
theorem wp_cmp {op : COp} {a b : CE} : Wp (evE P F (.cmp op a b) L A) Q E ↔ Wp (evE P F a L A) (fun x A => Wp (evE P F b L A) (fun y A => Wp (Res.of1 A (cmpD op x y A)) (fun z A => Q (.bl z) A) E) E) E := by
  have h : ∀ (o : Option Bool) (A : AH), Wp (Res.of1 A (o.map D.bl)) Q E ↔ Wp (Res.of1 A o) (fun z A => Q (.bl z) A) E := fun o A => by cases o <;> exact Iff.rfl
  simp only [evE, wp_bind, h]
theorem wp_chain {op op' : COp} {a b c : CE} : Wp (evE P F (.chain op op' a b c) L A) Q E ↔ Wp (evE P F a L A) (fun x A => Wp (evE P F b L A) (fun y A => Wp (Res.of1 A (cmpD op x y A)) (fun z A => if z then Wp (evE P F c L A) (fun z A => Wp (Res.of1 A (cmpD op' y z A)) (fun z A => Q (.bl z) A) E) E else Q (.bl false) A) E) E) E := by
  have h : ∀ (o : Option Bool) (A : AH), Wp (Res.of1 A (o.map D.bl)) Q E ↔ Wp (Res.of1 A o) (fun z A => Q (.bl z) A) E := fun o A => by cases o <;> exact Iff.rfl
  have g : ∀ (o : Option Bool) (A : AH) (t f : Res D), Wp (onB o t f) Q E ↔ Wp (Res.of1 A o) (fun z _ => if z then Wp t Q E else Wp f Q E) E := fun o A t f => by
    cases o with
    | none => exact Iff.rfl
    | some b => cases b <;> exact Iff.rfl
  simp only [evE, wp_bind]
  constructor
  · intro w
    refine w.mono (fun x A w => w.mono (fun y A w => ?_) fun _ _ e => e) fun _ _ e => e
    rw [g _ A] at w
    simp only [wp_bind, h, wp_ok] at w
    cases e : cmpD op x y A with
    | none => rw [e] at w; exact w
    | some b => rw [e] at w; exact w
  · intro w
    refine w.mono (fun x A w => w.mono (fun y A w => ?_) fun _ _ e => e) fun _ _ e => e
    rw [g _ A]
    simp only [wp_bind, h, wp_ok]
    cases e : cmpD op x y A with
    | none => rw [e] at w; exact w
    | some b => rw [e] at w; exact w
theorem wp_truth {o : Option Bool} {t f : Res α} {Q : α → AH → Prop} (A : AH) : Wp (onB o t f) Q E ↔ Wp (Res.of1 A o) (fun z _ => if z then Wp t Q E else Wp f Q E) E := by
  cases o with
  | none => exact Iff.rfl
  | some b => cases b <;> exact Iff.rfl
theorem wp_and {a b : CE} : Wp (evE P F (.and a b) L A) Q E ↔ Wp (evE P F a L A) (fun x A => Wp (onB (truthD x A) (evE P F b L A) (.ok x A)) Q E) E := by simp only [evE, wp_bind]
theorem wp_or {a b : CE} : Wp (evE P F (.or a b) L A) Q E ↔ Wp (evE P F a L A) (fun x A => Wp (onB (truthD x A) (.ok x A) (evE P F b L A)) Q E) E := by simp only [evE, wp_bind]
theorem wp_not {a : CE} : Wp (evE P F (.not a) L A) Q E ↔ Wp (evE P F a L A) (fun x A => Wp (Res.of1 A (truthD x A)) (fun b A => Q (.bl !b) A) E) E := by
  have h : ∀ (o : Option Bool) (A : AH), Wp (Res.of1 A (o.map fun b => D.bl (!b))) Q E ↔ Wp (Res.of1 A o) (fun z A => Q (.bl !z) A) E := fun o A => by cases o <;> exact Iff.rfl
  simp only [evE, wp_bind, h]
theorem wp_ifx {c a b : CE} : Wp (evE P F (.ite c a b) L A) Q E ↔ Wp (evE P F c L A) (fun x A => Wp (onB (truthD x A) (evE P F a L A) (evE P F b L A)) Q E) E := by simp only [evE, wp_bind]
theorem wp_idx {a i : CE} : Wp (evE P F (.idx a i) L A) Q E ↔ Wp (evE P F a L A) (fun x A => Wp (evE P F i L A) (fun y A => Wp (Res.of1 A (idxD x y A)) Q E) E) E := by simp only [evE, wp_bind]
theorem wp_slc {a : CE} {lo hi : Option CE} : Wp (evE P F (.slc a lo hi) L A) Q E ↔ Wp (evE P F a L A) (fun x A => Wp (evO P F lo L A) (fun l A => Wp (evO P F hi L A) (fun h A => Wp (Res.of (slcD x l h A)) Q E) E) E) E := by simp only [evE, wp_bind]
theorem wp_rev {a : CE} : Wp (evE P F (.rev a) L A) Q E ↔ Wp (evE P F a L A) (fun x A => Wp (Res.of (revD x A)) Q E) E := by simp only [evE, wp_bind]
theorem wp_call {f : Nat} {es : List CE} : Wp (evE P F (.call f es) L A) Q E ↔ Wp (evEs P F es L A) (fun ds A => Wp (F.call f ds A) Q E) E := by simp only [evE, wp_bind]
theorem wp_meth {m : Bm} {a : CE} {es : List CE} : Wp (evE P F (.meth m a es) L A) Q E ↔ Wp (evE P F a L A) (fun x A => if isList x A then Wp (evEs P F es L A) (fun ds A => Wp (Res.of (methB m x ds A)) Q E) E else False) E := by simp only [evE, wp_bind, wp_ite, wp_bad]
theorem wp_blt {b : Blt} {es : List CE} : Wp (evE P F (.blt b es) L A) Q E ↔ Wp (evEs P F es L A) (fun ds A => Wp (Res.of (callB b ds A)) Q E) E := by simp only [evE, wp_bind]
theorem wp_listR {es : List CE} : Wp (evE P F (.listR es) L A) Q E ↔ Wp (evEs P F es L A) (fun ds A => Wp (Res.of1 A (rngLst ds)) (fun l A => Q (.ref A.length) (A ++ [.lst l])) E) E := by
  have h : ∀ (o : Option (List D)) (A : AH), Wp (Res.of (o.map fun l => new A (.lst l))) Q E ↔ Wp (Res.of1 A o) (fun l A => Q (.ref A.length) (A ++ [.lst l])) E := fun o A => by cases o <;> exact Iff.rfl
  simp only [evE, wp_bind, h]
theorem wp_isi {a : CE} {cs : List Ty} : Wp (evE P F (.isi a cs) L A) Q E ↔ Wp (evE P F a L A) (fun x A => Q (.bl (cs.any fun c => (tyD x A).contains c)) A) E := by simp only [evE, wp_bind, wp_ok]
theorem wp_comp {elt : CE} {t : CT} {it : CI} {ifs : List CE} {own : List Nat} : Wp (evE P F (.comp elt t it ifs own) L A) Q E ↔ Wp (evI P F it L A) (fun w A =>
    Wp (overW w (fun d acc A => ((asT P F t d (wipe L own) A).bind fun L A => (evIfs P F ifs L A).bind fun b A =>
      if b then (evE P F elt L A).bind fun v A => if acc.length < lim then .ok (acc ++ [v]) A else .bad else .ok acc A).calm) fuel 0 [] A) (fun ds A => Q (.ref A.length) (A ++ [.lst ds])) E) E := by
  simp only [evE, wp_bind]; rfl
theorem wp_dct {kvs : List (CE × CE)} : Wp (evE P F (.dct kvs) L A) Q E ↔ Wp (evKVs P F kvs L A) (fun ps A => if ps.length ≤ 15 then Q (.ref A.length) (A ++ [.dct (ps.foldl (fun acc p => kPut acc p.1 p.2) [])]) else False) E := by simp only [evE, wp_bind, wp_ite, wp_bad]; rfl
end
theorem wp_nil {Q : List D → AH → Prop} : Wp (evEs P F [] L A) Q E ↔ Q [] A := by simp only [evEs, wp_ok]
theorem wp_cons {e : CE} {es : List CE} {Q : List D → AH → Prop} : Wp (evEs P F (e :: es) L A) Q E ↔ Wp (evE P F e L A) (fun d A => Wp (evEs P F es L A) (fun ds A => Q (d :: ds) A) E) E := by simp only [evEs, wp_bind, wp_ok]
theorem wp_knil {Q : List (L2.Key × D) → AH → Prop} : Wp (evKVs P F [] L A) Q E ↔ Q [] A := by simp only [evKVs, wp_ok]
theorem wp_kcons {k v : CE} {es : List (CE × CE)} {Q : List (L2.Key × D) → AH → Prop} : Wp (evKVs P F ((k, v) :: es) L A) Q E ↔ Wp (evE P F k L A) (fun d A => Wp (evE P F v L A) (fun w A => Wp (Res.of1 A (keyD d)) (fun d A => Wp (evKVs P F es L A) (fun ds A => Q ((d, w) :: ds) A) E) E) E) E := by simp only [evKVs, wp_bind, wp_ok]
theorem wp_onone {Q : Option Int → AH → Prop} : Wp (evO P F none L A) Q E ↔ Q none A := by simp only [evO, wp_ok]
theorem wp_osome {e : CE} {Q : Option Int → AH → Prop} : Wp (evO P F (some e) L A) Q E ↔ Wp (evE P F e L A) (fun d A => Wp (Res.of1 A (intOf d)) (fun i A => Q (some i) A) E) E := by
  have h : ∀ (o : Option Int) (A : AH), Wp (Res.of1 A (o.map some)) Q E ↔ Wp (Res.of1 A o) (fun z A => Q (some z) A) E := fun o A => by cases o <;> exact Iff.rfl
  simp only [evO, wp_bind, h]
theorem wp_iseq {e : CE} {Q : Wk → AH → Prop} : Wp (evI P F (.seq e) L A) Q E ↔ Wp (evE P F e L A) (fun d A => Wp (Res.of1 A (seqWk d A)) Q E) E := by simp only [evI, wp_bind]
theorem wp_irng {es : List CE} {Q : Wk → AH → Prop} : Wp (evI P F (.rng es) L A) Q E ↔ Wp (evEs P F es L A) (fun d A => Wp (Res.of1 A (rngWk d)) Q E) E := by simp only [evI, wp_bind]
theorem wp_ienum {e : CE} {Q : Wk → AH → Prop} : Wp (evI P F (.enum e) L A) Q E ↔ Wp (evE P F e L A) (fun d A => Wp (Res.of1 A ((seqWk d A).map wkEnum)) Q E) E := by simp only [evI, wp_bind]
theorem wp_izip {a b : CE} {Q : Wk → AH → Prop} : Wp (evI P F (.zip a b) L A) Q E ↔ Wp (evE P F a L A) (fun x A => Wp (evE P F b L A) (fun y A => Wp (Res.of1 A (zipWk x y)) Q E) E) E := by simp only [evI, wp_bind]
theorem wp_tslot {i : Nat} {d : D} {Q : Loc → AH → Prop} : Wp (asT P F (.slot i) d L A) Q E ↔ Q (L.set i (some d)) A := by simp only [asT, wp_ok]
theorem wp_ttup {ts : List CT} {d : D} {Q : Loc → AH → Prop} : Wp (asT P F (.tup ts) d L A) Q E ↔ Wp (Res.of1 A (tupOf d)) (fun ds A => if ds.length = ts.length then Wp (asTs P F ts ds L A) Q E else False) E := by simp only [asT, wp_bind, wp_ite, wp_bad]
theorem wp_titem {a i : CE} {d : D} {Q : Loc → AH → Prop} : Wp (asT P F (.item a i) d L A) Q E ↔ Wp (evE P F a L A) (fun x A => Wp (evE P F i L A) (fun y A => Wp (Res.of1 A (setIdx x y d A)) (fun A _ => Q L A) E) E) E := by
  have h : ∀ (o : Option AH) (A : AH), Wp (Res.of (o.map fun A => (L, A))) Q E ↔ Wp (Res.of1 A o) (fun A _ => Q L A) E := fun o A => by cases o <;> exact Iff.rfl
  simp only [asT, wp_bind]
  constructor
  · intro w
    exact w.mono (fun x A w => w.mono (fun y A w => (h _ A).mp w) fun _ _ e => e) fun _ _ e => e
  · intro w
    exact w.mono (fun x A w => w.mono (fun y A w => (h _ A).mpr w) fun _ _ e => e) fun _ _ e => e
theorem wp_tnil {Q : Loc → AH → Prop} : Wp (asTs P F [] [] L A) Q E ↔ Q L A := by simp only [asTs, wp_ok]
theorem wp_tcons {t : CT} {ts : List CT} {d : D} {ds : List D} {Q : Loc → AH → Prop} : Wp (asTs P F (t :: ts) (d :: ds) L A) Q E ↔ Wp (asT P F t d L A) (fun L A => Wp (asTs P F ts ds L A) Q fun _ _ => False) E := by simp only [asTs, wp_bind, wp_calm]
theorem wp_fnil {Q : Bool → AH → Prop} : Wp (evIfs P F [] L A) Q E ↔ Q true A := by simp only [evIfs, wp_ok]
theorem wp_fone {c : CE} {Q : Bool → AH → Prop} : Wp (evIfs P F [c] L A) Q E ↔ Wp (evE P F c L A) (fun x A => Wp (Res.of1 A (truthD x A)) Q E) E := by simp only [evIfs, wp_bind]
/-! statements -/
section
variable {Q : SQ}
theorem wp_ofE {r : Res α} {f : α → AH → SRes} : WpS (SRes.ofE L r f) Q ↔ Wp r (fun a A => WpS (f a A) Q) Q.ex := by
  cases r <;> exact Iff.rfl
theorem wps_nil : WpS (evSs P F [] L A) Q ↔ Q.nx L A := by simp only [evSs, WpS]
theorem wps_cons {s : CS} {ss : List CS} : WpS (evSs P F (s :: ss) L A) Q ↔ WpS (evS P F s L A) ⟨fun L A => WpS (evSs P F ss L A) Q, Q.rt, Q.bk, Q.ct, Q.ex⟩ := by
  simp only [evSs]
  cases evS P F s L A <;> exact Iff.rfl
theorem wps_ex {e : CE} : WpS (evS P F (.ex e) L A) Q ↔ Wp (evE P F e L A) (fun _ A => Q.nx L A) Q.ex := by
  simp only [evS, wp_ofE]
  exact Iff.rfl
theorem wps_asg {t : CT} {e : CE} : WpS (evS P F (.asg t e) L A) Q ↔ Wp (evE P F e L A) (fun d A => Wp (asT P F t d L A) (fun L A => Q.nx L A) Q.ex) Q.ex := by
  simp only [evS, wp_ofE]
  exact Iff.rfl
theorem wps_par {is : List Nat} {es : List CE} : WpS (evS P F (.par is es) L A) Q ↔ Wp (evEs P F es L A) (fun ds A => Wp (Res.of1 A (setAll is ds L)) (fun L A => Q.nx L A) Q.ex) Q.ex := by
  simp only [evS, wp_ofE]
  have h : ∀ (o : Option Loc) (A : AH), WpS (SRes.ofL A o) Q ↔ Wp (Res.of1 A o) (fun L A => Q.nx L A) Q.ex := fun o A => by cases o <;> exact Iff.rfl
  simp only [h]
theorem wps_ret {e : CE} : WpS (evS P F (.ret e) L A) Q ↔ Wp (evE P F e L A) (fun d A => Q.rt d A) Q.ex := by
  simp only [evS, wp_ofE]
  exact Iff.rfl
theorem wps_cond {c : CE} {a b : List CS} : WpS (evS P F (.cond c a b) L A) Q ↔ Wp (evE P F c L A) (fun x A => Wp (Res.of1 A (truthD x A)) (fun x A => if x then WpS (evSs P F a L A) Q else WpS (evSs P F b L A) Q) Q.ex) Q.ex := by
  have h : ∀ (c : Prop) [Decidable c] (a b : SRes), WpS (if c then a else b) Q ↔ if c then WpS a Q else WpS b Q := fun c _ a b => by split <;> exact Iff.rfl
  simp only [evS, wp_ofE, evT, wp_bind, h]
theorem wps_loop {t : CT} {it : CI} {b : List CS} : WpS (evS P F (.loop t it b) L A) Q ↔ Wp (evI P F it L A) (fun w A => WpS (turnsW w (fun d L A => SRes.ofE L (asT P F t d L A) fun L A => evSs P F b L A) fuel 0 L A) Q) Q.ex := by
  simp only [evS, wp_ofE]
theorem wps_brk : WpS (evS P F .brk L A) Q ↔ Q.bk L A := by simp only [evS, WpS]
theorem wps_cont : WpS (evS P F .cont L A) Q ↔ Q.ct L A := by simp only [evS, WpS]
theorem wps_pass : WpS (evS P F .pass L A) Q ↔ Q.nx L A := by simp only [evS, WpS]
theorem wp_ret {r : SRes} {Q : D → AH → Prop} : Wp r.ret Q E ↔ WpS r ⟨fun _ A => Q .non A, Q, fun _ _ => False, fun _ _ => False, E⟩ := by
  cases r <;> exact Iff.rfl
end
/-- a def by its number -/
def Def (P : CProg) (f nps n : Nat) (body : List CS) : Prop := ∃ nm, P.defs[f]? = some ⟨nm, nps, n, body⟩
theorem wp_def {f nps n : Nat} {body : List CS} (h : Def P f nps n body) {k : Nat} {ds : List D} (e : ds.length = nps) {Q : D → AH → Prop} :
    Wp ((fns P (k + 1)).call f ds A) Q E ↔ WpS (evSs P (fns P k) body (ds.map some ++ List.replicate (n - nps) none) A) ⟨fun _ A => Q .non A, Q, fun _ _ => False, fun _ _ => False, E⟩ := by
  obtain ⟨nm, h⟩ := h
  simp only [fns, h, e, if_true, wp_ret]
/-! loops -/
theorem turns_items {ds : List D} {f : D → Loc → AH → SRes} {Q : SQ} (I : Nat → Loc → AH → Prop)
    (step : ∀ i d L A, ds[i]? = some d → I i L A → WpS (f d L A) ⟨I (i + 1), Q.rt, Q.nx, I (i + 1), Q.ex⟩) (fin : ∀ L A, I ds.length L A → Q.nx L A) :
    ∀ (k i : Nat) (L : Loc) (A : AH), ds.length < k + i → i ≤ ds.length → I i L A → WpS (turnsW (wkItems ds) f k i L A) Q
  | 0, i, L, A, hk, hi, _ => by omega
  | k + 1, i, L, A, hk, hi, h => by
    simp only [turnsW, wkItems]
    cases e : ds[i]? with
    | none =>
      have : ds.length ≤ i := by simpa using e
      have : i = ds.length := by omega
      subst this
      exact fin _ _ h
    | some d =>
      have hl : i < ds.length := by
        by_cases hl : i < ds.length
        · exact hl
        · rw [List.getElem?_eq_none (by omega)] at e; cases e
      have s := step i d L A e h
      simp only
      revert s
      cases f d L A with
      | nx L A => exact fun s => turns_items I step fin k (i + 1) L A (by omega) hl s
      | ct L A => exact fun s => turns_items I step fin k (i + 1) L A (by omega) hl s
      | bk L A => exact fun s => s
      | rt L A => exact fun s => s
      | exc x L A => exact fun s => s
      | bad => exact fun s => s
theorem loop_items {ds : List D} {f : D → Loc → AH → SRes} {Q : SQ} (I : Nat → Loc → AH → Prop) (hl : ds.length < fuel) (h0 : I 0 L A)
    (step : ∀ i d L A, ds[i]? = some d → I i L A → WpS (f d L A) ⟨I (i + 1), Q.rt, Q.nx, I (i + 1), Q.ex⟩) (fin : ∀ L A, I ds.length L A → Q.nx L A) : WpS (turnsW (wkItems ds) f fuel 0 L A) Q :=
  turns_items I step fin fuel 0 L A hl (Nat.zero_le _) h0
theorem over_items {ds : List D} {f : D → α → AH → Res α} {Q : α → AH → Prop} (I : Nat → α → AH → Prop)
    (step : ∀ i d a A, ds[i]? = some d → I i a A → Wp (f d a A) (I (i + 1)) E) (fin : ∀ a A, I ds.length a A → Q a A) :
    ∀ (k i : Nat) (a : α) (A : AH), ds.length < k + i → i ≤ ds.length → I i a A → Wp (overW (wkItems ds) f k i a A) Q E
  | 0, i, L, A, hk, hi, _ => by omega
  | k + 1, i, a, A, hk, hi, h => by
    simp only [overW, wkItems]
    cases e : ds[i]? with
    | none =>
      have : ds.length ≤ i := by simpa using e
      have : i = ds.length := by omega
      subst this
      exact fin _ _ h
    | some d =>
      have hl : i < ds.length := by
        by_cases hl : i < ds.length
        · exact hl
        · rw [List.getElem?_eq_none (by omega)] at e; cases e
      simp only [wp_bind]
      exact (step i d a A e h).mono (fun a A s => over_items I step fin k (i + 1) a A (by omega) hl s) fun _ _ e => e
theorem comp_items {ds : List D} {f : D → α → AH → Res α} {Q : α → AH → Prop} {a : α} (I : Nat → α → AH → Prop) (hl : ds.length < fuel) (h0 : I 0 a A)
    (step : ∀ i d a A, ds[i]? = some d → I i a A → Wp (f d a A) (I (i + 1)) E) (fin : ∀ a A, I ds.length a A → Q a A) : Wp (overW (wkItems ds) f fuel 0 a A) Q E :=
  over_items I step fin fuel 0 a A hl (Nat.zero_le _) h0
end
end Kin
end
section
set_option linter.all false
set_option maxRecDepth 100000
/-! Kin 31: how data are read where they are known; the pot of a law, what is drawn of it. -/
namespace Kin
open PySem
section
variable {A : AH} {L : Loc}
theorem getL_0 {d : D} : getL (some d :: L) 0 = some d := rfl
theorem getL_s {i : Nat} {o : Option D} : getL (o :: L) (i + 1) = getL L i := rfl
theorem bin_add {i j : Int} : binD .add (.int i) (.int j) A = some (.int (i + j), A) := rfl
theorem bin_sub {i j : Int} : binD .sub (.int i) (.int j) A = some (.int (i - j), A) := rfl
theorem bin_mul {i j : Int} : binD .mul (.int i) (.int j) A = if (-(2 ^ 64) < i ∧ i < 2 ^ 64) ∨ (-(2 ^ 64) < j ∧ j < 2 ^ 64) then some (.int (i * j), A) else none := rfl
theorem bin_fdiv {i j : Int} : binD .fdiv (.int i) (.int j) A = if 0 < j ∧ j < 1073741824 then some (.int (i / j), A) else none := rfl
theorem bin_mod {i j : Int} : binD .mod (.int i) (.int j) A = if 0 < j then some (.int (i % j), A) else none := rfl
theorem bin_tup {x y : List D} : binD .add (.tup x) (.tup y) A = if x.length + y.length ≤ lim then some (.tup (x ++ y), A) else none := rfl
theorem bin_str {x y : Str} : binD .add (.str x) (.str y) A = if x.length + y.length ≤ lim then some (.str (x ++ y), A) else none := rfl

theorem cmp_lt {i j : Int} : cmpD .lt (.int i) (.int j) A = some (decide (i < j)) := rfl
theorem cmp_le {i j : Int} : cmpD .le (.int i) (.int j) A = some (decide (i ≤ j)) := rfl
theorem cmp_gt {i j : Int} : cmpD .gt (.int i) (.int j) A = some (decide (j < i)) := rfl
theorem cmp_ge {i j : Int} : cmpD .ge (.int i) (.int j) A = some (decide (j ≤ i)) := rfl
theorem cmp_eqI {i j : Int} : cmpD .eq (.int i) (.int j) A = some (i == j) := rfl
theorem cmp_eqS {i j : Str} : cmpD .eq (.str i) (.str j) A = some (i == j) := rfl
theorem cmp_neI {i j : Int} : cmpD .ne (.int i) (.int j) A = some (!(i == j)) := rfl
theorem cmp_neS {i j : Str} : cmpD .ne (.str i) (.str j) A = some (!(i == j)) := rfl
theorem cmp_eqB {i j : Bool} : cmpD .eq (.bl i) (.bl j) A = some (i == j) := rfl
theorem truth_bl {b : Bool} : truthD (.bl b) A = some b := rfl
theorem truth_int {i : Int} : truthD (.int i) A = some (i != 0) := rfl
theorem truth_tup {ds : List D} : truthD (.tup ds) A = some (!ds.isEmpty) := rfl
theorem truth_non : truthD .non A = some false := rfl
theorem neg_int {i : Int} : negD (.int i) = some (.int (-i)) := rfl
theorem intOf_int {i : Int} : intOf (.int i) = some i := rfl
theorem tupOf_tup {ds : List D} : tupOf (.tup ds) = some ds := rfl
theorem idx_tup {ds : List D} {k : Int} : idxD (.tup ds) (.int k) A = L2.atI ds k := rfl
/-- an item of what stands there -/
def idxO (k : D) : AO → Option D
  | .lst ds => (match k with
    | .int k => L2.atI ds k
    | _ => none)
  | .frz ds => (match k with
    | .int k => L2.atI ds k
    | _ => none)
  | .dct kvs => (keyD k).bind (kGet kvs)
theorem idx_ref {n : Nat} {k : D} : idxD (.ref n) k A = (A[n]?).bind (idxO k) := by
  simp only [idxD]
  cases A[n]? with
  | none => rfl
  | some o => cases o <;> rfl
theorem idxO_lst {ds : List D} {k : Int} : idxO (.int k) (.lst ds) = L2.atI ds k := rfl
theorem idxO_dct {ds : List (L2.Key × D)} {k : D} : idxO k (.dct ds) = (keyD k).bind (kGet ds) := rfl
def setO (i v : D) : AO → Option AO
  | .lst ds => (match i with
    | .int k => (L2.ixN ds.length k).map fun j => .lst (ds.set j v)
    | _ => none)
  | _ => none
theorem set_ref {n : Nat} {i v : D} : setIdx (.ref n) i v A = ((A[n]?).bind (setO i v)).map fun o => A.set n o := by
  simp only [setIdx]
  cases A[n]? with
  | none => rfl
  | some o =>
    cases o with
    | lst ds =>
      simp only [Option.bind_some, setO]
      cases i <;> first | rfl | (simp only [Option.map_map]; rfl)
    | _ => rfl
theorem setO_lst {ds : List D} {k : Int} {v : D} : setO (.int k) v (.lst ds) = (L2.ixN ds.length k).map fun j => .lst (ds.set j v) := rfl
theorem atI_cons {a : D} {l : List D} {k : Int} : L2.atI (a :: l) k = if 0 ≤ k then (if k < ((a :: l).length : Nat) then (a :: l)[k.toNat]? else none) else if -(((a :: l).length : Nat) : Int) ≤ k then (a :: l)[(k + ((a :: l).length : Nat)).toNat]? else none := by
  simp only [L2.atI, L2.ixN]
  split
  · split <;> rfl
  · split <;> rfl
theorem setO_cons {a : D} {l : List D} {k : Int} {v : D} : setO (.int k) v (.lst (a :: l)) = if 0 ≤ k then (if k < ((a :: l).length : Nat) then some (.lst ((a :: l).set k.toNat v)) else none) else if -(((a :: l).length : Nat) : Int) ≤ k then some (.lst ((a :: l).set (k + ((a :: l).length : Nat)).toNat v)) else none := by
  simp only [setO, L2.ixN]
  split
  · split <;> rfl
  · split <;> rfl
def seqO : AO → Option (List D)
  | .lst ds => some ds
  | .frz ds => some ds
  | _ => none
theorem seqO_lst {ds : List D} : seqO (.lst ds) = some ds := rfl
theorem seqO_frz {ds : List D} : seqO (.frz ds) = some ds := rfl
theorem seq_ref {n : Nat} : seqOf (.ref n) A = (A[n]?).bind seqO := by
  simp only [seqOf]
  cases A[n]? with
  | none => rfl
  | some o => cases o <;> rfl
def lstO : AO → Option (List D)
  | .lst ds => some ds
  | _ => none
theorem lstO_lst {ds : List D} : lstO (.lst ds) = some ds := rfl
theorem lst_ref {n : Nat} : lstOf (.ref n) A = (A[n]?).bind lstO := by
  simp only [lstOf]
  cases A[n]? with
  | none => rfl
  | some o => cases o <;> rfl
theorem isList_ref {n : Nat} : isList (.ref n) A = ((A[n]?).bind lstO).isSome := by simp only [isList, lst_ref]
theorem len_ref {n : Nat} : callB .len [.ref n] A = ((A[n]?).bind seqO).map fun ds => (.int ds.length, A) := by simp only [callB, seq_ref]
theorem list_ref {n : Nat} : callB .list [.ref n] A = ((A[n]?).bind seqO).map fun ds => (.ref A.length, A ++ [.lst ds]) := by simp only [callB, seq_ref]; rfl
theorem tuple_ref {n : Nat} : callB .tuple [.ref n] A = ((A[n]?).bind seqO).map fun ds => (.tup ds, A) := by simp only [callB, seq_ref]
theorem all_ref {n : Nat} : callB .all [.ref n] A = ((A[n]?).bind lstO).bind fun ds => (blsD ds).map fun bs => (.bl (bs.all id), A) := by
  simp only [callB, lst_ref]
  cases (A[n]?).bind lstO <;> rfl
theorem any_ref {n : Nat} : callB .any [.ref n] A = ((A[n]?).bind lstO).bind fun ds => (blsD ds).map fun bs => (.bl (bs.any id), A) := by
  simp only [callB, lst_ref]
  cases (A[n]?).bind lstO <;> rfl
theorem add_ref {m n : Nat} : binD .add (.ref m) (.ref n) A = ((A[m]?).bind lstO).bind fun xs => ((A[n]?).bind lstO).bind fun ys => if xs.length + ys.length ≤ lim then some (.ref A.length, A ++ [.lst (xs ++ ys)]) else none := by
  simp only [binD, lst_ref]
  cases (A[m]?).bind lstO with
  | none => rfl
  | some xs => cases (A[n]?).bind lstO <;> rfl
theorem slc_ref {n : Nat} {lo hi : Option Int} : slcD (.ref n) lo hi A = ((A[n]?).bind seqO).map fun ds => (.ref A.length, A ++ [.lst (cut ds lo hi)]) := by simp only [slcD, seq_ref]; rfl
theorem set_self {n : Nat} {o : AO} (h : n < A.length) : (A.set n o)[n]? = some o := List.getElem?_set_self h
theorem len_tup {ds : List D} : callB .len [.tup ds] A = some (.int ds.length, A) := rfl

theorem list_tup {ds : List D} : callB .list [.tup ds] A = some (.ref A.length, A ++ [.lst ds]) := rfl




theorem int_int {i : Int} : callB .int [.int i] A = some (.int i, A) := rfl
theorem int_bl {i : Bool} : callB .int [.bl i] A = some (.int (if i then 1 else 0), A) := rfl
theorem abs_int {i : Int} : callB .abs [.int i] A = some (.int (if i < 0 then -i else i), A) := rfl
theorem max_int {i j : Int} : callB .max [.int i, .int j] A = some (.int (if j > i then j else i), A) := rfl
theorem min_int {i j : Int} : callB .min [.int i, .int j] A = some (.int (if j < i then j else i), A) := rfl
theorem slc_tup {ds : List D} {lo hi : Option Int} : slcD (.tup ds) lo hi A = some (.tup (cut ds lo hi), A) := rfl
theorem rev_tup {ds : List D} : revD (.tup ds) A = some (.tup ds.reverse, A) := rfl
theorem seqWk_tup {ds : List D} : seqWk (.tup ds) A = some (wkItems ds) := rfl
theorem zipWk_tup {ds es : List D} : zipWk (.tup ds) (.tup es) = some (wkItems ((ds.zip es).map fun p => D.tup [p.1, p.2])) := rfl
theorem wkEnum_items {ds : List D} : wkEnum (wkItems ds) = wkItems (ds.zipIdx.map fun p => D.tup [.int (p.2 : Nat), p.1]) := by
  funext i A
  simp only [wkEnum, wkItems, Option.map_some, List.getElem?_map, List.getElem?_zipIdx, Option.map_map]
  rw [Nat.zero_add]
  rfl
theorem rng_one {j : Int} : rngWk [.int j] = if okR 0 j then some (wkItems (rngItems 0 j)) else none := rfl
theorem rng_two {i j : Int} : rngWk [.int i, .int j] = if okR i j then some (wkItems (rngItems i j)) else none := rfl
theorem okR_of {i j : Int} (h1 : -(2 ^ 62) ≤ i) (h2 : i < 2 ^ 62) (h3 : -(2 ^ 62) ≤ j) (h4 : j < 2 ^ 62) : okR i j = true := by
  simp only [okR, decide_eq_true_eq]
  exact ⟨h1, h2, h3, h4⟩
theorem rngItems_len {i j : Int} : (rngItems i j).length = (j - i).toNat := by simp only [rngItems, List.length_map, List.length_range]
theorem rngItems_at {i j : Int} {n : Nat} {d : D} (h : (rngItems i j)[n]? = some d) : d = .int (i + n) ∧ (n : Int) < j - i := by
  simp only [rngItems, List.getElem?_map, List.getElem?_range] at h
  by_cases c : n < (j - i).toNat
  · rw [List.getElem?_range c] at h
    cases h
    exact ⟨rfl, by omega⟩
  · rw [List.getElem?_eq_none (by simp only [List.length_range]; omega)] at h
    cases h
theorem atI_of {ds : List D} {k : Int} (h0 : 0 ≤ k) (h1 : k < ds.length) : ∃ d, L2.atI ds k = some d ∧ d ∈ ds ∧ ds[k.toNat]? = some d := by
  obtain ⟨j, rfl⟩ := Int.eq_ofNat_of_zero_le h0
  have h : j < ds.length := by omega
  exact ⟨ds[j], L2.atI_nat (List.getElem?_eq_getElem h), List.getElem_mem h, List.getElem?_eq_getElem h⟩
theorem at_new {o : AO} : (A ++ [o])[A.length]? = some o := by rw [List.getElem?_append_right (Nat.le_refl _), Nat.sub_self] <;> rfl
/-- what stands elsewhere stays -/
structure Fr (S : List Nat) (A A' : AH) : Prop where
  le : A.length ≤ A'.length
  at_ : ∀ n, n < A.length → n ∉ S → A'[n]? = A[n]?
theorem Fr.refl (S : List Nat) (A : AH) : Fr S A A := ⟨Nat.le_refl _, fun _ _ _ => rfl⟩
theorem Fr.trans {S : List Nat} {A B C : AH} (h : Fr S A B) (g : Fr S B C) : Fr S A C :=
  ⟨Nat.le_trans h.le g.le, fun n hn hS => (g.at_ n (Nat.lt_of_lt_of_le hn h.le) hS).trans (h.at_ n hn hS)⟩
theorem Fr.new (S : List Nat) (A : AH) (o : AO) : Fr S A (A ++ [o]) :=
  ⟨by simp, fun n hn _ => List.getElem?_append_left hn⟩
theorem Fr.snoc {S : List Nat} {A B : AH} (h : Fr S A B) (o : AO) : Fr S A (B ++ [o]) := h.trans (Fr.new S B o)
theorem lt_of_at {n : Nat} {o : AO} (h : A[n]? = some o) : n < A.length := by
  by_cases c : n < A.length
  · exact c
  · rw [List.getElem?_eq_none (by omega)] at h; cases h
theorem Fr.get {S : List Nat} {A B : AH} {n : Nat} {o : AO} (h : Fr S A B) (e : A[n]? = some o) (hS : n ∉ S) : B[n]? = some o := (h.at_ n (lt_of_at e) hS).trans e
theorem at_snoc {n : Nat} {o o' : AO} (h : A[n]? = some o) : (A ++ [o'])[n]? = some o := (List.getElem?_append_left (lt_of_at h)).trans h
/-- the pot of a law: its cells, how many are read, what is left of a great one, a sum, a count -/
def Pot (p : Nat) (A : AH) : Prop := ∃ (c : Nat) (cells : List Int) (i b s k : Int), A[p]? = some (.lst [.ref c, .int i, .int b, .int s, .int k]) ∧ c ≠ p ∧ A[c]? = some (.lst (cells.map D.int)) ∧ 0 ≤ i ∧ 0 ≤ b ∧ 0 ≤ s ∧ 0 ≤ k ∧ ∀ x ∈ cells, 0 ≤ x
theorem Pot.lt {p : Nat} (h : Pot p A) : p < A.length := by
  obtain ⟨c, cells, i, b, s, k, h, _⟩ := h
  exact lt_of_at h
theorem Pot.snoc {p : Nat} (h : Pot p A) (o : AO) : Pot p (A ++ [o]) := by
  obtain ⟨c, cells, i, b, s, k, h, g, e, r⟩ := h
  exact ⟨c, cells, i, b, s, k, at_snoc h, g, at_snoc e, r⟩
theorem Pot.set {p : Nat} (h : Pot p A) {n : Nat} {o : AO} (h1 : n ≠ p) (h2 : ∀ c cells i b s k, A[p]? = some (.lst [.ref c, .int i, .int b, .int s, .int k]) → A[c]? = some (.lst cells) → n ≠ c) : Pot p (A.set n o) := by
  obtain ⟨c, cells, i, b, s, k, h, g, e, r⟩ := h
  refine ⟨c, cells, i, b, s, k, ?_, g, ?_, r⟩
  · rw [List.getElem?_set_ne h1, h]
  · rw [List.getElem?_set_ne (h2 _ _ _ _ _ _ h e), e]
end
/-! what is known of any datum: how long its tuples are at most, below what its numbers of places lie -/
mutual
def okD (b N : Nat) : D → Prop
  | .tup ds => ds.length ≤ b ∧ okDs b N ds
  | .ref n => n < N
  | _ => True
def okDs (b N : Nat) : List D → Prop
  | [] => True
  | d :: ds => okD b N d ∧ okDs b N ds
end
theorem okDs_iff {b N : Nat} : ∀ {ds : List D}, okDs b N ds ↔ ∀ d ∈ ds, okD b N d
  | [] => by simp [okDs]
  | d :: ds => by simp only [okDs, List.mem_cons, forall_eq_or_imp, okDs_iff (ds := ds)]
mutual
theorem okD.mono {b N b' N' : Nat} (hb : b ≤ b') (hN : N ≤ N') : ∀ {d : D}, okD b N d → okD b' N' d
  | .tup ds, h => ⟨Nat.le_trans h.1 hb, okDs.mono hb hN h.2⟩
  | .ref n, h => Nat.lt_of_lt_of_le h hN
  | .non, _ => trivial
  | .bl _, _ => trivial
  | .int _, _ => trivial
  | .str _, _ => trivial
theorem okDs.mono {b N b' N' : Nat} (hb : b ≤ b') (hN : N ≤ N') : ∀ {ds : List D}, okDs b N ds → okDs b' N' ds
  | [], _ => trivial
  | _ :: _, h => ⟨okD.mono hb hN h.1, okDs.mono hb hN h.2⟩
end
def tpB : D → Bool
  | .tup _ => true
  | _ => false
def isStr : D → Bool
  | .str _ => true
  | _ => false
def isInt : D → Bool
  | .int _ => true
  | .bl _ => true
  | _ => false
def isBl : D → Bool
  | .bl _ => true
  | _ => false
theorem isi_tup {d : D} {A : AH} : ([Ty.tuple].any fun c => (tyD d A).contains c) = tpB d := by
  cases d with
  | ref n =>
    simp only [tyD]
    split <;> rfl
  | _ => rfl
theorem isi_str {d : D} {A : AH} : ([Ty.str].any fun c => (tyD d A).contains c) = isStr d := by
  cases d with
  | ref n =>
    simp only [tyD]
    split <;> rfl
  | _ => rfl
theorem isi_int {d : D} {A : AH} : ([Ty.int].any fun c => (tyD d A).contains c) = isInt d := by
  cases d with
  | ref n =>
    simp only [tyD]
    split <;> rfl
  | _ => rfl
theorem isi_bool {d : D} {A : AH} : ([Ty.bool].any fun c => (tyD d A).contains c) = isBl d := by
  cases d with
  | ref n =>
    simp only [tyD]
    split <;> rfl
  | _ => rfl
section
variable {α : Type} {A : AH} {E : Ex → AH → Prop}
theorem over_live {n : Nat} {ds : List D} {f : D → α → AH → Res α} {Q : α → AH → Prop} (I : Nat → α → AH → Prop) (hI : ∀ i a A, I i a A → A[n]? = some (.lst ds))
    (step : ∀ i d a A, ds[i]? = some d → I i a A → Wp (f d a A) (I (i + 1)) E) (fin : ∀ a A, I ds.length a A → Q a A) :
    ∀ (k i : Nat) (a : α) (A : AH), ds.length < k + i → i ≤ ds.length → I i a A → Wp (overW (wkLive n) f k i a A) Q E
  | 0, i, L, A, hk, hi, _ => by omega
  | k + 1, i, a, A, hk, hi, h => by
    simp only [overW, wkLive, hI i a A h]
    cases e : ds[i]? with
    | none =>
      have : ds.length ≤ i := by simpa using e
      have : i = ds.length := by omega
      subst this
      exact fin _ _ h
    | some d =>
      have hl : i < ds.length := by
        by_cases hl : i < ds.length
        · exact hl
        · rw [List.getElem?_eq_none (by omega)] at e; cases e
      simp only [wp_bind]
      exact (step i d a A e h).mono (fun a A s => over_live I hI step fin k (i + 1) a A (by omega) hl s) fun _ _ e => e
theorem comp_live {n : Nat} {ds : List D} {f : D → α → AH → Res α} {Q : α → AH → Prop} {a : α} (I : Nat → α → AH → Prop) (hI : ∀ i a A, I i a A → A[n]? = some (.lst ds)) (hl : ds.length < fuel) (h0 : I 0 a A)
    (step : ∀ i d a A, ds[i]? = some d → I i a A → Wp (f d a A) (I (i + 1)) E) (fin : ∀ a A, I ds.length a A → Q a A) : Wp (overW (wkLive n) f fuel 0 a A) Q E :=
  over_live I hI step fin fuel 0 a A hl (Nat.zero_le _) h0
theorem turns_live {n : Nat} {ds : List D} {f : D → Loc → AH → SRes} {Q : SQ} (I : Nat → Loc → AH → Prop) (hI : ∀ i L A, I i L A → A[n]? = some (.lst ds))
    (step : ∀ i d L A, ds[i]? = some d → I i L A → WpS (f d L A) ⟨I (i + 1), Q.rt, Q.nx, I (i + 1), Q.ex⟩) (fin : ∀ L A, I ds.length L A → Q.nx L A) :
    ∀ (k i : Nat) (L : Loc) (A : AH), ds.length < k + i → i ≤ ds.length → I i L A → WpS (turnsW (wkLive n) f k i L A) Q
  | 0, i, L, A, hk, hi, _ => by omega
  | k + 1, i, L, A, hk, hi, h => by
    simp only [turnsW, wkLive, hI i L A h]
    cases e : ds[i]? with
    | none =>
      have : ds.length ≤ i := by simpa using e
      have : i = ds.length := by omega
      subst this
      exact fin _ _ h
    | some d =>
      have hl : i < ds.length := by
        by_cases hl : i < ds.length
        · exact hl
        · rw [List.getElem?_eq_none (by omega)] at e; cases e
      have s := step i d L A e h
      simp only
      revert s
      cases f d L A with
      | nx L A => exact fun s => turns_live I hI step fin k (i + 1) L A (by omega) hl s
      | ct L A => exact fun s => turns_live I hI step fin k (i + 1) L A (by omega) hl s
      | bk L A => exact fun s => s
      | rt L A => exact fun s => s
      | exc x L A => exact fun s => s
      | bad => exact fun s => s
theorem loop_live {n : Nat} {L : Loc} {ds : List D} {f : D → Loc → AH → SRes} {Q : SQ} (I : Nat → Loc → AH → Prop) (hI : ∀ i L A, I i L A → A[n]? = some (.lst ds)) (hl : ds.length < fuel) (h0 : I 0 L A)
    (step : ∀ i d L A, ds[i]? = some d → I i L A → WpS (f d L A) ⟨I (i + 1), Q.rt, Q.nx, I (i + 1), Q.ex⟩) (fin : ∀ L A, I ds.length L A → Q.nx L A) : WpS (turnsW (wkLive n) f fuel 0 L A) Q :=
  turns_live I hI step fin fuel 0 L A hl (Nat.zero_le _) h0
theorem seqWk_ref {n : Nat} {ds : List D} (h : A[n]? = some (.lst ds)) : seqWk (.ref n) A = some (wkLive n) := by simp only [seqWk, h]
end
/-- a comprehension that tells g of each item -/
theorem comp_map {ds : List D} {f : D → List D → AH → Res (List D)} {g : D → D} {A : AH} {Q : List D → AH → Prop} {E : Ex → AH → Prop} (H : AH → Prop) (hl : ds.length < fuel) (h0 : H A)
    (step : ∀ d acc A', d ∈ ds → acc.length < 16777216 → H A' → Wp (f d acc A') (fun acc' A'' => acc' = acc ++ [g d] ∧ H A'') E)
    (go : ∀ A', H A' → Q (ds.map g) A') : Wp (overW (wkItems ds) f fuel 0 [] A) Q E := by
  refine comp_items (fun i acc A' => acc = (ds.take i).map g ∧ H A') hl ⟨rfl, h0⟩ (fun i d acc A' hd ⟨e, h⟩ => ?_) fun acc A' ⟨e, h⟩ => ?_
  · have hi : i < ds.length := by
      by_cases c : i < ds.length
      · exact c
      · rw [List.getElem?_eq_none (by omega)] at hd; cases hd
    refine (step d acc A' (List.mem_of_getElem? hd) ?_ h).mono (fun acc' A'' ⟨e', h'⟩ => ⟨?_, h'⟩) fun _ _ e => e
    · rw [e, List.length_map, List.length_take]
      unfold fuel at hl
      omega
    · rw [e', e, List.take_add_one, hd, List.map_append]
      rfl
  · rw [e, List.take_length]
    exact go A' h
/-- a comprehension whose items are of some kind -/
theorem comp_gen {ds : List D} {f : D → List D → AH → Res (List D)} {A : AH} {Q : List D → AH → Prop} {E : Ex → AH → Prop} (H : AH → Prop) (R : Nat → D → Prop) (hl : ds.length < fuel) (h0 : H A)
    (step : ∀ i d acc A', ds[i]? = some d → acc.length < 16777216 → H A' → Wp (f d acc A') (fun acc' A'' => ∃ v, acc' = acc ++ [v] ∧ R i v ∧ H A'') E)
    (go : ∀ vs A', vs.length = ds.length → (∀ j v, vs[j]? = some v → R j v) → H A' → Q vs A') : Wp (overW (wkItems ds) f fuel 0 [] A) Q E := by
  refine comp_items (fun i acc A' => acc.length = i ∧ (∀ j v, acc[j]? = some v → R j v) ∧ H A') hl ⟨rfl, fun j v e => (by cases e), h0⟩ (fun i d acc A' hd ⟨e, r, h⟩ => ?_) fun acc A' ⟨e, r, h⟩ => go acc A' e r h
  have hi : i < ds.length := by
    by_cases c : i < ds.length
    · exact c
    · rw [List.getElem?_eq_none (by omega)] at hd; cases hd
  refine (step i d acc A' hd (by unfold fuel at hl; omega) h).mono (fun acc' A'' ⟨v, e', r', h'⟩ => ?_) fun _ _ e => e
  subst e'
  refine ⟨by simp [e], fun j w hw => ?_, h'⟩
  by_cases c : j < acc.length
  · rw [List.getElem?_append_left c] at hw
    exact r j w hw
  · rw [List.getElem?_append_right (by omega)] at hw
    have : j - acc.length = 0 := by
      by_cases z : j - acc.length = 0
      · exact z
      · rw [List.getElem?_eq_none (by simp; omega)] at hw; cases hw
    rw [this] at hw
    cases hw
    rw [show j = i by omega]
    exact r'
theorem blsD_map (bs : List Bool) : blsD (bs.map D.bl) = some bs := by
  induction bs with
  | nil => rfl
  | cons b bs ih => simp only [List.map_cons, blsD, ih, Option.map_some]
theorem blsD_cons {b : Bool} {r : List D} : blsD (.bl b :: r) = (blsD r).map (b :: ·) := rfl
theorem blsD_nil : blsD [] = some [] := rfl
theorem cut_from {xs : List D} {k : Int} (h : 0 ≤ k) : cut xs (some k) none = xs.drop k.toNat := by
  unfold cut
  obtain ⟨j, rfl⟩ := Int.eq_ofNat_of_zero_le h
  rw [show HT.sIx xs.length 0 (some (j : Int)) = min j xs.length from HT.sIx_nat _ _ _]
  show (xs.drop (min j xs.length)).take (xs.length - min j xs.length) = _
  rw [Int.toNat_natCast]
  by_cases c : j ≤ xs.length
  · rw [Nat.min_eq_left c, List.take_of_length_le (by rw [List.length_drop]; exact Nat.le_refl _)]
  · rw [Nat.min_eq_right (by omega), Nat.sub_self, List.take_zero, List.drop_eq_nil_of_le (by omega)]
theorem cut_to {xs : List D} {k : Int} (h : 0 ≤ k) : cut xs none (some k) = xs.take k.toNat := by
  unfold cut
  obtain ⟨j, rfl⟩ := Int.eq_ofNat_of_zero_le h
  rw [show HT.sIx xs.length xs.length (some (j : Int)) = min j xs.length from HT.sIx_nat _ _ _]
  show (xs.drop 0).take (min j xs.length - 0) = _
  rw [Int.toNat_natCast, List.drop_zero, Nat.sub_zero]
  by_cases c : j ≤ xs.length
  · rw [Nat.min_eq_left c]
  · rw [Nat.min_eq_right (by omega), List.take_length, List.take_of_length_le (by omega)]
theorem atI_0 {α : Type} {a : α} {l : List α} : L2.atI (a :: l) 0 = some a := by
  simp only [L2.atI, L2.ixN, List.length_cons]
  rw [if_pos (by omega), if_pos (by omega)] <;> rfl
theorem atI_1 {α : Type} {a b : α} {l : List α} : L2.atI (a :: b :: l) 1 = some b := by
  simp only [L2.atI, L2.ixN, List.length_cons]
  rw [if_pos (by omega), if_pos (by omega)] <;> rfl
theorem atI_2 {α : Type} {a b c : α} {l : List α} : L2.atI (a :: b :: c :: l) 2 = some c := by
  simp only [L2.atI, L2.ixN, List.length_cons]
  rw [if_pos (by omega), if_pos (by omega)] <;> rfl
theorem atI_3 {α : Type} {a b c d : α} {l : List α} : L2.atI (a :: b :: c :: d :: l) 3 = some d := by
  simp only [L2.atI, L2.ixN, List.length_cons]
  rw [if_pos (by omega), if_pos (by omega)] <;> rfl
theorem atI_4 {α : Type} {a b c d e : α} {l : List α} : L2.atI (a :: b :: c :: d :: e :: l) 4 = some e := by
  simp only [L2.atI, L2.ixN, List.length_cons]
  rw [if_pos (by omega), if_pos (by omega)] <;> rfl
theorem tpB_tup {ds : List D} : tpB (.tup ds) = true := rfl
theorem tpB_str {x : Str} : tpB (.str x) = false := rfl
theorem tpB_bl {b : Bool} : tpB (.bl b) = false := rfl
theorem tpB_int {i : Int} : tpB (.int i) = false := rfl
theorem tpB_non : tpB .non = false := rfl
theorem tpB_ref {n : Nat} : tpB (.ref n) = false := rfl
theorem isStr_tup {ds : List D} : isStr (.tup ds) = false := rfl
theorem isStr_str {x : Str} : isStr (.str x) = true := rfl
theorem isStr_bl {b : Bool} : isStr (.bl b) = false := rfl
theorem isStr_int {i : Int} : isStr (.int i) = false := rfl
theorem isStr_non : isStr .non = false := rfl
theorem isStr_ref {n : Nat} : isStr (.ref n) = false := rfl
theorem isBl_tup {ds : List D} : isBl (.tup ds) = false := rfl
theorem isBl_str {x : Str} : isBl (.str x) = false := rfl
theorem isBl_bl {b : Bool} : isBl (.bl b) = true := rfl
theorem isBl_int {i : Int} : isBl (.int i) = false := rfl
theorem isBl_non : isBl .non = false := rfl
theorem isBl_ref {n : Nat} : isBl (.ref n) = false := rfl
theorem isInt_tup {ds : List D} : isInt (.tup ds) = false := rfl
theorem isInt_str {x : Str} : isInt (.str x) = false := rfl
theorem isInt_bl {b : Bool} : isInt (.bl b) = true := rfl
theorem isInt_int {i : Int} : isInt (.int i) = true := rfl
theorem isInt_non : isInt .non = false := rfl
theorem isInt_ref {n : Nat} : isInt (.ref n) = false := rfl
theorem in_str2 {w a b : Str} {A : AH} : cmpD .inn (.str w) (.tup [.str a, .str b]) A = some (a == w || (b == w || false)) := rfl
theorem in_str3 {w a b c : Str} {A : AH} : cmpD .inn (.str w) (.tup [.str a, .str b, .str c]) A = some (a == w || (b == w || (c == w || false))) := rfl
theorem lim_lit : lim = 16777216 := by
  unfold lim
  exact (Nat.add_zero 16777216).symm.trans (Nat.add_zero _)
theorem wp_if {α : Type} {c : Prop} {_ : Decidable c} {o : Option (α × AH)} {Q : α → AH → Prop} {E : Ex → AH → Prop} (h : c) : Wp (Res.of (if c then o else none)) Q E ↔ Wp (Res.of o) Q E := by rw [if_pos h]
local macro_rules | `(tactic| walk_at "go") => `(tactic| try simp only [wps_nil, wps_cons, wps_ex, wps_asg, wps_par, wps_ret, wps_cond, wps_loop, wps_brk, wps_cont, wps_pass, wp_ret, wp_slot, wp_cst, wp_tup, wp_lst, wp_bin, wp_neg, wp_cmp, wp_chain, wp_and, wp_or, wp_not, wp_ifx, wp_idx, wp_slc, wp_rev, wp_call, wp_meth, wp_blt, wp_listR, wp_isi, wp_comp, wp_dct, wp_nil, wp_cons, wp_knil, wp_kcons, wp_onone, wp_osome, wp_iseq, wp_irng, wp_ienum, wp_izip, wp_tslot, wp_ttup, wp_titem, wp_tnil, wp_tcons, wp_fnil, wp_fone, wp_ok, wp_of1, wp_of, wp_of1n, wp_ofn, wp_onB, wp_onBn, wp_calm, wp_bind, wp_ite, wp_exc, wp_bad,
  getL_0, getL_s, bin_add, bin_sub, bin_mul, bin_fdiv, bin_mod, bin_tup, bin_str, cmp_lt, cmp_le, cmp_gt, cmp_ge, cmp_eqI, cmp_eqS, cmp_neI, cmp_neS, cmp_eqB, in_str2, in_str3, truth_bl, truth_int, truth_tup, truth_non, neg_int, intOf_int, tupOf_tup, idx_tup, idx_ref, idxO_lst, atI_0, atI_1, atI_2, atI_3, atI_4, cut_from, cut_to, List.drop_succ_cons, List.drop_zero, List.take_succ_cons, List.take_zero, List.drop_nil, List.take_nil, Int.reduceLE, Int.reduceBEq, blsD_map, blsD_cons, blsD_nil, set_ref, setO_cons, isList_ref, Option.isSome_some, Int.reduceLE, Int.reduceLT, Int.cast_ofNat_Int, Int.reduceToNat, List.getElem?_cons_succ, List.getElem?_cons_zero, Int.reduceNeg, Int.reduceAdd, at_new, and_self, or_true, true_or, true_and, and_true, Int.reducePow, Int.reduceSub, Int.reduceMul, seq_ref, seqO_lst, seqO_frz, lst_ref, lstO_lst, len_ref, list_ref, tuple_ref, all_ref, any_ref, add_ref, slc_ref, len_tup, list_tup, int_int, int_bl, abs_int, max_int, min_int, slc_tup, rev_tup, seqWk_tup, zipWk_tup, rng_one, rng_two, wkEnum_items, Option.map_some, Option.bind_some, setAll,
  List.set_cons_zero, List.set_cons_succ, List.set_set, List.foldl_nil, List.foldl_cons, List.length_cons, List.length_nil, List.map_cons, List.map_nil, List.cons_append, List.nil_append, List.replicate_succ, List.replicate_zero, Nat.reduceAdd, Nat.reduceSub, Bool.not_true, Bool.not_false, if_true, if_false, Bool.false_eq_true, decide_eq_true_eq, Nat.reduceLeDiff, lim_lit, wipe, isi_tup, isi_str, isi_int, isi_bool, Bool.and_true, Bool.and_false, Bool.true_and, Bool.false_and, tpB_tup, tpB_str, tpB_bl, tpB_int, tpB_non, tpB_ref, isStr_tup, isStr_str, isStr_bl, isStr_int, isStr_non, isStr_ref, isBl_tup, isBl_str, isBl_bl, isBl_int, isBl_non, isBl_ref, isInt_tup, isInt_str, isInt_bl, isInt_int, isInt_non, isInt_ref])
local macro_rules | `(tactic| walk_at "goh") => `(tactic| try simp only [*, Int.reduceBEq, wps_nil, wps_cons, wps_ex, wps_asg, wps_par, wps_ret, wps_cond, wps_loop, wps_brk, wps_cont, wps_pass, wp_ret, wp_slot, wp_cst, wp_tup, wp_lst, wp_bin, wp_neg, wp_cmp, wp_chain, wp_and, wp_or, wp_not, wp_ifx, wp_idx, wp_slc, wp_rev, wp_call, wp_meth, wp_blt, wp_listR, wp_isi, wp_comp, wp_dct, wp_nil, wp_cons, wp_knil, wp_kcons, wp_onone, wp_osome, wp_iseq, wp_irng, wp_ienum, wp_izip, wp_tslot, wp_ttup, wp_titem, wp_tnil, wp_tcons, wp_fnil, wp_fone, wp_ok, wp_of1, wp_of, wp_of1n, wp_ofn, wp_onB, wp_onBn, wp_calm, wp_bind, wp_ite, wp_exc, wp_bad,
  getL_0, getL_s, bin_add, bin_sub, bin_mul, bin_fdiv, bin_mod, bin_tup, bin_str, cmp_lt, cmp_le, cmp_gt, cmp_ge, cmp_eqI, cmp_eqS, cmp_neI, cmp_neS, cmp_eqB, in_str2, in_str3, truth_bl, truth_int, truth_tup, truth_non, neg_int, intOf_int, tupOf_tup, idx_tup, idx_ref, idxO_lst, atI_0, atI_1, atI_2, atI_3, atI_4, cut_from, cut_to, List.drop_succ_cons, List.drop_zero, List.take_succ_cons, List.take_zero, List.drop_nil, List.take_nil, Int.reduceLE, blsD_map, blsD_cons, blsD_nil, set_ref, setO_cons, isList_ref, Option.isSome_some, Int.reduceLE, Int.reduceLT, Int.cast_ofNat_Int, Int.reduceToNat, List.getElem?_cons_succ, List.getElem?_cons_zero, Int.reduceNeg, Int.reduceAdd, at_new, and_self, or_true, true_or, true_and, and_true, Int.reducePow, Int.reduceSub, Int.reduceMul, seq_ref, seqO_lst, seqO_frz, lst_ref, lstO_lst, len_ref, list_ref, tuple_ref, all_ref, any_ref, add_ref, slc_ref, len_tup, list_tup, int_int, int_bl, abs_int, max_int, min_int, slc_tup, rev_tup, seqWk_tup, zipWk_tup, rng_one, rng_two, wkEnum_items, Option.map_some, Option.bind_some, setAll,
  List.set_cons_zero, List.set_cons_succ, List.set_set, List.foldl_nil, List.foldl_cons, List.length_cons, List.length_nil, List.map_cons, List.map_nil, List.cons_append, List.nil_append, List.replicate_succ, List.replicate_zero, Nat.reduceAdd, Nat.reduceSub, Bool.not_true, Bool.not_false, if_true, if_false, Bool.false_eq_true, decide_eq_true_eq, Nat.reduceLeDiff, lim_lit, wipe, isi_tup, isi_str, isi_int, isi_bool, Bool.and_true, Bool.and_false, Bool.true_and, Bool.false_and, tpB_tup, tpB_str, tpB_bl, tpB_int, tpB_non, tpB_ref, isStr_tup, isStr_str, isStr_bl, isStr_int, isStr_non, isStr_ref, isBl_tup, isBl_str, isBl_bl, isBl_int, isBl_non, isBl_ref, isInt_tup, isInt_str, isInt_bl, isInt_int, isInt_non, isInt_ref])
local macro_rules | `(tactic| walk_at "dr") => `(tactic| (refine draw_ok (by assumption) (by assumption) (by first | assumption | omega | decide) (by first | omega | decide) ?_; intro r A' r0 r1 hp f))
local macro_rules | `(tactic| walk_at "an") => `(tactic| (refine any_ok (by assumption) (by assumption) (Pot.snoc (by assumption) _) at_new (Nat.ne_of_gt (Pot.lt (by assumption))) (by simp) (by simp) ?_; intro d A' hm hp f))
local macro_rules | `(tactic| walk_at "fr") => `(tactic| repeat first | exact Fr.refl _ _ | assumption | refine Fr.snoc ?_ _ | refine Fr.trans ?_ (by assumption) | refine Fr.trans ?_ (Fr.nil (by assumption)))
local macro_rules | `(tactic| walk_at "g1") => `(tactic| try simp only [*, wps_nil, wps_ex, wps_asg, wps_par, wps_ret, wps_cond, wps_loop, wps_brk, wps_cont, wps_pass, wp_ret, wp_slot, wp_cst, wp_tup, wp_lst, wp_bin, wp_neg, wp_cmp, wp_chain, wp_and, wp_or, wp_not, wp_ifx, wp_idx, wp_slc, wp_rev, wp_call, wp_meth, wp_blt, wp_listR, wp_isi, wp_comp, wp_dct, wp_nil, wp_cons, wp_knil, wp_kcons, wp_onone, wp_osome, wp_iseq, wp_irng, wp_ienum, wp_izip, wp_tslot, wp_ttup, wp_titem, wp_tnil, wp_tcons, wp_fnil, wp_fone, wp_ok, wp_of1, wp_of, wp_of1n, wp_ofn, wp_onB, wp_onBn, wp_calm, wp_bind, wp_ite, wp_exc, wp_bad,
  getL_0, getL_s, bin_add, bin_sub, bin_mul, bin_fdiv, bin_mod, bin_tup, bin_str, cmp_lt, cmp_le, cmp_gt, cmp_ge, cmp_eqI, cmp_eqS, cmp_neI, cmp_neS, cmp_eqB, in_str2, in_str3, truth_bl, truth_int, truth_tup, truth_non, neg_int, intOf_int, tupOf_tup, idx_tup, idx_ref, idxO_lst, atI_0, atI_1, atI_2, atI_3, atI_4, cut_from, cut_to, List.drop_succ_cons, List.drop_zero, List.take_succ_cons, List.take_zero, List.drop_nil, List.take_nil, Int.reduceLE, Int.reduceBEq, blsD_map, blsD_cons, blsD_nil, set_ref, setO_cons, isList_ref, Option.isSome_some, Int.reduceLE, Int.reduceLT, Int.cast_ofNat_Int, Int.reduceToNat, List.getElem?_cons_succ, List.getElem?_cons_zero, Int.reduceNeg, Int.reduceAdd, at_new, and_self, or_true, true_or, true_and, and_true, Int.reducePow, Int.reduceSub, Int.reduceMul, seq_ref, seqO_lst, seqO_frz, lst_ref, lstO_lst, len_ref, list_ref, tuple_ref, all_ref, any_ref, add_ref, slc_ref, len_tup, list_tup, int_int, int_bl, abs_int, max_int, min_int, slc_tup, rev_tup, seqWk_tup, zipWk_tup, rng_one, rng_two, wkEnum_items, Option.map_some, Option.bind_some, setAll,
  List.set_cons_zero, List.set_cons_succ, List.set_set, List.foldl_nil, List.foldl_cons, List.length_cons, List.length_nil, List.map_cons, List.map_nil, List.cons_append, List.nil_append, List.replicate_succ, List.replicate_zero, Nat.reduceAdd, Nat.reduceSub, Bool.not_true, Bool.not_false, if_true, if_false, Bool.false_eq_true, decide_eq_true_eq, Nat.reduceLeDiff, lim_lit, wipe, isi_tup, isi_str, isi_int, isi_bool, Bool.and_true, Bool.and_false, Bool.true_and, Bool.false_and, tpB_tup, tpB_str, tpB_bl, tpB_int, tpB_non, tpB_ref, isStr_tup, isStr_str, isStr_bl, isStr_int, isStr_non, isStr_ref, isBl_tup, isBl_str, isBl_bl, isBl_int, isBl_non, isBl_ref, isInt_tup, isInt_str, isInt_bl, isInt_int, isInt_non, isInt_ref])
def bDrawT : List CS :=
  [.cond (.cmp .gt (.idx (.slot 0) (.cst (.int 2))) (.cst (.int 0)))
    [.asg (.slot 3) (.bin .mod (.blt .int [(.idx (.slot 0) (.cst (.int 2)))]) (.slot 1)),
      .asg (.item (.slot 0) (.cst (.int 2))) (.bin .fdiv (.idx (.slot 0) (.cst (.int 2))) (.slot 1)),
      .ret (.slot 3)]
    [],
  .asg (.item (.slot 0) (.cst (.int 4))) (.bin .add (.idx (.slot 0) (.cst (.int 4))) (.cst (.int 1))),
  .asg (.slot 4) (.bin .mod (.blt .int [(.bin .mul (.blt .int [(.bin .add (.idx (.slot 0) (.cst (.int 3))) (.bin .mul (.cst (.int 7919)) (.idx (.slot 0) (.cst (.int 4)))))]) (.cst (.int 48271)))]) (.cst (.int 2147483647))),
  .asg (.slot 4) (.bin .mod (.blt .int [(.bin .mul (.slot 4) (.bin .add (.bin .fdiv (.slot 4) (.cst (.int 1009))) (.cst (.int 69621))))]) (.cst (.int 2147483647))),
  .asg (.slot 4) (.bin .mod (.blt .int [(.bin .mul (.slot 4) (.bin .add (.bin .fdiv (.slot 4) (.cst (.int 2003))) (.cst (.int 40692))))]) (.cst (.int 2147483399))),
  .ret (.bin .mod (.blt .int [(.bin .fdiv (.slot 4) (.cst (.int 16)))]) (.slot 1))]
def bDraw : List CS :=
  .cond (.and (.cmp .eq (.idx (.slot 0) (.cst (.int 2))) (.cst (.int 0))) (.cmp .lt (.idx (.slot 0) (.cst (.int 1))) (.blt .len [(.idx (.slot 0) (.cst (.int 0)))])))
    [.asg (.slot 2) (.idx (.idx (.slot 0) (.cst (.int 0))) (.idx (.slot 0) (.cst (.int 1)))),
      .asg (.item (.slot 0) (.cst (.int 1))) (.bin .add (.idx (.slot 0) (.cst (.int 1))) (.cst (.int 1))),
      .asg (.item (.slot 0) (.cst (.int 3))) (.bin .mod (.blt .int [(.bin .add (.bin .add (.bin .mul (.idx (.slot 0) (.cst (.int 3))) (.cst (.int 69621))) (.slot 2)) (.cst (.int 11)))]) (.cst (.int 2147483629))),
      .cond (.cmp .ge (.slot 2) (.cst (.int 1000000000000000000)))
        [.asg (.item (.slot 0) (.cst (.int 2))) (.slot 2)]
        []]
    [] :: bDrawT
section
variable {P : CProg} {k' f p : Nat} {m : Int} {A : AH} {Q : D → AH → Prop} {E : Ex → AH → Prop}
theorem Fr.set {S : List Nat} {A B : AH} {n : Nat} (h : Fr S A B) (o : AO) (hn : n ∈ S) : Fr S A (B.set n o) :=
  ⟨by rw [List.length_set]; exact h.le, fun j hj hS => by
    rw [List.getElem?_set_ne (fun e => hS (by rw [← e]; exact hn))]
    exact h.at_ j hj hS⟩
theorem drawT_ok {F : Fns} {c : Nat} {cells : List Int} {i b s k : Int} {l2 l3 l4 : Option D} {Q : SQ} (hA : A[p]? = some (.lst [.ref c, .int i, .int b, .int s, .int k])) (hcp : c ≠ p) (hC : A[c]? = some (.lst (cells.map D.int)))
    (i0 : 0 ≤ i) (b0 : 0 ≤ b) (s0 : 0 ≤ s) (k0 : 0 ≤ k) (pos : ∀ x ∈ cells, 0 ≤ x) (h0 : 0 < m) (h1 : m < 1073741824) (go : ∀ r A', 0 ≤ r → r < m → Pot p A' → Fr [p] A A' → Q.rt (.int r) A') :
    WpS (evSs P F bDrawT [some (.ref p), some (.int m), l2, l3, l4] A) Q := by
  have hlt : p < A.length := lt_of_at hA
  have hset : ∀ o, (A.set p o)[p]? = some o := fun o => set_self hlt
  unfold bDrawT
  walk_at "goh"
  split
  · refine go _ _ (Int.emod_nonneg _ (by omega)) (Int.emod_lt_of_pos _ h0) ⟨c, cells, i, b / m, s, k, hset _, hcp, ?_, i0, Int.ediv_nonneg b0 (by omega), s0, k0, pos⟩ ((Fr.refl _ _).set _ (by simp))
    rw [List.getElem?_set_ne (Ne.symm hcp)]
    exact hC
  · have e1 : ∀ x : Int, -18446744073709551616 < x % 2147483647 ∧ x % 2147483647 < 18446744073709551616 := fun x => by
      have := Int.emod_nonneg x (b := 2147483647) (by omega)
      have := Int.emod_lt_of_pos x (b := 2147483647) (by omega)
      omega
    simp only [e1]
    walk_at "goh"
    refine go _ _ (Int.emod_nonneg _ (by omega)) (Int.emod_lt_of_pos _ h0) ⟨c, cells, i, b, s, k + 1, hset _, hcp, ?_, i0, b0, s0, by omega, pos⟩ ((Fr.refl _ _).set _ (by simp))
    rw [List.getElem?_set_ne (Ne.symm hcp)]
    exact hC
theorem draw_ok (hd : Def P f 2 5 bDraw) (hp : Pot p A) (h0 : 0 < m) (h1 : m < 1073741824) (go : ∀ r A', 0 ≤ r → r < m → Pot p A' → Fr [p] A A' → Q (.int r) A') : Wp ((fns P (k' + 1)).call f [.ref p, .int m] A) Q E := by
  obtain ⟨c, cells, i, b, s, k, hA, hcp, hC, i0, b0, s0, k0, pos⟩ := hp
  have hlt : p < A.length := lt_of_at hA
  rw [wp_def hd rfl]
  unfold bDraw
  have hset : ∀ o, (A.set p o)[p]? = some o := fun o => set_self hlt
  have hset2 : ∀ o o', ((A.set p o).set p o')[p]? = some o' := fun o o' => set_self (by rw [List.length_set]; exact hlt)
  rw [wps_cons]
  walk_at "goh"
  split
  · split
    · rename_i h2
      obtain ⟨d, hd, hm, _⟩ := atI_of (ds := cells.map D.int) i0 (by simpa using h2)
      obtain ⟨x, hx, rfl⟩ := List.mem_map.mp hm
      walk_at "goh"
      have fin : ∀ b' s', 0 ≤ b' → 0 ≤ s' → WpS (evSs P (fns P k') bDrawT [some (.ref p), some (.int m), some (.int x), none, none] (A.set p (.lst [.ref c, .int (i + 1), .int b', .int s', .int k]))) ⟨fun _ A => Q .non A, Q, fun _ _ => False, fun _ _ => False, E⟩ := fun b' s' b1 s1 =>
        drawT_ok (hset _) hcp (by rw [List.getElem?_set_ne (Ne.symm hcp)]; exact hC) (by omega) b1 s1 k0 pos h0 h1 fun r A' r0 r1 hp hf => go r A' r0 r1 hp (((Fr.refl _ _).set _ (by simp)).trans hf)
      have s1 : 0 ≤ (s * 69621 + x + 11) % 2147483629 := Int.emod_nonneg _ (by omega)
      split
      · exact fin _ _ (pos _ hx) s1
      · exact fin _ _ b0 s1
    · refine drawT_ok hA hcp hC i0 b0 s0 k0 pos h0 h1 go
  · refine drawT_ok hA hcp hC i0 b0 s0 k0 pos h0 h1 go
def bAny (f : Nat) : List CS := [.ret (.idx (.slot 1) (.call f [(.slot 0), (.blt .len [(.slot 1)])]))]
theorem any_ok {g t : Nat} {ds : List D} (hd : Def P f 2 5 bDraw) (ha : Def P g 2 2 (bAny f)) (hp : Pot p A) (ht : A[t]? = some (.lst ds)) (tp : t ≠ p) (hne : 0 < ds.length) (hl : ds.length < 1073741824)
    (go : ∀ d A', d ∈ ds → Pot p A' → Fr [p] A A' → Q d A') : Wp ((fns P (k' + 2)).call g [.ref p, .ref t] A) Q E := by
  rw [wp_def ha rfl]
  unfold bAny
  walk_at "goh"
  refine draw_ok hd hp (by omega) (by omega) fun r A' r0 r1 hp' hf => ?_
  rw [hf.get ht (by simpa using tp)]
  obtain ⟨d, hd, hm, _⟩ := atI_of r0 r1
  simp only [Option.bind_some, idxO_lst, hd, wp_of1]
  exact go d A' hm hp' hf
def bPot : List CS :=
  [.asg (.slot 1) (.comp (.blt .abs [(.blt .int [(.slot 2)])]) (.slot 2) (.seq (.slc (.slot 0) none (some (.cst (.int 63))))) [] [2]),
  .ret (.lst [(.slot 1), (.cst (.int 0)), (.cst (.int 0)), (.bin .add (.cst (.int 1)) (.blt .len [(.slot 1)])), (.cst (.int 0))])]
theorem pot_ok {n : Nat} {ns : List Int} (hd : Def P f 1 3 bPot) (hn : A[n]? = some (.frz (ns.map D.int))) (hl : ns.length ≤ 63) (go : ∀ p A', Pot p A' → Fr [] A A' → A.length ≤ p → Q (.ref p) A') : Wp ((fns P (k' + 1)).call f [.ref n] A) Q E := by
  rw [wp_def hd rfl]
  unfold bPot
  rw [wps_cons]
  walk_at "g1"
  rw [seqWk_ref at_new]
  walk_at "g1"
  have hl2 : (List.take 63 (ns.map D.int)) = ns.map D.int := List.take_of_length_le (by simpa using hl)
  rw [hl2]
  refine comp_live (ds := ns.map D.int) (fun i acc B => B = A ++ [.lst (ns.map D.int)] ∧ ∃ cs : List Int, acc = cs.map D.int ∧ cs.length = i ∧ ∀ x ∈ cs, 0 ≤ x) (fun i a B h => by rw [h.1]; exact at_new) (by simp [fuel]; omega) ⟨rfl, [], rfl, rfl, by simp⟩ (fun i d acc B hd ⟨hB, cs, e, hcs, pos⟩ => ?_) fun acc B ⟨hB, cs, e, hcs, pos⟩ => ?_
  · obtain ⟨x, _, rfl⟩ := List.mem_map.mp (List.mem_of_getElem? hd)
    have li : i < ns.length := by
      have := (List.getElem?_eq_some_iff.mp hd).1
      simpa using this
    have la : acc.length < 16777216 := by rw [e, List.length_map, hcs]; omega
    walk_at "go"
    simp only [la, if_true, wp_ok]
    refine ⟨hB, cs ++ [if x < 0 then -x else x], by rw [e, List.map_append]; rfl, by rw [List.length_append, hcs]; rfl, fun y hy => ?_⟩
    rcases List.mem_append.mp hy with hy | hy
    · exact pos y hy
    · rw [List.mem_singleton.mp hy]
      split <;> omega
  · subst hB
    subst e
    rw [wps_cons]
    walk_at "g1"
    refine go _ _ ⟨_, cs, 0, 0, _, 0, at_new, ?_, at_snoc at_new, by omega, by omega, by omega, by omega, pos⟩ (((Fr.refl _ _).snoc _).snoc _ |>.snoc _) ?_
    · simp
    · simp only [List.length_append]; omega
theorem Fr.sub {S T : List Nat} {A B : AH} (h : Fr S A B) (hs : ∀ x ∈ S, x ∈ T) : Fr T A B := ⟨h.le, fun n hn hT => h.at_ n hn fun e => hT (hs n e)⟩
theorem Fr.nil {S : List Nat} {A B : AH} (h : Fr [] A B) : Fr S A B := h.sub (by simp)
theorem Pot.fr {A B : AH} (h : Pot p A) (f : Fr [] A B) : Pot p B := by
  obtain ⟨c, cells, i, b, s, k, hA, hcp, hC, r⟩ := h
  exact ⟨c, cells, i, b, s, k, f.get hA (by simp), hcp, f.get hC (by simp), r⟩
end
end Kin
end
section
set_option linter.all false
/-! The compact program of law k18: what the compiler of KinC tells. -/
namespace Kin
open PySem
/-- is_whole -/
def b18_0 : List CS :=
  [.ret (.and (.isi (.slot 0) [.int]) (.not (.isi (.slot 0) [.bool])))]
/-- is_number -/
def b18_1 : List CS :=
  [.ret (.and (.call 0 [(.slot 0)]) (.cmp .ge (.slot 0) (.cst (.int 0))))]
/-- is_below -/
def b18_2 : List CS :=
  [.ret (.and (.call 1 [(.slot 1)]) (.cmp .lt (.slot 1) (.slot 0)))]
/-- fits_bounds -/
def b18_3 : List CS :=
  [.ret (.and (.cmp .eq (.blt .len [(.slot 0)]) (.blt .len [(.slot 1)])) (.blt .all [(.comp (.call 2 [(.slot 2), (.slot 3)]) (.tup [(.slot 2), (.slot 3)]) (.zip (.slot 1) (.slot 0)) [] [2, 3])]))]
/-- is_line -/
def b18_4 : List CS :=
  [.cond (.or (.not (.isi (.slot 1) [.tuple])) (.or (.cmp .lt (.blt .len [(.slot 1)]) (.cst (.int 2))) (.not (.isi (.idx (.slot 1) (.cst (.int 0))) [.str]))))
 [.ret (.cst (.bl false))]
 [],
  .asg (.slot 2) (.idx (.slot 1) (.cst (.int 0))),
  .asg (.slot 3) (.slc (.slot 1) (some (.cst (.int 1))) none),
  .cond (.cmp .eq (.slot 2) (.cst (.str ("hue" : Str))))
 [.ret (.call 3 [(.slot 3), (.tup [(.cst (.int 4)), (.cst (.int 10))])])]
 [],
  .cond (.cmp .eq (.slot 2) (.cst (.str ("same" : Str))))
 [.ret (.call 3 [(.slot 3), (.tup [(.cst (.int 4)), (.cst (.int 4))])])]
 [],
  .cond (.cmp .eq (.slot 2) (.cst (.str ("tie" : Str))))
 [.ret (.call 3 [(.slot 3), (.tup [(.cst (.int 4)), (.cst (.int 4)), (.cst (.int 4))])])]
 [],
  .cond (.cmp .eq (.slot 2) (.cst (.str ("not" : Str))))
 [.ret (.call 3 [(.slot 3), (.tup [(.slot 0)])])]
 [],
  .cond (.cmp .eq (.slot 2) (.cst (.str ("many" : Str))))
 [.ret (.and (.call 3 [(.slot 3), (.tup [(.cst (.int 4)), (.bin .add (.cst (.int 40)) (.cst (.int 1))), (.slot 0)])]) (.cmp .gt (.idx (.slot 3) (.cst (.int 1))) (.cst (.int 0))))]
 [],
  .cond (.and (.cmp .ne (.slot 2) (.cst (.str ("all" : Str)))) (.cmp .ne (.slot 2) (.cst (.str ("some" : Str)))))
 [.ret (.cst (.bl false))]
 [],
  .ret (.and (.cmp .eq (.blt .len [(.slot 3)]) (.cst (.int 1))) (.and (.isi (.idx (.slot 3) (.cst (.int 0))) [.tuple]) (.blt .all [(.comp (.call 2 [(.slot 0), (.slot 4)]) (.slot 4) (.seq (.idx (.slot 3) (.cst (.int 0)))) [] [4])])))]
/-- is_saying -/
def b18_5 : List CS :=
  [.cond (.or (.not (.isi (.slot 0) [.tuple])) (.not (.slot 0)))
 [.ret (.cst (.bl false))]
 [],
  .ret (.blt .all [(.comp (.call 4 [(.slot 1), (.slot 2)]) (.tup [(.slot 1), (.slot 2)]) (.enum (.slot 0)) [] [1, 2])])]
/-- own line_of -/
def b18_9 : List CS :=
  [.par [4, 5, 6] [(.call 7 [(.slot 0), (.slot 2)]), (.call 7 [(.slot 0), (.slot 2)]), (.call 7 [(.slot 0), (.cst (.int 10))])],
  .cond (.or (.cmp .eq (.slot 1) (.cst (.int 0))) (.cmp .ge (.call 7 [(.slot 0), (.cst (.int 9))]) (.slot 3)))
 [.cond (.cmp .lt (.slot 6) (.cst (.int 4)))
 [.ret (.tup [(.cst (.str ("hue" : Str))), (.slot 4), (.call 8 [(.slot 0), (.lst [(.cst (.int 0)), (.cst (.int 0)), (.cst (.int 1)), (.cst (.int 1)), (.call 7 [(.slot 0), (.cst (.int 10))])])])])]
 [],
  .ret (.ite (.cmp .lt (.slot 6) (.cst (.int 6))) (.tup [(.cst (.str ("same" : Str))), (.slot 4), (.slot 5)]) (.tup [(.cst (.str ("tie" : Str))), (.call 8 [(.slot 0), (.lst [(.cst (.int 0)), (.cst (.int 0)), (.cst (.int 0)), (.cst (.int 1)), (.call 7 [(.slot 0), (.cst (.int 4))])])]), (.slot 4), (.slot 5)]))]
 [],
  .asg (.slot 7) (.blt .max [(.cst (.int 0)), (.bin .sub (.bin .sub (.slot 1) (.cst (.int 1))) (.call 7 [(.slot 0), (.cst (.int 5))]))]),
  .cond (.cmp .lt (.slot 6) (.cst (.int 2)))
 [.ret (.tup [(.cst (.str ("not" : Str))), (.slot 7)])]
 [],
  .cond (.cmp .lt (.slot 6) (.cst (.int 6)))
 [.asg (.slot 8) (.comp (.blt .max [(.cst (.int 0)), (.bin .sub (.bin .sub (.slot 1) (.cst (.int 1))) (.call 7 [(.slot 0), (.cst (.int 6))]))]) (.slot 9) (.rng [(.call 8 [(.slot 0), (.lst [(.cst (.int 0)), (.cst (.int 1)), (.cst (.int 2)), (.cst (.int 2)), (.cst (.int 2)), (.cst (.int 3))])])]) [] [9]),
  .ret (.tup [(.call 8 [(.slot 0), (.lst [(.cst (.str ("all" : Str))), (.cst (.str ("some" : Str)))])]), (.blt .tuple [(.slot 8)])])]
 [],
  .ret (.tup [(.cst (.str ("many" : Str))), (.slot 4), (.call 8 [(.slot 0), (.lst [(.cst (.int 1)), (.cst (.int 1)), (.cst (.int 2)), (.cst (.int 2)), (.cst (.int 3)), (.bin .add (.cst (.int 1)) (.call 7 [(.slot 0), (.cst (.int 40))]))])]), (.slot 7)])]
/-- own saying -/
def b18_10 : List CS :=
  [.ret (.blt .tuple [(.comp (.call 9 [(.slot 0), (.slot 4), (.slot 2), (.slot 3)]) (.slot 4) (.rng [(.slot 1)]) [] [4])])]
/-- own deep -/
def b18_11 : List CS :=
  [.asg (.slot 1) (.call 8 [(.slot 0), (.lst [(.cst .non), (.cst (.int 0)), (.tup []), (.cst (.str ("a" : Str)))])]),
  .loop (.slot 2) (.rng [(.bin .add (.cst (.int 20)) (.call 7 [(.slot 0), (.cst (.int 15))]))])
 [.asg (.slot 1) (.ite (.cmp .gt (.call 7 [(.slot 0), (.cst (.int 3))]) (.cst (.int 0))) (.tup [(.slot 1)]) (.lst [(.slot 1)]))],
  .ret (.slot 1)]
/-- own is_number -/
def b18_12 : List CS :=
  [.ret (.and (.isi (.slot 0) [.int]) (.and (.not (.isi (.slot 0) [.bool])) (.chain .le .le (.slot 1) (.slot 0) (.slot 2))))]
/-- own are_lines -/
def b18_13 : List CS :=
  [.ret (.and (.isi (.slot 0) [.tuple]) (.blt .all [(.comp (.call 12 [(.slot 2), (.cst (.int 0)), (.bin .sub (.slot 1) (.cst (.int 1)))]) (.slot 2) (.seq (.slot 0)) [] [2])]))]
/-- own is_line -/
def b18_14 : List CS :=
  [.cond (.or (.not (.isi (.slot 0) [.tuple])) (.or (.cmp .lt (.blt .len [(.slot 0)]) (.cst (.int 2))) (.not (.isi (.idx (.slot 0) (.cst (.int 0))) [.str]))))
 [.ret (.cst (.bl false))]
 [],
  .par [2, 3] [(.idx (.slot 0) (.cst (.int 0))), (.blt .len [(.slot 0)])],
  .cond (.cmp .eq (.slot 2) (.cst (.str ("hue" : Str))))
 [.ret (.and (.cmp .eq (.slot 3) (.cst (.int 3))) (.and (.call 12 [(.idx (.slot 0) (.cst (.int 1))), (.cst (.int 0)), (.cst (.int 3))]) (.call 12 [(.idx (.slot 0) (.cst (.int 2))), (.cst (.int 0)), (.cst (.int 9))])))]
 [],
  .cond (.cmp .eq (.slot 2) (.cst (.str ("same" : Str))))
 [.ret (.and (.cmp .eq (.slot 3) (.cst (.int 3))) (.and (.call 12 [(.idx (.slot 0) (.cst (.int 1))), (.cst (.int 0)), (.cst (.int 3))]) (.call 12 [(.idx (.slot 0) (.cst (.int 2))), (.cst (.int 0)), (.cst (.int 3))])))]
 [],
  .cond (.cmp .eq (.slot 2) (.cst (.str ("tie" : Str))))
 [.ret (.and (.cmp .eq (.slot 3) (.cst (.int 4))) (.blt .all [(.comp (.call 12 [(.slot 4), (.cst (.int 0)), (.cst (.int 3))]) (.slot 4) (.seq (.slc (.slot 0) (some (.cst (.int 1))) none)) [] [4])]))]
 [],
  .cond (.cmp .eq (.slot 2) (.cst (.str ("not" : Str))))
 [.ret (.and (.cmp .eq (.slot 3) (.cst (.int 2))) (.call 12 [(.idx (.slot 0) (.cst (.int 1))), (.cst (.int 0)), (.bin .sub (.slot 1) (.cst (.int 1)))]))]
 [],
  .cond (.cmp .inn (.slot 2) (.tup [(.cst (.str ("all" : Str))), (.cst (.str ("some" : Str)))]))
 [.ret (.and (.cmp .eq (.slot 3) (.cst (.int 2))) (.call 13 [(.idx (.slot 0) (.cst (.int 1))), (.slot 1)]))]
 [],
  .cond (.or (.cmp .ne (.slot 2) (.cst (.str ("many" : Str)))) (.or (.cmp .ne (.slot 3) (.cst (.int 4))) (.not (.call 12 [(.idx (.slot 0) (.cst (.int 1))), (.cst (.int 0)), (.cst (.int 3))]))))
 [.ret (.cst (.bl false))]
 [],
  .ret (.and (.call 12 [(.idx (.slot 0) (.cst (.int 2))), (.cst (.int 1)), (.cst (.int 40))]) (.call 12 [(.idx (.slot 0) (.cst (.int 3))), (.cst (.int 0)), (.bin .sub (.slot 1) (.cst (.int 1)))]))]
/-- own is_saying -/
def b18_15 : List CS :=
  [.cond (.or (.not (.isi (.slot 0) [.tuple])) (.cmp .eq (.blt .len [(.slot 0)]) (.cst (.int 0))))
 [.ret (.cst (.bl false))]
 [],
  .ret (.blt .all [(.comp (.call 14 [(.slot 2), (.slot 1)]) (.tup [(.slot 1), (.slot 2)]) (.enum (.slot 0)) [] [1, 2])])]
/-- own odd -/
def b18_16 : List CS :=
  [.asg (.slot 2) (.lst [(.cst (.int 4)), (.neg (.cst (.int 1))), (.cst (.int 41)), (.cst (.int 10)), (.cst (.int 0)), (.cst (.int 1)), (.cst (.bl true)), (.cst (.bl false)), (.cst .non), (.cst (.str ("0" : Str))), (.cst (.str ("" : Str))), (.tup [(.cst (.int 0))]), (.lst [(.cst (.int 0))]), (.tup []), (.dct []), (.cst (.int 100000000000000000000000000000)), (.slot 1), (.bin .add (.slot 1) (.cst (.int 1))), (.blt .max [(.cst (.int 0)), (.bin .sub (.slot 1) (.cst (.int 1)))])]),
  .ret (.call 8 [(.slot 0), (.bin .add (.slot 2) (.lst [(.call 11 [(.slot 0)])]))])]
/-- own bent_line -/
def b18_17 : List CS :=
  [.asg (.slot 3) (.call 7 [(.slot 0), (.cst (.int 6))]),
  .cond (.and (.cmp .inn (.idx (.slot 1) (.cst (.int 0))) (.tup [(.cst (.str ("hue" : Str))), (.cst (.str ("many" : Str))), (.cst (.str ("tie" : Str)))])) (.and (.cmp .gt (.blt .len [(.slot 1)]) (.cst (.int 2))) (.cmp .eq (.call 7 [(.slot 0), (.cst (.int 3))]) (.cst (.int 0)))))
 [.asg (.tup [(.slot 4), (.slot 5)]) (.idx (.dct [((.cst (.str ("hue" : Str))), (.tup [(.cst (.int 2)), (.lst [(.cst (.int 10)), (.cst (.int 9))])])), ((.cst (.str ("many" : Str))), (.tup [(.cst (.int 2)), (.lst [(.cst (.int 0)), (.cst (.int 41)), (.cst (.int 40)), (.cst (.int 1))])])), ((.cst (.str ("tie" : Str))), (.tup [(.cst (.int 1)), (.lst [(.cst (.int 4)), (.cst (.int 3))])]))]) (.idx (.slot 1) (.cst (.int 0)))),
  .ret (.bin .add (.bin .add (.slc (.slot 1) none (some (.slot 4))) (.tup [(.call 8 [(.slot 0), (.slot 5)])])) (.slc (.slot 1) (some (.bin .add (.slot 4) (.cst (.int 1)))) none))]
 [],
  .cond (.cmp .eq (.slot 3) (.cst (.int 0)))
 [.asg (.slot 5) (.lst [(.cst (.str ("Hue" : Str))), (.cst (.str ("" : Str))), (.cst .non), (.cst (.int 5)), (.cst (.str ("hues" : Str))), (.cst (.str ("all" : Str))), (.cst (.str ("some" : Str))), (.cst (.str ("same" : Str))), (.cst (.str ("not" : Str))), (.cst (.str ("many" : Str))), (.cst (.str ("tie" : Str))), (.tup [(.cst (.str ("not" : Str)))]), (.cst (.bl true))]),
  .ret (.bin .add (.tup [(.call 8 [(.slot 0), (.slot 5)])]) (.slc (.slot 1) (some (.cst (.int 1))) none))]
 [],
  .cond (.cmp .eq (.slot 3) (.cst (.int 1)))
 [.ret (.call 8 [(.slot 0), (.lst [(.bin .add (.slot 1) (.tup [(.cst (.int 0))])), (.slc (.slot 1) none (some (.neg (.cst (.int 1))))), (.slc (.slot 1) none (some (.cst (.int 1)))), (.blt .list [(.slot 1)]), (.slc (.slot 1) (some (.cst (.int 1))) none), (.bin .add (.slot 1) (.slc (.slot 1) none (some (.cst (.int 1)))))])])]
 [],
  .cond (.and (.cmp .eq (.slot 3) (.cst (.int 2))) (.and (.cmp .inn (.idx (.slot 1) (.cst (.int 0))) (.tup [(.cst (.str ("all" : Str))), (.cst (.str ("some" : Str)))])) (.isi (.idx (.slot 1) (.cst (.int 1))) [.tuple])))
 [.asg (.slot 5) (.lst [(.blt .list [(.idx (.slot 1) (.cst (.int 1)))]), (.bin .add (.idx (.slot 1) (.cst (.int 1))) (.tup [(.call 16 [(.slot 0), (.slot 2)])])), (.bin .add (.tup [(.call 16 [(.slot 0), (.slot 2)])]) (.idx (.slot 1) (.cst (.int 1)))), (.cst .non), (.slot 2), (.tup [(.idx (.slot 1) (.cst (.int 1)))])]),
  .ret (.tup [(.idx (.slot 1) (.cst (.int 0))), (.call 8 [(.slot 0), (.slot 5)])])]
 [],
  .cond (.cmp .eq (.slot 3) (.cst (.int 3)))
 [.ret (.call 16 [(.slot 0), (.slot 2)])]
 [],
  .asg (.slot 4) (.bin .add (.cst (.int 1)) (.call 7 [(.slot 0), (.bin .sub (.blt .len [(.slot 1)]) (.cst (.int 1)))])),
  .ret (.bin .add (.bin .add (.slc (.slot 1) none (some (.slot 4))) (.tup [(.call 16 [(.slot 0), (.slot 2)])])) (.slc (.slot 1) (some (.bin .add (.slot 4) (.cst (.int 1)))) none))]
/-- own just_out -/
def b18_18 : List CS :=
  [.asg (.slot 3) (.idx (.slot 1) (.cst (.int 0))),
  .asg (.slot 4) (.comp (.slot 6) (.slot 6) (.rng [(.cst (.int 1)), (.blt .len [(.slot 1)])]) [(.cmp .eq (.idx (.slot 1) (.slot 6)) (.cst (.int 1)))] [6]),
  .cond (.and (.cmp .gt (.blt .len [(.slot 4)]) (.cst (.int 0))) (.cmp .eq (.call 7 [(.slot 0), (.cst (.int 4))]) (.cst (.int 0))))
 [.ret (.bin .add (.bin .add (.slc (.slot 1) none (some (.idx (.slot 4) (.cst (.int 0))))) (.tup [(.cst (.bl true))])) (.slc (.slot 1) (some (.bin .add (.idx (.slot 4) (.cst (.int 0))) (.cst (.int 1)))) none))]
 [],
  .cond (.cmp .eq (.slot 3) (.cst (.str ("hue" : Str))))
 [.ret (.call 8 [(.slot 0), (.lst [(.tup [(.cst (.str ("hue" : Str))), (.cst (.int 4)), (.idx (.slot 1) (.cst (.int 2)))]), (.tup [(.cst (.str ("hue" : Str))), (.idx (.slot 1) (.cst (.int 1))), (.cst (.int 10))]), (.tup [(.cst (.str ("hue" : Str))), (.idx (.slot 1) (.cst (.int 1))), (.neg (.cst (.int 1)))])])])]
 [],
  .cond (.cmp .eq (.slot 3) (.cst (.str ("same" : Str))))
 [.ret (.call 8 [(.slot 0), (.lst [(.tup [(.cst (.str ("same" : Str))), (.idx (.slot 1) (.cst (.int 1))), (.cst (.int 4))]), (.tup [(.cst (.str ("same" : Str))), (.cst (.int 4)), (.idx (.slot 1) (.cst (.int 2)))])])])]
 [],
  .cond (.cmp .eq (.slot 3) (.cst (.str ("tie" : Str))))
 [.ret (.call 8 [(.slot 0), (.lst [(.bin .add (.tup [(.cst (.str ("tie" : Str))), (.cst (.int 4))]) (.slc (.slot 1) (some (.cst (.int 2))) none)), (.bin .add (.slc (.slot 1) none (some (.cst (.int 2)))) (.tup [(.cst (.int 4)), (.idx (.slot 1) (.cst (.int 3)))])), (.bin .add (.slc (.slot 1) none (some (.cst (.int 3)))) (.tup [(.cst (.int 4))]))])])]
 [],
  .cond (.cmp .eq (.slot 3) (.cst (.str ("not" : Str))))
 [.ret (.call 8 [(.slot 0), (.lst [(.tup [(.cst (.str ("not" : Str))), (.slot 2)]), (.tup [(.cst (.str ("not" : Str))), (.neg (.cst (.int 1)))])])])]
 [],
  .cond (.cmp .eq (.slot 3) (.cst (.str ("many" : Str))))
 [.asg (.slot 5) (.lst [(.bin .add (.tup [(.cst (.str ("many" : Str))), (.cst (.int 4))]) (.slc (.slot 1) (some (.cst (.int 2))) none)), (.bin .add (.slc (.slot 1) none (some (.cst (.int 2)))) (.tup [(.cst (.int 0)), (.idx (.slot 1) (.cst (.int 3)))])), (.bin .add (.slc (.slot 1) none (some (.cst (.int 2)))) (.tup [(.cst (.int 41)), (.idx (.slot 1) (.cst (.int 3)))])), (.bin .add (.slc (.slot 1) none (some (.cst (.int 3)))) (.tup [(.slot 2)]))]),
  .ret (.call 8 [(.slot 0), (.bin .add (.slot 5) (.lst [(.bin .add (.slc (.slot 1) none (some (.cst (.int 3)))) (.tup [(.neg (.cst (.int 1)))]))]))])]
 [],
  .ret (.tup [(.slot 3), (.call 8 [(.slot 0), (.lst [(.bin .add (.idx (.slot 1) (.cst (.int 1))) (.tup [(.slot 2)])), (.bin .add (.tup [(.slot 2)]) (.idx (.slot 1) (.cst (.int 1)))), (.bin .add (.idx (.slot 1) (.cst (.int 1))) (.tup [(.neg (.cst (.int 1)))])), (.blt .list [(.idx (.slot 1) (.cst (.int 1)))])])])])]
/-- own bent -/
def b18_19 : List CS :=
  [.cond (.cmp .eq (.call 7 [(.slot 0), (.cst (.int 6))]) (.cst (.int 0)))
 [.asg (.slot 2) (.lst [(.blt .list [(.slot 1)]), (.tup []), (.cst .non), (.idx (.slot 1) (.cst (.int 0))), (.bin .add (.slot 1) (.tup [(.cst .non)])), (.slc (.slot 1) (some (.cst (.int 1))) none), (.tup [(.slot 1)]), (.rev (.slot 1)), (.cst (.bl true)), (.cst (.str ("hue" : Str)))]),
  .ret (.call 8 [(.slot 0), (.bin .add (.slot 2) (.lst [(.dct []), (.cst (.int 0)), (.call 11 [(.slot 0)]), (.bin .add (.slot 1) (.slot 1))]))])]
 [],
  .asg (.slot 3) (.call 7 [(.slot 0), (.blt .len [(.slot 1)])]),
  .asg (.slot 4) (.idx (.slot 1) (.slot 3)),
  .cond (.or (.not (.isi (.slot 4) [.tuple])) (.cmp .lt (.blt .len [(.slot 4)]) (.cst (.int 2))))
 [.ret (.slot 1)]
 [],
  .ret (.bin .add (.bin .add (.slc (.slot 1) none (some (.slot 3))) (.tup [(.call 17 [(.slot 0), (.slot 4), (.slot 3)])])) (.slc (.slot 1) (some (.bin .add (.slot 3) (.cst (.int 1)))) none))]
/-- own flag -/
def b18_20 : List CS :=
  [.ret (.and (.isi (.slot 0) [.bool]) (.cmp .eq (.slot 0) (.slot 1)))]
/-- own long_right -/
def b18_21 : List CS :=
  [.asg (.slot 1) (.call 10 [(.slot 0), (.bin .add (.cst (.int 1000)) (.call 7 [(.slot 0), (.cst (.int 3000))])), (.cst (.int 4)), (.cst (.int 8))]),
  .cond (.not (.call 20 [(.call 5 [(.slot 1)]), (.cst (.bl true))]))
 [.ret (.cst (.bl false))]
 [],
  .asg (.slot 2) (.bin .sub (.bin .sub (.blt .len [(.slot 1)]) (.cst (.int 1))) (.call 7 [(.slot 0), (.cst (.int 20))])),
  .asg (.slot 3) (.bin .add (.bin .add (.slc (.slot 1) none (some (.slot 2))) (.tup [(.call 17 [(.slot 0), (.idx (.slot 1) (.slot 2)), (.slot 2)])])) (.slc (.slot 1) (some (.bin .add (.slot 2) (.cst (.int 1)))) none)),
  .ret (.call 20 [(.call 5 [(.slot 3)]), (.call 15 [(.slot 3)])])]
/-- law -/
def b18_22 : List CS :=
  [.asg (.slot 1) (.call 6 [(.slot 0)]),
  .cond (.and (.cmp .eq (.call 7 [(.slot 1), (.cst (.int 10))]) (.cst (.int 0))) (.not (.call 21 [(.slot 1)])))
 [.ret (.cst (.bl false))]
 [],
  .loop (.slot 2) (.rng [(.cst (.int 8))])
 [.asg (.slot 3) (.call 10 [(.slot 1), (.bin .add (.cst (.int 1)) (.call 7 [(.slot 1), (.cst (.int 12))])), (.bin .add (.cst (.int 1)) (.call 7 [(.slot 1), (.cst (.int 4))])), (.call 8 [(.slot 1), (.lst [(.cst (.int 2)), (.cst (.int 5)), (.cst (.int 8)), (.cst (.int 9))])])]),
  .cond (.or (.not (.call 20 [(.call 5 [(.slot 3)]), (.cst (.bl true))])) (.not (.call 15 [(.slot 3)])))
 [.ret (.cst (.bl false))]
 [],
  .loop (.tup [(.slot 4), (.slot 5)]) (.enum (.slot 3))
 [.cond (.not (.call 20 [(.call 5 [(.bin .add (.bin .add (.slc (.slot 3) none (some (.slot 4))) (.tup [(.call 18 [(.slot 1), (.slot 5), (.slot 4)])])) (.slc (.slot 3) (some (.bin .add (.slot 4) (.cst (.int 1)))) none))]), (.cst (.bl false))]))
 [.ret (.cst (.bl false))]
 []],
  .asg (.slot 6) (.slot 3),
  .loop (.slot 7) (.rng [(.bin .add (.cst (.int 1)) (.call 7 [(.slot 1), (.cst (.int 3))]))])
 [.asg (.slot 6) (.ite (.and (.isi (.slot 6) [.tuple]) (.cmp .gt (.blt .len [(.slot 6)]) (.cst (.int 0)))) (.call 19 [(.slot 1), (.slot 6)]) (.slot 6)),
  .cond (.not (.call 20 [(.call 5 [(.slot 6)]), (.call 15 [(.slot 6)])]))
 [.ret (.cst (.bl false))]
 []]],
  .ret (.call 20 [(.call 5 [(.call 16 [(.slot 1), (.cst (.int 0))])]), (.cst (.bl false))])]
structure Is18 (P : CProg) : Prop where
  d0 : Def P 0 1 1 b18_0
  d1 : Def P 1 1 1 b18_1
  d2 : Def P 2 2 2 b18_2
  d3 : Def P 3 2 4 b18_3
  d4 : Def P 4 2 5 b18_4
  d5 : Def P 5 1 3 b18_5
  d6 : Def P 6 1 3 bPot
  d7 : Def P 7 2 5 bDraw
  d8 : Def P 8 2 2 (bAny 7)
  d9 : Def P 9 4 10 b18_9
  d10 : Def P 10 4 5 b18_10
  d11 : Def P 11 1 3 b18_11
  d12 : Def P 12 3 3 b18_12
  d13 : Def P 13 2 3 b18_13
  d14 : Def P 14 2 5 b18_14
  d15 : Def P 15 1 3 b18_15
  d16 : Def P 16 2 3 b18_16
  d17 : Def P 17 3 6 b18_17
  d18 : Def P 18 3 7 b18_18
  d19 : Def P 19 2 5 b18_19
  d20 : Def P 20 2 2 b18_20
  d21 : Def P 21 1 4 b18_21
  d22 : Def P 22 1 8 b18_22
end Kin
end
section
set_option linter.all false
set_option maxRecDepth 100000
namespace Kin
open PySem
local macro_rules | `(tactic| walk_at "go") => `(tactic| try simp only [wps_nil, wps_cons, wps_ex, wps_asg, wps_par, wps_ret, wps_cond, wps_loop, wps_brk, wps_cont, wps_pass, wp_ret, wp_slot, wp_cst, wp_tup, wp_lst, wp_bin, wp_neg, wp_cmp, wp_chain, wp_and, wp_or, wp_not, wp_ifx, wp_idx, wp_slc, wp_rev, wp_call, wp_meth, wp_blt, wp_listR, wp_isi, wp_comp, wp_dct, wp_nil, wp_cons, wp_knil, wp_kcons, wp_onone, wp_osome, wp_iseq, wp_irng, wp_ienum, wp_izip, wp_tslot, wp_ttup, wp_titem, wp_tnil, wp_tcons, wp_fnil, wp_fone, wp_ok, wp_of1, wp_of, wp_of1n, wp_ofn, wp_onB, wp_onBn, wp_calm, wp_bind, wp_ite, wp_exc, wp_bad,
  getL_0, getL_s, bin_add, bin_sub, bin_mul, bin_fdiv, bin_mod, bin_tup, bin_str, cmp_lt, cmp_le, cmp_gt, cmp_ge, cmp_eqI, cmp_eqS, cmp_neI, cmp_neS, cmp_eqB, in_str2, in_str3, truth_bl, truth_int, truth_tup, truth_non, neg_int, intOf_int, tupOf_tup, idx_tup, idx_ref, idxO_lst, atI_0, atI_1, atI_2, atI_3, atI_4, cut_from, cut_to, List.drop_succ_cons, List.drop_zero, List.take_succ_cons, List.take_zero, List.drop_nil, List.take_nil, Int.reduceLE, Int.reduceBEq, blsD_map, blsD_cons, blsD_nil, set_ref, setO_cons, isList_ref, Option.isSome_some, Int.reduceLE, Int.reduceLT, Int.cast_ofNat_Int, Int.reduceToNat, List.getElem?_cons_succ, List.getElem?_cons_zero, Int.reduceNeg, Int.reduceAdd, at_new, and_self, or_true, true_or, true_and, and_true, Int.reducePow, Int.reduceSub, Int.reduceMul, seq_ref, seqO_lst, seqO_frz, lst_ref, lstO_lst, len_ref, list_ref, tuple_ref, all_ref, any_ref, add_ref, slc_ref, len_tup, list_tup, int_int, int_bl, abs_int, max_int, min_int, slc_tup, rev_tup, seqWk_tup, zipWk_tup, rng_one, rng_two, wkEnum_items, Option.map_some, Option.bind_some, setAll,
  List.set_cons_zero, List.set_cons_succ, List.set_set, List.foldl_nil, List.foldl_cons, List.length_cons, List.length_nil, List.map_cons, List.map_nil, List.cons_append, List.nil_append, List.replicate_succ, List.replicate_zero, Nat.reduceAdd, Nat.reduceSub, Bool.not_true, Bool.not_false, if_true, if_false, Bool.false_eq_true, decide_eq_true_eq, Nat.reduceLeDiff, lim_lit, wipe, isi_tup, isi_str, isi_int, isi_bool, Bool.and_true, Bool.and_false, Bool.true_and, Bool.false_and, tpB_tup, tpB_str, tpB_bl, tpB_int, tpB_non, tpB_ref, isStr_tup, isStr_str, isStr_bl, isStr_int, isStr_non, isStr_ref, isBl_tup, isBl_str, isBl_bl, isBl_int, isBl_non, isBl_ref, isInt_tup, isInt_str, isInt_bl, isInt_int, isInt_non, isInt_ref])
local macro_rules | `(tactic| walk_at "goh") => `(tactic| try simp only [*, Int.reduceBEq, wps_nil, wps_cons, wps_ex, wps_asg, wps_par, wps_ret, wps_cond, wps_loop, wps_brk, wps_cont, wps_pass, wp_ret, wp_slot, wp_cst, wp_tup, wp_lst, wp_bin, wp_neg, wp_cmp, wp_chain, wp_and, wp_or, wp_not, wp_ifx, wp_idx, wp_slc, wp_rev, wp_call, wp_meth, wp_blt, wp_listR, wp_isi, wp_comp, wp_dct, wp_nil, wp_cons, wp_knil, wp_kcons, wp_onone, wp_osome, wp_iseq, wp_irng, wp_ienum, wp_izip, wp_tslot, wp_ttup, wp_titem, wp_tnil, wp_tcons, wp_fnil, wp_fone, wp_ok, wp_of1, wp_of, wp_of1n, wp_ofn, wp_onB, wp_onBn, wp_calm, wp_bind, wp_ite, wp_exc, wp_bad,
  getL_0, getL_s, bin_add, bin_sub, bin_mul, bin_fdiv, bin_mod, bin_tup, bin_str, cmp_lt, cmp_le, cmp_gt, cmp_ge, cmp_eqI, cmp_eqS, cmp_neI, cmp_neS, cmp_eqB, in_str2, in_str3, truth_bl, truth_int, truth_tup, truth_non, neg_int, intOf_int, tupOf_tup, idx_tup, idx_ref, idxO_lst, atI_0, atI_1, atI_2, atI_3, atI_4, cut_from, cut_to, List.drop_succ_cons, List.drop_zero, List.take_succ_cons, List.take_zero, List.drop_nil, List.take_nil, Int.reduceLE, blsD_map, blsD_cons, blsD_nil, set_ref, setO_cons, isList_ref, Option.isSome_some, Int.reduceLE, Int.reduceLT, Int.cast_ofNat_Int, Int.reduceToNat, List.getElem?_cons_succ, List.getElem?_cons_zero, Int.reduceNeg, Int.reduceAdd, at_new, and_self, or_true, true_or, true_and, and_true, Int.reducePow, Int.reduceSub, Int.reduceMul, seq_ref, seqO_lst, seqO_frz, lst_ref, lstO_lst, len_ref, list_ref, tuple_ref, all_ref, any_ref, add_ref, slc_ref, len_tup, list_tup, int_int, int_bl, abs_int, max_int, min_int, slc_tup, rev_tup, seqWk_tup, zipWk_tup, rng_one, rng_two, wkEnum_items, Option.map_some, Option.bind_some, setAll,
  List.set_cons_zero, List.set_cons_succ, List.set_set, List.foldl_nil, List.foldl_cons, List.length_cons, List.length_nil, List.map_cons, List.map_nil, List.cons_append, List.nil_append, List.replicate_succ, List.replicate_zero, Nat.reduceAdd, Nat.reduceSub, Bool.not_true, Bool.not_false, if_true, if_false, Bool.false_eq_true, decide_eq_true_eq, Nat.reduceLeDiff, lim_lit, wipe, isi_tup, isi_str, isi_int, isi_bool, Bool.and_true, Bool.and_false, Bool.true_and, Bool.false_and, tpB_tup, tpB_str, tpB_bl, tpB_int, tpB_non, tpB_ref, isStr_tup, isStr_str, isStr_bl, isStr_int, isStr_non, isStr_ref, isBl_tup, isBl_str, isBl_bl, isBl_int, isBl_non, isBl_ref, isInt_tup, isInt_str, isInt_bl, isInt_int, isInt_non, isInt_ref])
local macro_rules | `(tactic| walk_at "dr") => `(tactic| (refine draw_ok (by assumption) (by assumption) (by first | assumption | omega | decide) (by first | omega | decide) ?_; intro r A' r0 r1 hp f))
local macro_rules | `(tactic| walk_at "an") => `(tactic| (refine any_ok (by assumption) (by assumption) (Pot.snoc (by assumption) _) at_new (Nat.ne_of_gt (Pot.lt (by assumption))) (by simp) (by simp) ?_; intro d A' hm hp f))
local macro_rules | `(tactic| walk_at "fr") => `(tactic| repeat first | exact Fr.refl _ _ | assumption | refine Fr.snoc ?_ _ | refine Fr.trans ?_ (by assumption) | refine Fr.trans ?_ (Fr.nil (by assumption)))
local macro_rules | `(tactic| walk_at "g1") => `(tactic| try simp only [*, wps_nil, wps_ex, wps_asg, wps_par, wps_ret, wps_cond, wps_loop, wps_brk, wps_cont, wps_pass, wp_ret, wp_slot, wp_cst, wp_tup, wp_lst, wp_bin, wp_neg, wp_cmp, wp_chain, wp_and, wp_or, wp_not, wp_ifx, wp_idx, wp_slc, wp_rev, wp_call, wp_meth, wp_blt, wp_listR, wp_isi, wp_comp, wp_dct, wp_nil, wp_cons, wp_knil, wp_kcons, wp_onone, wp_osome, wp_iseq, wp_irng, wp_ienum, wp_izip, wp_tslot, wp_ttup, wp_titem, wp_tnil, wp_tcons, wp_fnil, wp_fone, wp_ok, wp_of1, wp_of, wp_of1n, wp_ofn, wp_onB, wp_onBn, wp_calm, wp_bind, wp_ite, wp_exc, wp_bad,
  getL_0, getL_s, bin_add, bin_sub, bin_mul, bin_fdiv, bin_mod, bin_tup, bin_str, cmp_lt, cmp_le, cmp_gt, cmp_ge, cmp_eqI, cmp_eqS, cmp_neI, cmp_neS, cmp_eqB, in_str2, in_str3, truth_bl, truth_int, truth_tup, truth_non, neg_int, intOf_int, tupOf_tup, idx_tup, idx_ref, idxO_lst, atI_0, atI_1, atI_2, atI_3, atI_4, cut_from, cut_to, List.drop_succ_cons, List.drop_zero, List.take_succ_cons, List.take_zero, List.drop_nil, List.take_nil, Int.reduceLE, Int.reduceBEq, blsD_map, blsD_cons, blsD_nil, set_ref, setO_cons, isList_ref, Option.isSome_some, Int.reduceLE, Int.reduceLT, Int.cast_ofNat_Int, Int.reduceToNat, List.getElem?_cons_succ, List.getElem?_cons_zero, Int.reduceNeg, Int.reduceAdd, at_new, and_self, or_true, true_or, true_and, and_true, Int.reducePow, Int.reduceSub, Int.reduceMul, seq_ref, seqO_lst, seqO_frz, lst_ref, lstO_lst, len_ref, list_ref, tuple_ref, all_ref, any_ref, add_ref, slc_ref, len_tup, list_tup, int_int, int_bl, abs_int, max_int, min_int, slc_tup, rev_tup, seqWk_tup, zipWk_tup, rng_one, rng_two, wkEnum_items, Option.map_some, Option.bind_some, setAll,
  List.set_cons_zero, List.set_cons_succ, List.set_set, List.foldl_nil, List.foldl_cons, List.length_cons, List.length_nil, List.map_cons, List.map_nil, List.cons_append, List.nil_append, List.replicate_succ, List.replicate_zero, Nat.reduceAdd, Nat.reduceSub, Bool.not_true, Bool.not_false, if_true, if_false, Bool.false_eq_true, decide_eq_true_eq, Nat.reduceLeDiff, lim_lit, wipe, isi_tup, isi_str, isi_int, isi_bool, Bool.and_true, Bool.and_false, Bool.true_and, Bool.false_and, tpB_tup, tpB_str, tpB_bl, tpB_int, tpB_non, tpB_ref, isStr_tup, isStr_str, isStr_bl, isStr_int, isStr_non, isStr_ref, isBl_tup, isBl_str, isBl_bl, isBl_int, isBl_non, isBl_ref, isInt_tup, isInt_str, isInt_bl, isInt_int, isInt_non, isInt_ref])
/-! the judge -/
def below (m : Int) : D → Bool
  | .int i => decide (0 ≤ i) && decide (i < m)
  | _ => false
def numB (lo hi : Int) : D → Bool
  | .int i => decide (lo ≤ i) && decide (i ≤ hi)
  | _ => false
section
variable {P : CProg} {k : Nat} {A : AH} {Q : D → AH → Prop} {E : Ex → AH → Prop}
theorem below18 (h : Is18 P) {m : Int} {d : D} : Wp ((fns P (k + 3)).call 2 [.int m, d] A) Q E ↔ Q (.bl (below m d)) A := by
  rw [wp_def h.d2 rfl]; unfold b18_2; walk_at "go"
  rw [wp_def h.d1 rfl]; unfold b18_1; walk_at "go"
  rw [wp_def h.d0 rfl]; unfold b18_0; walk_at "go"
  cases d with
  | int i =>
    simp only [isInt, isBl]
    walk_at "go"
    by_cases c : 0 ≤ i <;> simp [c, below]
  | _ => simp [isInt, isBl, below, truthD, onB, Wp]
theorem num18 (h : Is18 P) {lo hi : Int} {d : D} : Wp ((fns P (k + 1)).call 12 [d, .int lo, .int hi] A) Q E ↔ Q (.bl (numB lo hi d)) A := by
  rw [wp_def h.d12 rfl]; unfold b18_12; walk_at "go"
  cases d with
  | int i =>
    simp only [isInt, isBl]
    walk_at "go"
    by_cases c : lo ≤ i <;> simp [c, numB]
  | _ => simp [isInt, isBl, numB, truthD, onB, Wp]
def fits (ps : List D) (bs : List Int) : Bool := decide (ps.length = bs.length) && (bs.zip ps).all fun p => below p.1 p.2
theorem fits18 (h : Is18 P) {ps : List D} {bs : List Int} (hb : bs.length < 1000) (go : ∀ A', Fr [] A A' → Q (.bl (fits ps bs)) A') : Wp ((fns P (k + 4)).call 3 [.tup ps, .tup (bs.map .int)] A) Q E := by
  rw [wp_def h.d3 rfl]; unfold b18_3; walk_at "go"
  by_cases c : ps.length = bs.length
  · simp only [c, List.length_map, beq_self_eq_true, if_true]
    refine comp_map (g := fun d => match d with | .tup [.int m, x] => .bl (below m x) | _ => .non) (Fr [] A) (by simp [fuel]; omega) (Fr.refl _ _) (fun d acc A' hd ha hf => ?_) fun A' hf => ?_
    · obtain ⟨⟨x, y⟩, hxy, rfl⟩ := List.mem_map.mp hd
      obtain ⟨m, _, rfl⟩ := List.mem_map.mp (List.of_mem_zip hxy).1
      walk_at "go"
      rw [below18 h]
      walk_at "goh"
    · have e : List.map (fun d => match d with | .tup [.int m, x] => .bl (below m x) | _ => .non) (List.map (fun p : D × D => D.tup [p.1, p.2]) ((bs.map D.int).zip ps)) = ((bs.zip ps).map fun p => below p.1 p.2).map D.bl := by
        rw [List.map_map, List.zip_map_left, List.map_map, List.map_map]
        exact List.map_congr_left fun p _ => rfl
      rw [e]
      walk_at "go"
      have z := go (A' ++ [.lst (((bs.zip ps).map fun p => below p.1 p.2).map D.bl)]) (hf.snoc _)
      simpa [fits, c] using z
  · have z := go A (Fr.refl _ _)
    have e : ((ps.length : Int) == ((bs.map D.int).length : Nat)) = false := by
      rw [List.length_map]
      simp only [beq_eq_false_iff_ne, ne_eq]
      omega
    simp only [e, Bool.false_eq_true, if_false]
    simpa [fits, c] using z
def allB (a : Int) : D → Bool
  | .tup ts => ts.all (below a)
  | _ => false
def JL (a : Int) : D → Bool
  | .tup (.str w :: p :: ps) =>
    if w = ("hue" : Str) then fits (p :: ps) [4, 10]
    else if w = ("same" : Str) then fits (p :: ps) [4, 4]
    else if w = ("tie" : Str) then fits (p :: ps) [4, 4, 4]
    else if w = ("not" : Str) then fits (p :: ps) [a]
    else if w = ("many" : Str) then fits (p :: ps) [4, 41, a] && (match ps with | .int i :: _ => decide (0 < i) | _ => false)
    else if w = ("all" : Str) ∨ w = ("some" : Str) then ps.isEmpty && allB a p
    else false
  | _ => false
theorem below_int {m : Int} {d : D} (h : below m d = true) : ∃ i, d = .int i ∧ 0 ≤ i ∧ i < m := by
  cases d with
  | int i =>
    simp only [below, Bool.and_eq_true, decide_eq_true_eq] at h
    exact ⟨i, rfl, h⟩
  | _ => cases h
theorem fits3 {p : D} {ps : List D} {a b c : Int} (h : fits (p :: ps) [a, b, c] = true) : ∃ i q, ps = [.int i, q] := by
  match ps, h with
  | [], h => simp [fits] at h
  | [_], h => simp [fits] at h
  | [x, y], h =>
    simp only [fits, List.zip_cons_cons, List.all_cons, Bool.and_eq_true] at h
    obtain ⟨i, rfl, _⟩ := below_int h.2.2.1
    exact ⟨i, y, rfl⟩
  | _ :: _ :: _ :: _, h => simp [fits] at h
theorem two_if {c d F X : Prop} {_ : Decidable (¬ c)} {_ : Decidable (¬ d)} (hX : c ∨ d → X) (hF : ¬ (c ∨ d) → F) : if ¬ c then (if ¬ d then F else X) else (if ¬ c then F else X) := by
  by_cases h : c
  · rw [if_neg (not_not_intro h), if_neg (not_not_intro h)]; exact hX (.inl h)
  · rw [if_pos h]
    by_cases g : d
    · rw [if_neg (not_not_intro g)]; exact hX (.inr g)
    · rw [if_pos g]; exact hF (by simp [h, g])
theorem line18 (h : Is18 P) {a : Int} {d : D} {N : Nat} (hd : okD 999999 N d) (go : ∀ A', Fr [] A A' → Q (.bl (JL a d)) A') : Wp ((fns P (k + 5)).call 4 [.int a, d] A) Q E := by
  rw [wp_def h.d4 rfl]; unfold b18_4
  have z := go A (Fr.refl _ _)
  rw [wps_cons]
  match d, hd with
  | .non, _ => walk_at "go"; simpa [tpB, JL] using z
  | .bl _, _ => walk_at "go"; simpa [tpB, JL] using z
  | .int _, _ => walk_at "go"; simpa [tpB, JL] using z
  | .str _, _ => walk_at "go"; simpa [tpB, JL] using z
  | .ref _, _ => walk_at "go"; simpa [tpB, JL] using z
  | .tup [], _ => walk_at "go"; simpa [tpB, JL] using z
  | .tup [x], _ => walk_at "go"; simpa [tpB, JL] using z
  | .tup (x :: p :: ps), hd =>
    walk_at "goh"
    have e1 : ¬ (((ps.length + 1 + 1 : Nat) : Int) < 2) := by omega
    walk_at "goh"
    match x, hd with
    | .non, _ => walk_at "go"; simpa [JL] using z
    | .bl _, _ => walk_at "go"; simpa [JL] using z
    | .int _, _ => walk_at "go"; simpa [JL] using z
    | .tup _, _ => walk_at "go"; simpa [JL] using z
    | .ref _, _ => walk_at "go"; simpa [JL] using z
    | .str w, hd =>
      walk_at "go"
      simp only [beq_iff_eq]
      by_cases c1 : w = ("hue" : Str)
      · simp only [JL, if_pos c1] at go ⊢
        exact fits18 h (bs := [4, 10]) (by simp) go
      by_cases c2 : w = ("same" : Str)
      · simp only [JL, if_neg c1, if_pos c2] at go ⊢
        exact fits18 h (bs := [4, 4]) (by simp) go
      by_cases c3 : w = ("tie" : Str)
      · simp only [JL, if_neg c1, if_neg c2, if_pos c3] at go ⊢
        exact fits18 h (bs := [4, 4, 4]) (by simp) go
      by_cases c4 : w = ("not" : Str)
      · simp only [JL, if_neg c1, if_neg c2, if_neg c3, if_pos c4] at go ⊢
        exact fits18 h (bs := [a]) (by simp) go
      by_cases c5 : w = ("many" : Str)
      · simp only [JL, if_neg c1, if_neg c2, if_neg c3, if_neg c4, if_pos c5] at go ⊢
        refine fits18 h (bs := [4, 41, a]) (by simp) fun A' hf => ?_
        have z := go A' hf
        by_cases f : fits (p :: ps) [4, 41, a] = true
        · obtain ⟨i, q, e⟩ := fits3 f
          subst e
          walk_at "goh"
          simpa [f] using z
        · walk_at "goh"
          simpa [f] using z
      simp only [JL, if_neg c1, if_neg c2, if_neg c3, if_neg c4, if_neg c5] at go z ⊢
      simp only [Bool.not_eq_true', beq_eq_false_iff_ne, ne_eq]
      refine two_if (fun c => ?_) fun c => ?_
      · simp only [if_pos c] at go z
        cases ps with
        | cons y ys =>
          have e2 : ¬ ((((y :: ys).length + 1 : Nat) : Int) = 1) := by
            simp only [List.length_cons]
            omega
          have e3 : ((((y :: ys).length + 1 : Nat) : Int) == 1) = false := by simpa using e2
          rw [if_neg e2, e3]
          exact z
        | nil =>
          match p, hd with
          | .non, _ => walk_at "go"; simpa [allB] using z
          | .bl _, _ => walk_at "go"; simpa [allB] using z
          | .int _, _ => walk_at "go"; simpa [allB] using z
          | .str _, _ => walk_at "go"; simpa [allB] using z
          | .ref _, _ => walk_at "go"; simpa [allB] using z
          | .tup ts, hd =>
            rw [if_pos (by rfl)]
            walk_at "go"
            refine comp_map (g := fun d => .bl (below a d)) (Fr [] A) (by have := hd.2.2.1.1; unfold fuel; omega) (Fr.refl _ _) (fun d acc A' hd ha hf => ?_) fun A' hf => ?_
            · walk_at "go"
              rw [below18 h]
              walk_at "goh"
            · rw [show ts.map (fun d => D.bl (below a d)) = (ts.map (below a)).map D.bl by rw [List.map_map]; rfl]
              walk_at "go"
              have z := go (A' ++ [.lst ((ts.map (below a)).map D.bl)]) (hf.snoc _)
              simpa [allB] using z
      · rw [if_neg c] at z
        exact z
theorem mem_zipIdx_fst {α : Type} {l : List α} {p : α × Nat} (h : p ∈ l.zipIdx) : p.1 ∈ l := by
  obtain ⟨i, hi⟩ := List.mem_iff_getElem?.mp h
  rw [List.getElem?_zipIdx] at hi
  cases e : l[i]? with
  | none => rw [e] at hi; cases hi
  | some y => rw [e] at hi; cases hi; exact List.mem_of_getElem? e
def JS : D → Bool
  | .tup ds => !ds.isEmpty && ds.zipIdx.all fun p => JL (p.2 : Nat) p.1
  | _ => false
theorem saying18 (h : Is18 P) {d : D} {N : Nat} (hd : okD 999999 N d) (go : ∀ A', Fr [] A A' → Q (.bl (JS d)) A') : Wp ((fns P (k + 6)).call 5 [d] A) Q E := by
  rw [wp_def h.d5 rfl]; unfold b18_5
  have z := go A (Fr.refl _ _)
  match d, hd with
  | .non, _ => walk_at "go"; simpa [JS] using z
  | .bl _, _ => walk_at "go"; simpa [JS] using z
  | .int _, _ => walk_at "go"; simpa [JS] using z
  | .str _, _ => walk_at "go"; simpa [JS] using z
  | .ref _, _ => walk_at "go"; simpa [JS] using z
  | .tup [], _ => walk_at "go"; simpa [JS] using z
  | .tup (x :: ds), hd =>
    walk_at "go"
    simp only [List.isEmpty_cons, Bool.not_false, Bool.not_true, Bool.false_eq_true, if_false]
    have hd2 := okDs_iff.mp hd.2
    have hl := hd.1
    refine comp_map (g := fun d => match d with | .tup [.int m, x] => .bl (JL m x) | _ => .non) (Fr [] A) (by rw [List.length_map, List.length_zipIdx]; unfold fuel; omega) (Fr.refl _ _) (fun d acc A' hm ha hf => ?_) fun A' hf => ?_
    · obtain ⟨⟨y, i⟩, hy, rfl⟩ := List.mem_map.mp hm
      walk_at "go"
      refine line18 h (hd2 y (mem_zipIdx_fst hy)) fun A'' hf' => ?_
      have hf2 := hf.trans hf'
      walk_at "goh"
    · rw [show List.map (fun d => match d with | .tup [.int m, x] => .bl (JL m x) | _ => .non) (List.map (fun p : D × Nat => D.tup [.int (p.2 : Nat), p.1]) (x :: ds).zipIdx) = ((x :: ds).zipIdx.map fun p => JL (p.2 : Nat) p.1).map D.bl by
        rw [List.map_map, List.map_map]; exact List.map_congr_left fun p _ => rfl]
      walk_at "go"
      have z := go (A' ++ [.lst (((x :: ds).zipIdx.map fun p => JL (p.2 : Nat) p.1).map D.bl)]) (hf.snoc _)
      simpa [JS, Function.comp_def] using z
theorem numB_below {a : Int} {d : D} : numB 0 (a - 1) d = below a d := by
  cases d with
  | int i => simp only [numB, below, Int.le_sub_one_iff]
  | _ => rfl
theorem lines18 (h : Is18 P) {a : Int} {d : D} {N : Nat} (hd : okD 999999 N d) (go : ∀ A', Fr [] A A' → Q (.bl (allB a d)) A') : Wp ((fns P (k + 2)).call 13 [d, .int a] A) Q E := by
  rw [wp_def h.d13 rfl]; unfold b18_13
  have z := go A (Fr.refl _ _)
  match d, hd with
  | .non, _ => walk_at "go"; simpa [allB] using z
  | .bl _, _ => walk_at "go"; simpa [allB] using z
  | .int _, _ => walk_at "go"; simpa [allB] using z
  | .str _, _ => walk_at "go"; simpa [allB] using z
  | .ref _, _ => walk_at "go"; simpa [allB] using z
  | .tup ts, hd =>
    walk_at "go"
    refine comp_map (g := fun d => .bl (below a d)) (Fr [] A) (by have := hd.1; unfold fuel; omega) (Fr.refl _ _) (fun d acc A' hd ha hf => ?_) fun A' hf => ?_
    · walk_at "go"
      rw [num18 h, numB_below]
      walk_at "goh"
    · rw [show ts.map (fun d => D.bl (below a d)) = (ts.map (below a)).map D.bl by rw [List.map_map]; rfl]
      walk_at "go"
      have z := go (A' ++ [.lst ((ts.map (below a)).map D.bl)]) (hf.snoc _)
      simpa [allB] using z
theorem line18b (h : Is18 P) {a : Int} {d : D} {N : Nat} (hd : okD 999999 N d) (go : ∀ A', Fr [] A A' → Q (.bl (JL a d)) A') : Wp ((fns P (k + 3)).call 14 [d, .int a] A) Q E := by
  rw [wp_def h.d14 rfl]; unfold b18_14
  have z := go A (Fr.refl _ _)
  rw [wps_cons]
  match d, hd with
  | .non, _ => walk_at "go"; simpa [tpB, JL] using z
  | .bl _, _ => walk_at "go"; simpa [tpB, JL] using z
  | .int _, _ => walk_at "go"; simpa [tpB, JL] using z
  | .str _, _ => walk_at "go"; simpa [tpB, JL] using z
  | .ref _, _ => walk_at "go"; simpa [tpB, JL] using z
  | .tup [], _ => walk_at "go"; simpa [tpB, JL] using z
  | .tup [x], _ => walk_at "go"; simpa [tpB, JL] using z
  | .tup (x :: p :: ps), hd =>
    have e1 : ¬ (((ps.length + 1 + 1 : Nat) : Int) < 2) := by omega
    walk_at "goh"
    match x, hd with
    | .non, _ => walk_at "go"; simpa [JL] using z
    | .bl _, _ => walk_at "go"; simpa [JL] using z
    | .int _, _ => walk_at "go"; simpa [JL] using z
    | .tup _, _ => walk_at "go"; simpa [JL] using z
    | .ref _, _ => walk_at "go"; simpa [JL] using z
    | .str w, hd =>
      walk_at "go"
      simp only [beq_iff_eq]
      have n3 : ∀ d, numB 0 3 d = below 4 d := fun d => numB_below (a := 4)
      have n9 : ∀ d, numB 0 9 d = below 10 d := fun d => numB_below (a := 10)
      by_cases c1 : w = ("hue" : Str)
      · simp only [JL, if_pos c1] at z ⊢
        match ps with
        | [] => walk_at "go"; simpa [fits] using z
        | y :: z' :: r =>
          have e2 : ¬ (((y :: z' :: r).length + 1 + 1 : Nat) : Int) = 3 := by simp only [List.length_cons]; omega
          rw [if_neg e2, beq_false_of_ne e2]; simpa [fits] using z
        | [y] =>
          walk_at "go"
          simp only [num18 h, n3, n9, fits] at z ⊢
          by_cases b1 : below 4 p = true
          · walk_at "goh"; simp only [num18 h, n9]; simpa [b1] using z
          · walk_at "goh"; simpa [b1] using z
      by_cases c2 : w = ("same" : Str)
      · simp only [JL, if_neg c1, if_pos c2] at z ⊢
        match ps with
        | [] => walk_at "go"; simpa [fits] using z
        | y :: z' :: r =>
          have e2 : ¬ (((y :: z' :: r).length + 1 + 1 : Nat) : Int) = 3 := by simp only [List.length_cons]; omega
          rw [if_neg e2, beq_false_of_ne e2]; simpa [fits] using z
        | [y] =>
          walk_at "go"
          simp only [num18 h, n3, n9, fits] at z ⊢
          by_cases b1 : below 4 p = true
          · walk_at "goh"; simp only [num18 h, n3]; simpa [b1] using z
          · walk_at "goh"; simpa [b1] using z
      by_cases c3 : w = ("tie" : Str)
      · simp only [JL, if_neg c1, if_neg c2, if_pos c3] at z go ⊢
        match ps with
        | [] => walk_at "go"; simpa [fits] using z
        | [_] => walk_at "go"; simpa [fits] using z
        | y :: z' :: u :: r =>
          have e2 : ¬ (((y :: z' :: u :: r).length + 1 + 1 : Nat) : Int) = 4 := by simp only [List.length_cons]; omega
          rw [if_neg e2, beq_false_of_ne e2]; simpa [fits] using z
        | [x, y] =>
          walk_at "go"
          refine comp_map (g := fun d => .bl (below 4 d)) (Fr [] A) (by simp [fuel]) (Fr.refl _ _) (fun d acc A' hd ha hf => ?_) fun A' hf => ?_
          · walk_at "go"
            rw [num18 h, n3]
            walk_at "goh"
          · rw [show [p, x, y].map (fun d => D.bl (below 4 d)) = ([p, x, y].map (below 4)).map D.bl by rw [List.map_map]; rfl]
            walk_at "go"
            have z := go (A' ++ [.lst (([p, x, y].map (below 4)).map D.bl)]) (hf.snoc _)
            simpa [fits] using z
      by_cases c4 : w = ("not" : Str)
      · simp only [JL, if_neg c1, if_neg c2, if_neg c3, if_pos c4] at z ⊢
        match ps with
        | [] => walk_at "go"; rw [num18 h, numB_below]; simpa [fits] using z
        | y :: r =>
          have e2 : ¬ (((y :: r).length + 1 + 1 : Nat) : Int) = 2 := by simp only [List.length_cons]; omega
          rw [if_neg e2, beq_false_of_ne e2]; simpa [fits] using z
      by_cases c67 : w = ("all" : Str) ∨ w = ("some" : Str)
      · have e6 : (Str.ofString "all" == w || (Str.ofString "some" == w || false)) = true := by
          rcases c67 with e | e <;> simp [e]
        have c5 : ¬ w = ("many" : Str) := by
          rcases c67 with e | e <;> rw [e] <;> decide +kernel
        simp only [JL, if_neg c1, if_neg c2, if_neg c3, if_neg c4, if_neg c5, if_pos c67, if_pos e6] at z go ⊢
        match ps with
        | [] => walk_at "go"; exact lines18 h hd.2.2.1 fun A' hf => by simpa using go A' hf
        | y :: r =>
          have e2 : ¬ (((y :: r).length + 1 + 1 : Nat) : Int) = 2 := by simp only [List.length_cons]; omega
          rw [if_neg e2, beq_false_of_ne e2]; simpa [allB] using z
      have e6 : ¬ (Str.ofString "all" == w || (Str.ofString "some" == w || false)) = true := by
        simp only [Bool.or_eq_true, beq_iff_eq, Bool.false_eq_true, or_false]
        exact fun e => c67 (e.imp Eq.symm Eq.symm)
      simp only [JL, if_neg c1, if_neg c2, if_neg c3, if_neg c4, if_neg c67, if_neg e6] at z ⊢
      by_cases c5 : w = ("many" : Str)
      · simp only [if_pos c5] at z ⊢
        have c5' : (w == ("many" : Str)) = true := by simpa using c5
        rw [c5']
        walk_at "go"
        match ps with
        | [] => walk_at "go"; simpa [fits] using z
        | [_] => walk_at "go"; simpa [fits] using z
        | y :: z' :: u :: r =>
          have e2 : (((r.length + 1 + 1 + 1 + 1 + 1 : Nat) : Int) == 4) = false := by simp only [beq_eq_false_iff_ne, ne_eq]; omega
          walk_at "goh"
          simpa [fits] using z
        | [x, y] =>
          walk_at "go"
          simp only [num18 h, n3, numB_below]
          by_cases b1 : below 4 p = true
          · walk_at "goh"
            cases x with
            | int i =>
              by_cases b2 : numB 1 40 (.int i) = true
              · walk_at "goh"
                rw [num18 h, numB_below]
                simp only [numB, Bool.and_eq_true, decide_eq_true_eq] at b2
                have b3 : below 41 (.int i) = true := by simp only [below, Bool.and_eq_true, decide_eq_true_eq]; omega
                have b4 : (0 : Int) < i := by omega
                simpa [fits, b1, b3, b4] using z
              · walk_at "goh"
                simp only [numB, Bool.and_eq_true, decide_eq_true_eq] at b2
                by_cases b4 : (0 : Int) < i
                · have b3 : below 41 (.int i) = false := by simp only [below, Bool.and_eq_false_iff, decide_eq_false_iff_not]; omega
                  simpa [fits, b1, b3] using z
                · simpa [fits, b4] using z
            | _ => walk_at "go"; simpa [fits, numB, below] using z
          · walk_at "goh"
            simpa [fits, b1] using z
      · rw [if_neg c5] at z
        have c5' : (w == ("many" : Str)) = false := by simpa using c5
        rw [c5']
        walk_at "go"
        exact z
theorem saying18b (h : Is18 P) {d : D} {N : Nat} (hd : okD 999999 N d) (go : ∀ A', Fr [] A A' → Q (.bl (JS d)) A') : Wp ((fns P (k + 4)).call 15 [d] A) Q E := by
  rw [wp_def h.d15 rfl]; unfold b18_15
  have z := go A (Fr.refl _ _)
  match d, hd with
  | .non, _ => walk_at "go"; simpa [JS] using z
  | .bl _, _ => walk_at "go"; simpa [JS] using z
  | .int _, _ => walk_at "go"; simpa [JS] using z
  | .str _, _ => walk_at "go"; simpa [JS] using z
  | .ref _, _ => walk_at "go"; simpa [JS] using z
  | .tup [], _ => walk_at "go"; simpa [JS] using z
  | .tup (x :: ds), hd =>
    have e0 : (((ds.length + 1 : Nat) : Int) == 0) = false := by simp only [beq_eq_false_iff_ne, ne_eq]; omega
    walk_at "goh"
    have hd2 := okDs_iff.mp hd.2
    have hl := hd.1
    refine comp_map (g := fun d => match d with | .tup [.int m, x] => .bl (JL m x) | _ => .non) (Fr [] A) (by rw [List.length_map, List.length_zipIdx]; unfold fuel; omega) (Fr.refl _ _) (fun d acc A' hm ha hf => ?_) fun A' hf => ?_
    · obtain ⟨⟨y, i⟩, hy, rfl⟩ := List.mem_map.mp hm
      walk_at "go"
      refine line18b h (hd2 y (mem_zipIdx_fst hy)) fun A'' hf' => ?_
      have hf2 := hf.trans hf'
      walk_at "goh"
    · rw [show List.map (fun d => match d with | .tup [.int m, x] => .bl (JL m x) | _ => .non) (List.map (fun p : D × Nat => D.tup [.int (p.2 : Nat), p.1]) (x :: ds).zipIdx) = ((x :: ds).zipIdx.map fun p => JL (p.2 : Nat) p.1).map D.bl by
        rw [List.map_map, List.map_map]; exact List.map_congr_left fun p _ => rfl]
      walk_at "go"
      have z := go (A' ++ [.lst (((x :: ds).zipIdx.map fun p => JL (p.2 : Nat) p.1).map D.bl)]) (hf.snoc _)
      simpa [JS, Function.comp_def] using z
end
end Kin
end
section
set_option linter.all false
set_option maxRecDepth 100000
namespace Kin
open PySem
local macro_rules | `(tactic| walk_at "go") => `(tactic| try simp only [wps_nil, wps_cons, wps_ex, wps_asg, wps_par, wps_ret, wps_cond, wps_loop, wps_brk, wps_cont, wps_pass, wp_ret, wp_slot, wp_cst, wp_tup, wp_lst, wp_bin, wp_neg, wp_cmp, wp_chain, wp_and, wp_or, wp_not, wp_ifx, wp_idx, wp_slc, wp_rev, wp_call, wp_meth, wp_blt, wp_listR, wp_isi, wp_comp, wp_dct, wp_nil, wp_cons, wp_knil, wp_kcons, wp_onone, wp_osome, wp_iseq, wp_irng, wp_ienum, wp_izip, wp_tslot, wp_ttup, wp_titem, wp_tnil, wp_tcons, wp_fnil, wp_fone, wp_ok, wp_of1, wp_of, wp_of1n, wp_ofn, wp_onB, wp_onBn, wp_calm, wp_bind, wp_ite, wp_exc, wp_bad,
  getL_0, getL_s, bin_add, bin_sub, bin_mul, bin_fdiv, bin_mod, bin_tup, bin_str, cmp_lt, cmp_le, cmp_gt, cmp_ge, cmp_eqI, cmp_eqS, cmp_neI, cmp_neS, cmp_eqB, in_str2, in_str3, truth_bl, truth_int, truth_tup, truth_non, neg_int, intOf_int, tupOf_tup, idx_tup, idx_ref, idxO_lst, atI_0, atI_1, atI_2, atI_3, atI_4, cut_from, cut_to, List.drop_succ_cons, List.drop_zero, List.take_succ_cons, List.take_zero, List.drop_nil, List.take_nil, Int.reduceLE, Int.reduceBEq, blsD_map, blsD_cons, blsD_nil, set_ref, setO_cons, isList_ref, Option.isSome_some, Int.reduceLE, Int.reduceLT, Int.cast_ofNat_Int, Int.reduceToNat, List.getElem?_cons_succ, List.getElem?_cons_zero, Int.reduceNeg, Int.reduceAdd, at_new, and_self, or_true, true_or, true_and, and_true, Int.reducePow, Int.reduceSub, Int.reduceMul, seq_ref, seqO_lst, seqO_frz, lst_ref, lstO_lst, len_ref, list_ref, tuple_ref, all_ref, any_ref, add_ref, slc_ref, len_tup, list_tup, int_int, int_bl, abs_int, max_int, min_int, slc_tup, rev_tup, seqWk_tup, zipWk_tup, rng_one, rng_two, wkEnum_items, Option.map_some, Option.bind_some, setAll,
  List.set_cons_zero, List.set_cons_succ, List.set_set, List.foldl_nil, List.foldl_cons, List.length_cons, List.length_nil, List.map_cons, List.map_nil, List.cons_append, List.nil_append, List.replicate_succ, List.replicate_zero, Nat.reduceAdd, Nat.reduceSub, Bool.not_true, Bool.not_false, if_true, if_false, Bool.false_eq_true, decide_eq_true_eq, Nat.reduceLeDiff, lim_lit, wipe, isi_tup, isi_str, isi_int, isi_bool, Bool.and_true, Bool.and_false, Bool.true_and, Bool.false_and, tpB_tup, tpB_str, tpB_bl, tpB_int, tpB_non, tpB_ref, isStr_tup, isStr_str, isStr_bl, isStr_int, isStr_non, isStr_ref, isBl_tup, isBl_str, isBl_bl, isBl_int, isBl_non, isBl_ref, isInt_tup, isInt_str, isInt_bl, isInt_int, isInt_non, isInt_ref])
local macro_rules | `(tactic| walk_at "goh") => `(tactic| try simp only [*, Int.reduceBEq, wps_nil, wps_cons, wps_ex, wps_asg, wps_par, wps_ret, wps_cond, wps_loop, wps_brk, wps_cont, wps_pass, wp_ret, wp_slot, wp_cst, wp_tup, wp_lst, wp_bin, wp_neg, wp_cmp, wp_chain, wp_and, wp_or, wp_not, wp_ifx, wp_idx, wp_slc, wp_rev, wp_call, wp_meth, wp_blt, wp_listR, wp_isi, wp_comp, wp_dct, wp_nil, wp_cons, wp_knil, wp_kcons, wp_onone, wp_osome, wp_iseq, wp_irng, wp_ienum, wp_izip, wp_tslot, wp_ttup, wp_titem, wp_tnil, wp_tcons, wp_fnil, wp_fone, wp_ok, wp_of1, wp_of, wp_of1n, wp_ofn, wp_onB, wp_onBn, wp_calm, wp_bind, wp_ite, wp_exc, wp_bad,
  getL_0, getL_s, bin_add, bin_sub, bin_mul, bin_fdiv, bin_mod, bin_tup, bin_str, cmp_lt, cmp_le, cmp_gt, cmp_ge, cmp_eqI, cmp_eqS, cmp_neI, cmp_neS, cmp_eqB, in_str2, in_str3, truth_bl, truth_int, truth_tup, truth_non, neg_int, intOf_int, tupOf_tup, idx_tup, idx_ref, idxO_lst, atI_0, atI_1, atI_2, atI_3, atI_4, cut_from, cut_to, List.drop_succ_cons, List.drop_zero, List.take_succ_cons, List.take_zero, List.drop_nil, List.take_nil, Int.reduceLE, blsD_map, blsD_cons, blsD_nil, set_ref, setO_cons, isList_ref, Option.isSome_some, Int.reduceLE, Int.reduceLT, Int.cast_ofNat_Int, Int.reduceToNat, List.getElem?_cons_succ, List.getElem?_cons_zero, Int.reduceNeg, Int.reduceAdd, at_new, and_self, or_true, true_or, true_and, and_true, Int.reducePow, Int.reduceSub, Int.reduceMul, seq_ref, seqO_lst, seqO_frz, lst_ref, lstO_lst, len_ref, list_ref, tuple_ref, all_ref, any_ref, add_ref, slc_ref, len_tup, list_tup, int_int, int_bl, abs_int, max_int, min_int, slc_tup, rev_tup, seqWk_tup, zipWk_tup, rng_one, rng_two, wkEnum_items, Option.map_some, Option.bind_some, setAll,
  List.set_cons_zero, List.set_cons_succ, List.set_set, List.foldl_nil, List.foldl_cons, List.length_cons, List.length_nil, List.map_cons, List.map_nil, List.cons_append, List.nil_append, List.replicate_succ, List.replicate_zero, Nat.reduceAdd, Nat.reduceSub, Bool.not_true, Bool.not_false, if_true, if_false, Bool.false_eq_true, decide_eq_true_eq, Nat.reduceLeDiff, lim_lit, wipe, isi_tup, isi_str, isi_int, isi_bool, Bool.and_true, Bool.and_false, Bool.true_and, Bool.false_and, tpB_tup, tpB_str, tpB_bl, tpB_int, tpB_non, tpB_ref, isStr_tup, isStr_str, isStr_bl, isStr_int, isStr_non, isStr_ref, isBl_tup, isBl_str, isBl_bl, isBl_int, isBl_non, isBl_ref, isInt_tup, isInt_str, isInt_bl, isInt_int, isInt_non, isInt_ref])
local macro_rules | `(tactic| walk_at "dr") => `(tactic| (refine draw_ok (by assumption) (by assumption) (by first | assumption | omega | decide) (by first | omega | decide) ?_; intro r A' r0 r1 hp f))
local macro_rules | `(tactic| walk_at "an") => `(tactic| (refine any_ok (by assumption) (by assumption) (Pot.snoc (by assumption) _) at_new (Nat.ne_of_gt (Pot.lt (by assumption))) (by simp) (by simp) ?_; intro d A' hm hp f))
local macro_rules | `(tactic| walk_at "fr") => `(tactic| repeat first | exact Fr.refl _ _ | assumption | refine Fr.snoc ?_ _ | refine Fr.trans ?_ (by assumption) | refine Fr.trans ?_ (Fr.nil (by assumption)))
local macro_rules | `(tactic| walk_at "g1") => `(tactic| try simp only [*, wps_nil, wps_ex, wps_asg, wps_par, wps_ret, wps_cond, wps_loop, wps_brk, wps_cont, wps_pass, wp_ret, wp_slot, wp_cst, wp_tup, wp_lst, wp_bin, wp_neg, wp_cmp, wp_chain, wp_and, wp_or, wp_not, wp_ifx, wp_idx, wp_slc, wp_rev, wp_call, wp_meth, wp_blt, wp_listR, wp_isi, wp_comp, wp_dct, wp_nil, wp_cons, wp_knil, wp_kcons, wp_onone, wp_osome, wp_iseq, wp_irng, wp_ienum, wp_izip, wp_tslot, wp_ttup, wp_titem, wp_tnil, wp_tcons, wp_fnil, wp_fone, wp_ok, wp_of1, wp_of, wp_of1n, wp_ofn, wp_onB, wp_onBn, wp_calm, wp_bind, wp_ite, wp_exc, wp_bad,
  getL_0, getL_s, bin_add, bin_sub, bin_mul, bin_fdiv, bin_mod, bin_tup, bin_str, cmp_lt, cmp_le, cmp_gt, cmp_ge, cmp_eqI, cmp_eqS, cmp_neI, cmp_neS, cmp_eqB, in_str2, in_str3, truth_bl, truth_int, truth_tup, truth_non, neg_int, intOf_int, tupOf_tup, idx_tup, idx_ref, idxO_lst, atI_0, atI_1, atI_2, atI_3, atI_4, cut_from, cut_to, List.drop_succ_cons, List.drop_zero, List.take_succ_cons, List.take_zero, List.drop_nil, List.take_nil, Int.reduceLE, Int.reduceBEq, blsD_map, blsD_cons, blsD_nil, set_ref, setO_cons, isList_ref, Option.isSome_some, Int.reduceLE, Int.reduceLT, Int.cast_ofNat_Int, Int.reduceToNat, List.getElem?_cons_succ, List.getElem?_cons_zero, Int.reduceNeg, Int.reduceAdd, at_new, and_self, or_true, true_or, true_and, and_true, Int.reducePow, Int.reduceSub, Int.reduceMul, seq_ref, seqO_lst, seqO_frz, lst_ref, lstO_lst, len_ref, list_ref, tuple_ref, all_ref, any_ref, add_ref, slc_ref, len_tup, list_tup, int_int, int_bl, abs_int, max_int, min_int, slc_tup, rev_tup, seqWk_tup, zipWk_tup, rng_one, rng_two, wkEnum_items, Option.map_some, Option.bind_some, setAll,
  List.set_cons_zero, List.set_cons_succ, List.set_set, List.foldl_nil, List.foldl_cons, List.length_cons, List.length_nil, List.map_cons, List.map_nil, List.cons_append, List.nil_append, List.replicate_succ, List.replicate_zero, Nat.reduceAdd, Nat.reduceSub, Bool.not_true, Bool.not_false, if_true, if_false, Bool.false_eq_true, decide_eq_true_eq, Nat.reduceLeDiff, lim_lit, wipe, isi_tup, isi_str, isi_int, isi_bool, Bool.and_true, Bool.and_false, Bool.true_and, Bool.false_and, tpB_tup, tpB_str, tpB_bl, tpB_int, tpB_non, tpB_ref, isStr_tup, isStr_str, isStr_bl, isStr_int, isStr_non, isStr_ref, isBl_tup, isBl_str, isBl_bl, isBl_int, isBl_non, isBl_ref, isInt_tup, isInt_str, isInt_bl, isInt_int, isInt_non, isInt_ref])
/-- a right line -/
inductive Line (a : Int) : D → Prop where
  | hue {i h : Int} : 0 ≤ i → i < 4 → 0 ≤ h → h < 10 → Line a (.tup [.str ("hue" : Str), .int i, .int h])
  | same {i j : Int} : 0 ≤ i → i < 4 → 0 ≤ j → j < 4 → Line a (.tup [.str ("same" : Str), .int i, .int j])
  | tie {k i j : Int} : 0 ≤ k → k < 4 → 0 ≤ i → i < 4 → 0 ≤ j → j < 4 → Line a (.tup [.str ("tie" : Str), .int k, .int i, .int j])
  | not {n : Int} : 0 ≤ n → n < a → Line a (.tup [.str ("not" : Str), .int n])
  | lines {w : Str} {ns : List Int} : w = ("all" : Str) ∨ w = ("some" : Str) → ns.length ≤ 3 → (∀ n ∈ ns, 0 ≤ n ∧ n < a) → Line a (.tup [.str w, .tup (ns.map D.int)])
  | many {i n l : Int} : 0 ≤ i → i < 4 → 1 ≤ n → n < 41 → 0 ≤ l → l < a → Line a (.tup [.str ("many" : Str), .int i, .int n, .int l])
theorem ints_of {R : Int → Prop} : ∀ {vs : List D}, (∀ v ∈ vs, ∃ n, v = .int n ∧ R n) → ∃ ns : List Int, vs = ns.map D.int ∧ ∀ n ∈ ns, R n
  | [], _ => ⟨[], rfl, by simp⟩
  | v :: vs, h => by
    obtain ⟨n, rfl, r⟩ := h v List.mem_cons_self
    obtain ⟨ns, rfl, rs⟩ := ints_of (vs := vs) fun v hv => h v (List.mem_cons_of_mem _ hv)
    exact ⟨n :: ns, rfl, fun m hm => by
      rcases List.mem_cons.mp hm with rfl | hm
      · exact r
      · exact rs m hm⟩
section
variable {P : CProg} {k p : Nat} {A : AH} {Q : D → AH → Prop} {E : Ex → AH → Prop}
theorem lineOf18 (h : Is18 P) {a most deeper : Int} (hp : Pot p A) (a0 : 0 ≤ a) (m0 : 0 < most) (m4 : most ≤ 4) (go : ∀ d A', Line a d → Pot p A' → Fr [p] A A' → Q d A') :
    Wp ((fns P (k + 3)).call 9 [.ref p, .int a, .int most, .int deeper] A) Q E := by
  have h7 := h.d7
  have h8 := h.d8
  rw [wp_def h.d9 rfl]; unfold b18_9
  rw [wps_cons]
  walk_at "g1"
  refine draw_ok h.d7 hp m0 (by omega) fun i A1 i0 i1 hp f1 => ?_
  refine draw_ok h.d7 hp m0 (by omega) fun j A2 j0 j1 hp f2 => ?_
  refine draw_ok h.d7 hp (by decide) (by decide) fun kind A3 k0 k1 hp f3 => ?_
  have f13 : Fr [p] A A3 := by walk_at "fr"
  walk_at "g1"
  rw [wps_cons]
  have rest : ∀ A4, 1 ≤ a → Pot p A4 → Fr [p] A A4 → WpS (evSs P (fns P (k + 2)) (b18_9.drop 2) [some (D.ref p), some (D.int a), some (D.int most), some (D.int deeper), some (D.int i), some (D.int j), some (D.int kind), none, none, none] A4) ⟨fun x A => Q D.non A, Q, fun _ _ => False, fun _ _ => False, E⟩ := fun A4 a1 hp f => by
    show WpS (evSs P (fns P (k + 2)) (_ :: _) _ A4) _
    rw [wps_cons]
    walk_at "g1"
    walk_at "dr"
    walk_at "g1"
    rename_i r A5 r0 r1 hp5 f5
    have e : ∃ near, (if a - 1 - r > 0 then a - 1 - r else 0) = near ∧ 0 ≤ near ∧ near < a := by
      refine ⟨_, rfl, ?_⟩
      split <;> omega
    obtain ⟨near, e, n0, n1⟩ := e
    rw [e]
    clear e
    rw [wps_cons]
    walk_at "g1"
    split
    · rw [wps_cons]
      walk_at "g1"
      refine go _ _ (.not n0 n1) (by assumption) ?_
      walk_at "fr"
    rw [wps_cons]
    walk_at "g1"
    split
    · rw [wps_cons]
      walk_at "g1"
      walk_at "an"
      rename_i d A6 hm hp6 f6
      have e : ∃ y, d = .int y ∧ 0 ≤ y ∧ y < 4 := by
        simp only [List.mem_cons, List.not_mem_nil, or_false] at hm
        rcases hm with rfl | rfl | rfl | rfl | rfl | rfl <;> exact ⟨_, rfl, by omega, by omega⟩
      obtain ⟨y, rfl, y0, y1⟩ := e
      walk_at "g1"
      rw [okR_of (by omega) (by omega) (by omega) (by omega)]
      walk_at "g1"
      refine comp_gen (fun B => Pot p B ∧ Fr [p] A B) (fun _ v => ∃ n, v = .int n ∧ 0 ≤ n ∧ n < a) (by rw [rngItems_len]; unfold fuel; omega) ⟨hp6, by walk_at "fr"⟩ (fun i d acc B hd hacc ⟨hpB, fB⟩ => ?_) fun vs B hl hv ⟨hpB, fB⟩ => ?_
      · walk_at "go"
        walk_at "dr"
        walk_at "go"
        simp only [hacc, if_true, wp_ok]
        rename_i r A7 r0 r1 hp7 f7
        refine ⟨_, rfl, ⟨_, rfl, ?_⟩, hp7, by walk_at "fr"⟩
        split <;> omega
      · rw [wps_cons]
        walk_at "g1"
        have e : ∃ ns : List Int, vs = ns.map D.int ∧ ∀ n ∈ ns, 0 ≤ n ∧ n < a := ints_of fun v hm => by
          obtain ⟨j, hj⟩ := List.mem_iff_getElem?.mp hm
          exact hv j v hj
        obtain ⟨ns, rfl, hn⟩ := e
        refine any_ok h7 h8 (hpB.snoc _ |>.snoc _) at_new (Nat.ne_of_gt (hpB.snoc _).lt) (by simp) (by simp) fun w A8 hm hp8 f8 => ?_
        rw [f8.get (at_snoc at_new) (by simpa using Nat.ne_of_gt hpB.lt)]
        walk_at "g1"
        rw [rngItems_len, List.length_map] at hl
        have : Line a (.tup [w, .tup (ns.map D.int)]) := by
          simp only [List.mem_cons, List.not_mem_nil, or_false] at hm
          rcases hm with rfl | rfl
          · exact .lines (.inl rfl) (by omega) hn
          · exact .lines (.inr rfl) (by omega) hn
        refine go _ _ this hp8 ?_
        walk_at "fr"
    rw [wps_cons]
    walk_at "g1"
    walk_at "dr"
    walk_at "g1"
    walk_at "an"
    rename_i x A6 x0 x1 hp6 f6 d A7 hm hp7 f7
    have e : ∃ y, d = .int y ∧ 1 ≤ y ∧ y < 41 := by
      simp only [List.mem_cons, List.not_mem_nil, or_false] at hm
      rcases hm with rfl | rfl | rfl | rfl | rfl | rfl <;> exact ⟨_, rfl, by omega, by omega⟩
    obtain ⟨y, rfl, y0, y1⟩ := e
    refine go _ _ (.many i0 (by omega) y0 y1 n0 n1) hp7 ?_
    walk_at "fr"
  have leaf : ∀ A4, Pot p A4 → Fr [p] A A4 → WpS (evSs P (fns P (k + 2)) (match b18_9 with | _ :: .cond _ b _ :: _ => b | _ => []) [some (D.ref p), some (D.int a), some (D.int most), some (D.int deeper), some (D.int i), some (D.int j), some (D.int kind), none, none, none] A4) ⟨fun L A => False, Q, fun _ _ => False, fun _ _ => False, E⟩ := fun A4 hp f => by
    show WpS (evSs P (fns P (k + 2)) (_ :: _) _ A4) _
    rw [wps_cons]
    walk_at "g1"
    split
    · rw [wps_cons]
      walk_at "g1"
      walk_at "dr"
      walk_at "g1"
      walk_at "an"
      rename_i x _ x0 x1 _ _ d _ hm hp' _
      have e : ∃ y, d = .int y ∧ 0 ≤ y ∧ y < 10 := by
        simp only [List.mem_cons, List.not_mem_nil, or_false] at hm
        rcases hm with rfl | rfl | rfl | rfl | rfl <;> exact ⟨_, rfl, by omega, by omega⟩
      obtain ⟨y, rfl, y0, y1⟩ := e
      refine go _ _ (.hue i0 (by omega) y0 y1) hp' ?_
      walk_at "fr"
    rw [wps_cons]
    walk_at "g1"
    split
    · exact go _ _ (.same i0 (by omega) j0 (by omega)) hp f
    · walk_at "dr"
      walk_at "g1"
      walk_at "an"
      rename_i x _ x0 x1 _ _ d _ hm hp' _
      have e : ∃ y, d = .int y ∧ 0 ≤ y ∧ y < 4 := by
        simp only [List.mem_cons, List.not_mem_nil, or_false] at hm
        rcases hm with rfl | rfl | rfl | rfl | rfl <;> exact ⟨_, rfl, by omega, by omega⟩
      obtain ⟨y, rfl, y0, y1⟩ := e
      refine go _ _ (.tie y0 y1 i0 (by omega) j0 (by omega)) hp' ?_
      walk_at "fr"
  walk_at "g1"
  simp only [beq_iff_eq]
  by_cases c : a = 0
  · rw [if_pos c, if_pos c]
    exact (leaf A3 hp f13).mono (fun _ _ z => z.elim) (fun _ _ z => z) (fun _ _ z => z) (fun _ _ z => z) fun _ _ z => z
  · rw [if_neg c]
    walk_at "dr"
    walk_at "g1"
    have f14 : Fr [p] A _ := Fr.trans f13 (by assumption)
    split
    · exact (leaf _ (by assumption) f14).mono (fun _ _ z => z.elim) (fun _ _ z => z) (fun _ _ z => z) (fun _ _ z => z) fun _ _ z => z
    · exact rest _ (by omega) (by assumption) f14
theorem saying10 (h : Is18 P) {n most deeper : Int} (hp : Pot p A) (n0 : 0 ≤ n) (n1 : n < 100000) (m0 : 0 < most) (m4 : most ≤ 4)
    (go : ∀ ds A', (ds.length : Int) = n → (∀ i d, ds[i]? = some d → Line (i : Nat) d) → Pot p A' → Fr [p] A A' → Q (.tup ds) A') : Wp ((fns P (k + 4)).call 10 [.ref p, .int n, .int most, .int deeper] A) Q E := by
  rw [wp_def h.d10 rfl]; unfold b18_10
  walk_at "go"
  rw [okR_of (by omega) (by omega) (by omega) (by omega)]
  walk_at "go"
  refine comp_gen (fun B => Pot p B ∧ Fr [p] A B) (fun i v => Line (i : Nat) v) (by rw [rngItems_len]; unfold fuel; omega) ⟨hp, Fr.refl _ _⟩ (fun i d acc B hd hacc ⟨hpB, fB⟩ => ?_) fun vs B hl hv ⟨hpB, fB⟩ => ?_
  · obtain ⟨rfl, hi⟩ := rngItems_at hd
    walk_at "go"
    rw [Int.zero_add]
    refine lineOf18 h hpB (by omega) m0 m4 fun d A' hd hp' f' => ?_
    simp only [hacc, if_true, wp_ok]
    exact ⟨_, rfl, hd, hp', fB.trans f'⟩
  · walk_at "go"
    refine go vs _ ?_ hv (hpB.snoc _) (fB.snoc _)
    rw [hl, rngItems_len]
    omega
theorem deep11 (h : Is18 P) (hp : Pot p A) (go : ∀ d A', okD 1 A'.length d → Pot p A' → Fr [p] A A' → Q d A') : Wp ((fns P (k + 3)).call 11 [.ref p] A) Q E := by
  have h7 := h.d7
  have h8 := h.d8
  rw [wp_def h.d11 rfl]; unfold b18_11
  rw [wps_cons]
  walk_at "g1"
  walk_at "an"
  rename_i d A1 hm hp1 f1
  have e : okD 1 A1.length d := by
    simp only [List.mem_cons, List.not_mem_nil, or_false] at hm
    rcases hm with rfl | rfl | rfl | rfl <;> simp [okD, okDs]
  rw [wps_cons]
  walk_at "g1"
  walk_at "dr"
  walk_at "g1"
  rename_i r A2 r0 r1 hp2 f2
  rw [okR_of (by omega) (by omega) (by omega) (by omega)]
  walk_at "g1"
  refine loop_items (fun i L B => ∃ t l2, L = [some (.ref p), some t, l2] ∧ okD 1 B.length t ∧ Pot p B ∧ Fr [p] A B) (by rw [rngItems_len]; unfold fuel; omega) ⟨d, _, rfl, e.mono (Nat.le_refl _) f2.le, hp2, by walk_at "fr"⟩ (fun i x L B hx ⟨t, l2, eL, ht, hpB, fB⟩ => ?_) fun L B ⟨t, l2, eL, ht, hpB, fB⟩ => ?_
  · subst eL
    rw [wp_ofE]
    walk_at "go"
    walk_at "dr"
    walk_at "go"
    rename_i r3 A3 r30 r31 hp3 f3
    split
    · refine ⟨_, _, rfl, ⟨by simp, ht.mono (Nat.le_refl _) f3.le, trivial⟩, hp3, by walk_at "fr"⟩
    · refine ⟨_, _, rfl, ?_, hp3.snoc _, by walk_at "fr"⟩
      simp [okD]
  · subst eL
    walk_at "go"
    exact go _ _ ht hpB fB
theorem odd16 (h : Is18 P) {a : Int} (hp : Pot p A) (go : ∀ d A', okD 1 A'.length d → Pot p A' → Fr [p] A A' → Q d A') : Wp ((fns P (k + 4)).call 16 [.ref p, .int a] A) Q E := by
  have h7 := h.d7
  have h8 := h.d8
  rw [wp_def h.d16 rfl]; unfold b18_16
  rw [wps_cons]
  walk_at "g1"
  generalize hB : A ++ [AO.lst [D.int 0]] ++ [AO.dct []] = B
  have fB : Fr [p] A B := by rw [← hB]; walk_at "fr"
  have hpB : Pot p B := by rw [← hB]; exact (hp.snoc _).snoc _
  have lB : A.length + 2 = B.length := by rw [← hB]; simp
  generalize hx : [D.int 4, D.int (-1), D.int 41, D.int 10, D.int 0, D.int 1, D.bl true, D.bl false, D.non,
              D.str (Str.ofString "0"), D.str (Str.ofString ""), D.tup [D.int 0], D.ref (List.length A), D.tup [],
              D.ref (List.length (A ++ [AO.lst [D.int 0]])), D.int 100000000000000000000000000000, D.int a,
              D.int (a + 1), D.int (if a - 1 > 0 then a - 1 else 0)] = xs
  have lx : xs.length = 19 := by rw [← hx]; rfl
  have ok : ∀ x ∈ xs, okD 1 B.length x := by
    intro x hm
    rw [← hx] at hm
    simp only [List.mem_cons, List.not_mem_nil, or_false] at hm
    rcases hm with rfl | rfl | rfl | rfl | rfl | rfl | rfl | rfl | rfl | rfl | rfl | rfl | rfl | rfl | rfl | rfl | rfl | rfl | rfl <;> simp [okD, okDs] <;> omega
  rw [wps_cons]
  walk_at "g1"
  refine deep11 h (hpB.snoc _) fun t A2 ht hp2 f2 => ?_
  have e1 : (A2 ++ [AO.lst [t]])[B.length]? = some (.lst xs) := at_snoc (f2.get at_new (by simpa using Nat.ne_of_gt hpB.lt))
  walk_at "g1"
  have l2 := f2.le
  rw [List.length_append] at l2
  refine any_ok h7 h8 ((hp2.snoc _).snoc _) at_new (Nat.ne_of_gt (hp2.snoc _).lt) (by simp [lx]) (by simp [lx]) fun d A3 hm hp3 f3 => ?_
  have l3 := f3.le
  rw [List.length_append, List.length_append] at l3
  refine go _ _ ?_ hp3 (by walk_at "fr")
  rcases List.mem_append.mp hm with hm | hm
  · exact (ok d hm).mono (Nat.le_refl _) (by omega)
  · rw [List.mem_singleton.mp hm]
    exact ht.mono (Nat.le_refl _) (by omega)
end
end Kin
end
section
set_option linter.all false
set_option maxRecDepth 100000
set_option maxHeartbeats 1000000
namespace Kin
open PySem
local macro_rules | `(tactic| walk_at "go") => `(tactic| try simp only [wps_nil, wps_cons, wps_ex, wps_asg, wps_par, wps_ret, wps_cond, wps_loop, wps_brk, wps_cont, wps_pass, wp_ret, wp_slot, wp_cst, wp_tup, wp_lst, wp_bin, wp_neg, wp_cmp, wp_chain, wp_and, wp_or, wp_not, wp_ifx, wp_idx, wp_slc, wp_rev, wp_call, wp_meth, wp_blt, wp_listR, wp_isi, wp_comp, wp_dct, wp_nil, wp_cons, wp_knil, wp_kcons, wp_onone, wp_osome, wp_iseq, wp_irng, wp_ienum, wp_izip, wp_tslot, wp_ttup, wp_titem, wp_tnil, wp_tcons, wp_fnil, wp_fone, wp_ok, wp_of1, wp_of, wp_of1n, wp_ofn, wp_onB, wp_onBn, wp_calm, wp_bind, wp_ite, wp_exc, wp_bad,
  getL_0, getL_s, bin_add, bin_sub, bin_mul, bin_fdiv, bin_mod, bin_tup, bin_str, cmp_lt, cmp_le, cmp_gt, cmp_ge, cmp_eqI, cmp_eqS, cmp_neI, cmp_neS, cmp_eqB, in_str2, in_str3, truth_bl, truth_int, truth_tup, truth_non, neg_int, intOf_int, tupOf_tup, idx_tup, idx_ref, idxO_lst, atI_0, atI_1, atI_2, atI_3, atI_4, cut_from, cut_to, List.drop_succ_cons, List.drop_zero, List.take_succ_cons, List.take_zero, List.drop_nil, List.take_nil, Int.reduceLE, Int.reduceBEq, blsD_map, blsD_cons, blsD_nil, set_ref, setO_cons, isList_ref, Option.isSome_some, Int.reduceLE, Int.reduceLT, Int.cast_ofNat_Int, Int.reduceToNat, List.getElem?_cons_succ, List.getElem?_cons_zero, Int.reduceNeg, Int.reduceAdd, at_new, and_self, or_true, true_or, true_and, and_true, Int.reducePow, Int.reduceSub, Int.reduceMul, seq_ref, seqO_lst, seqO_frz, lst_ref, lstO_lst, len_ref, list_ref, tuple_ref, all_ref, any_ref, add_ref, slc_ref, len_tup, list_tup, int_int, int_bl, abs_int, max_int, min_int, slc_tup, rev_tup, seqWk_tup, zipWk_tup, rng_one, rng_two, wkEnum_items, Option.map_some, Option.bind_some, setAll,
  List.set_cons_zero, List.set_cons_succ, List.set_set, List.foldl_nil, List.foldl_cons, List.length_cons, List.length_nil, List.map_cons, List.map_nil, List.cons_append, List.nil_append, List.replicate_succ, List.replicate_zero, Nat.reduceAdd, Nat.reduceSub, Bool.not_true, Bool.not_false, if_true, if_false, Bool.false_eq_true, decide_eq_true_eq, Nat.reduceLeDiff, lim_lit, wipe, isi_tup, isi_str, isi_int, isi_bool, Bool.and_true, Bool.and_false, Bool.true_and, Bool.false_and, tpB_tup, tpB_str, tpB_bl, tpB_int, tpB_non, tpB_ref, isStr_tup, isStr_str, isStr_bl, isStr_int, isStr_non, isStr_ref, isBl_tup, isBl_str, isBl_bl, isBl_int, isBl_non, isBl_ref, isInt_tup, isInt_str, isInt_bl, isInt_int, isInt_non, isInt_ref])
local macro_rules | `(tactic| walk_at "goh") => `(tactic| try simp only [*, Int.reduceBEq, wps_nil, wps_cons, wps_ex, wps_asg, wps_par, wps_ret, wps_cond, wps_loop, wps_brk, wps_cont, wps_pass, wp_ret, wp_slot, wp_cst, wp_tup, wp_lst, wp_bin, wp_neg, wp_cmp, wp_chain, wp_and, wp_or, wp_not, wp_ifx, wp_idx, wp_slc, wp_rev, wp_call, wp_meth, wp_blt, wp_listR, wp_isi, wp_comp, wp_dct, wp_nil, wp_cons, wp_knil, wp_kcons, wp_onone, wp_osome, wp_iseq, wp_irng, wp_ienum, wp_izip, wp_tslot, wp_ttup, wp_titem, wp_tnil, wp_tcons, wp_fnil, wp_fone, wp_ok, wp_of1, wp_of, wp_of1n, wp_ofn, wp_onB, wp_onBn, wp_calm, wp_bind, wp_ite, wp_exc, wp_bad,
  getL_0, getL_s, bin_add, bin_sub, bin_mul, bin_fdiv, bin_mod, bin_tup, bin_str, cmp_lt, cmp_le, cmp_gt, cmp_ge, cmp_eqI, cmp_eqS, cmp_neI, cmp_neS, cmp_eqB, in_str2, in_str3, truth_bl, truth_int, truth_tup, truth_non, neg_int, intOf_int, tupOf_tup, idx_tup, idx_ref, idxO_lst, atI_0, atI_1, atI_2, atI_3, atI_4, cut_from, cut_to, List.drop_succ_cons, List.drop_zero, List.take_succ_cons, List.take_zero, List.drop_nil, List.take_nil, Int.reduceLE, blsD_map, blsD_cons, blsD_nil, set_ref, setO_cons, isList_ref, Option.isSome_some, Int.reduceLE, Int.reduceLT, Int.cast_ofNat_Int, Int.reduceToNat, List.getElem?_cons_succ, List.getElem?_cons_zero, Int.reduceNeg, Int.reduceAdd, at_new, and_self, or_true, true_or, true_and, and_true, Int.reducePow, Int.reduceSub, Int.reduceMul, seq_ref, seqO_lst, seqO_frz, lst_ref, lstO_lst, len_ref, list_ref, tuple_ref, all_ref, any_ref, add_ref, slc_ref, len_tup, list_tup, int_int, int_bl, abs_int, max_int, min_int, slc_tup, rev_tup, seqWk_tup, zipWk_tup, rng_one, rng_two, wkEnum_items, Option.map_some, Option.bind_some, setAll,
  List.set_cons_zero, List.set_cons_succ, List.set_set, List.foldl_nil, List.foldl_cons, List.length_cons, List.length_nil, List.map_cons, List.map_nil, List.cons_append, List.nil_append, List.replicate_succ, List.replicate_zero, Nat.reduceAdd, Nat.reduceSub, Bool.not_true, Bool.not_false, if_true, if_false, Bool.false_eq_true, decide_eq_true_eq, Nat.reduceLeDiff, lim_lit, wipe, isi_tup, isi_str, isi_int, isi_bool, Bool.and_true, Bool.and_false, Bool.true_and, Bool.false_and, tpB_tup, tpB_str, tpB_bl, tpB_int, tpB_non, tpB_ref, isStr_tup, isStr_str, isStr_bl, isStr_int, isStr_non, isStr_ref, isBl_tup, isBl_str, isBl_bl, isBl_int, isBl_non, isBl_ref, isInt_tup, isInt_str, isInt_bl, isInt_int, isInt_non, isInt_ref])
local macro_rules | `(tactic| walk_at "dr") => `(tactic| (refine draw_ok (by assumption) (by assumption) (by first | assumption | omega | decide) (by first | omega | decide) ?_; intro r A' r0 r1 hp f))
local macro_rules | `(tactic| walk_at "an") => `(tactic| (refine any_ok (by assumption) (by assumption) (Pot.snoc (by assumption) _) at_new (Nat.ne_of_gt (Pot.lt (by assumption))) (by simp) (by simp) ?_; intro d A' hm hp f))
local macro_rules | `(tactic| walk_at "fr") => `(tactic| repeat first | exact Fr.refl _ _ | assumption | refine Fr.snoc ?_ _ | refine Fr.trans ?_ (by assumption) | refine Fr.trans ?_ (Fr.nil (by assumption)))
local macro_rules | `(tactic| walk_at "g1") => `(tactic| try simp only [*, wps_nil, wps_ex, wps_asg, wps_par, wps_ret, wps_cond, wps_loop, wps_brk, wps_cont, wps_pass, wp_ret, wp_slot, wp_cst, wp_tup, wp_lst, wp_bin, wp_neg, wp_cmp, wp_chain, wp_and, wp_or, wp_not, wp_ifx, wp_idx, wp_slc, wp_rev, wp_call, wp_meth, wp_blt, wp_listR, wp_isi, wp_comp, wp_dct, wp_nil, wp_cons, wp_knil, wp_kcons, wp_onone, wp_osome, wp_iseq, wp_irng, wp_ienum, wp_izip, wp_tslot, wp_ttup, wp_titem, wp_tnil, wp_tcons, wp_fnil, wp_fone, wp_ok, wp_of1, wp_of, wp_of1n, wp_ofn, wp_onB, wp_onBn, wp_calm, wp_bind, wp_ite, wp_exc, wp_bad,
  getL_0, getL_s, bin_add, bin_sub, bin_mul, bin_fdiv, bin_mod, bin_tup, bin_str, cmp_lt, cmp_le, cmp_gt, cmp_ge, cmp_eqI, cmp_eqS, cmp_neI, cmp_neS, cmp_eqB, in_str2, in_str3, truth_bl, truth_int, truth_tup, truth_non, neg_int, intOf_int, tupOf_tup, idx_tup, idx_ref, idxO_lst, atI_0, atI_1, atI_2, atI_3, atI_4, cut_from, cut_to, List.drop_succ_cons, List.drop_zero, List.take_succ_cons, List.take_zero, List.drop_nil, List.take_nil, Int.reduceLE, Int.reduceBEq, blsD_map, blsD_cons, blsD_nil, set_ref, setO_cons, isList_ref, Option.isSome_some, Int.reduceLE, Int.reduceLT, Int.cast_ofNat_Int, Int.reduceToNat, List.getElem?_cons_succ, List.getElem?_cons_zero, Int.reduceNeg, Int.reduceAdd, at_new, and_self, or_true, true_or, true_and, and_true, Int.reducePow, Int.reduceSub, Int.reduceMul, seq_ref, seqO_lst, seqO_frz, lst_ref, lstO_lst, len_ref, list_ref, tuple_ref, all_ref, any_ref, add_ref, slc_ref, len_tup, list_tup, int_int, int_bl, abs_int, max_int, min_int, slc_tup, rev_tup, seqWk_tup, zipWk_tup, rng_one, rng_two, wkEnum_items, Option.map_some, Option.bind_some, setAll,
  List.set_cons_zero, List.set_cons_succ, List.set_set, List.foldl_nil, List.foldl_cons, List.length_cons, List.length_nil, List.map_cons, List.map_nil, List.cons_append, List.nil_append, List.replicate_succ, List.replicate_zero, Nat.reduceAdd, Nat.reduceSub, Bool.not_true, Bool.not_false, if_true, if_false, Bool.false_eq_true, decide_eq_true_eq, Nat.reduceLeDiff, lim_lit, wipe, isi_tup, isi_str, isi_int, isi_bool, Bool.and_true, Bool.and_false, Bool.true_and, Bool.false_and, tpB_tup, tpB_str, tpB_bl, tpB_int, tpB_non, tpB_ref, isStr_tup, isStr_str, isStr_bl, isStr_int, isStr_non, isStr_ref, isBl_tup, isBl_str, isBl_bl, isBl_int, isBl_non, isBl_ref, isInt_tup, isInt_str, isInt_bl, isInt_int, isInt_non, isInt_ref])
section
variable {P : CProg} {k p : Nat} {A : AH} {Q : D → AH → Prop} {E : Ex → AH → Prop}
theorem okDs_app {b N : Nat} {xs ys : List D} (h : okDs b N xs) (g : okDs b N ys) : okDs b N (xs ++ ys) := by
  rw [okDs_iff] at *
  intro d hd
  rcases List.mem_append.mp hd with hd | hd
  · exact h d hd
  · exact g d hd
theorem okDs_sub {b N : Nat} {xs ys : List D} (h : okDs b N xs) (g : ∀ y ∈ ys, y ∈ xs) : okDs b N ys := by
  rw [okDs_iff] at *
  exact fun d hd => h d (g d hd)
theorem okDs_take {b N n : Nat} {xs : List D} (h : okDs b N xs) : okDs b N (xs.take n) := okDs_sub h fun _ => List.mem_of_mem_take
theorem okDs_drop {b N n : Nat} {xs : List D} (h : okDs b N xs) : okDs b N (xs.drop n) := okDs_sub h fun _ => List.mem_of_mem_drop
def inB (ws : List Str) : D → Bool
  | .str w => ws.any (· == w)
  | _ => false
theorem eqF_str {ws : List Str} {x : D} (h : isStr x = false) : ((ws.map D.str).any fun z => eqF z x) = false := by
  induction ws with
  | nil => rfl
  | cons w ws ih => cases x <;> first | (simp only [List.map_cons, List.any_cons, ih]; rfl) | cases h
theorem in_any {ws : List Str} {x : D} {b : Nat} (hx : okD b A.length x) : cmpD .inn x (.tup (ws.map D.str)) A = some (inB ws x) := by
  have h1 : (ws.map D.str).all flatD = true := by
    induction ws with
    | nil => rfl
    | cons w ws ih => simpa [flatD] using ih
  have h2 : (ws.map D.str).all isStrD = true := by
    induction ws with
    | nil => rfl
    | cons w ws ih => simpa [isStrD] using ih
  show inD x (.tup (ws.map D.str)) A = _
  simp only [inD, seqOf, h1, if_true]
  cases x with
  | str w =>
    simp only [flatD, if_true, inB]
    congr 1
    clear h1 h2
    induction ws with
    | nil => rfl
    | cons v ws ih => simp only [List.map_cons, List.any_cons, ih]; rfl
  | non => simp only [flatD, if_true, inB]; rw [eqF_str rfl]
  | bl _ => simp only [flatD, if_true, inB]; rw [eqF_str rfl]
  | int _ => simp only [flatD, if_true, inB]; rw [eqF_str rfl]
  | tup _ => rfl
  | ref n =>
    simp only [flatD, Bool.false_eq_true, if_false, inB]
    have hn : n < A.length := hx
    rw [if_pos]
    simp only [isSeq, isDct, seqOf, List.getElem?_eq_getElem hn, h2, Bool.and_true]
    cases A[n] <;> rfl
theorem dict3 {a b c : L2.Key} {x y z : D} (h1 : a ≠ b) (h2 : a ≠ c) (h3 : b ≠ c) : kPut (kPut (kPut [] a x) b y) c z = [(a, x), (b, y), (c, z)] := by
  simp [kPut, h1, h2, h3]
theorem splice {ds : List D} {v : D} {pl : Int} (h0 : 0 ≤ pl) (hl : ds.length ≤ 1000000) : (Wp (Res.of (if (List.take pl.toNat ds).length ≤ 16777215 then some (D.tup (List.take pl.toNat ds ++ [v]), A) else none))
    (fun x A => Wp (Res.of (binD BOp.add x (D.tup (cut ds (some (pl + 1)) none)) A)) (fun d A => Q d A) E) E) ↔ Q (.tup (ds.take pl.toNat ++ [v] ++ ds.drop (pl + 1).toNat)) A := by
  have l1 := List.length_take_le' pl.toNat ds
  have l2 : (List.drop (pl + 1).toNat ds).length ≤ ds.length := by rw [List.length_drop]; omega
  rw [if_pos (by omega), wp_of, bin_tup, cut_from (by omega), if_pos, wp_of]
  simp only [List.length_append, List.length_cons, List.length_nil, lim]
  omega
theorem okD_splice {ds : List D} {v : D} {b n m N : Nat} (h : ds.length ≤ b) (hd : okDs b N ds) (hv : okD b N v) : okD (2 * b + 2) N (.tup (ds.take n ++ [v] ++ ds.drop m)) := by
  have l1 := List.length_take_le' n ds
  have l2 : (List.drop m ds).length ≤ ds.length := by rw [List.length_drop]; omega
  refine ⟨?_, okDs.mono (by omega) (Nat.le_refl _) (okDs_app (okDs_app (okDs_take hd) (show okDs b N [v] from ⟨hv, trivial⟩)) (okDs_drop hd))⟩
  simp only [List.length_append, List.length_cons, List.length_nil]
  omega
theorem okD_cut {xs : List D} {lo hi : Option Int} {b N : Nat} (h : okDs b N xs) (hl : xs.length ≤ b) : okD b N (.tup (cut xs lo hi)) := by
  unfold cut
  refine ⟨?_, okDs_take (okDs_drop h)⟩
  rw [List.length_take, List.length_drop]
  omega
/-- a line bent -/
theorem bentLine17 (h : Is18 P) {a : Int} {ds : List D} {b : Nat} (hp : Pot p A) (hb : 3 ≤ b) (hb2 : b ≤ 100000) (hd : okD b A.length (.tup ds)) (h2 : 2 ≤ ds.length)
    (go : ∀ d A', okD (2 * b + 2) A'.length d → Pot p A' → Fr [p] A A' → Q d A') : Wp ((fns P (k + 5)).call 17 [.ref p, .tup ds, .int a] A) Q E := by
  have h7 := h.d7
  have h8 := h.d8
  obtain ⟨x, y, r, rfl⟩ : ∃ x y r, ds = x :: y :: r := by
    match ds, h2 with
    | x :: y :: r, _ => exact ⟨x, y, r, rfl⟩
  obtain ⟨hl, hx, hy, hr⟩ := hd
  simp only [List.length_cons] at hl
  rw [wp_def h.d17 rfl]; unfold b18_17
  rw [wps_cons]
  walk_at "g1"
  refine draw_ok h7 hp (by decide) (by decide) fun kind A1 k0 k1 hp1 f1 => ?_
  walk_at "g1"
  rw [wps_cons]
  have rest : ∀ A4, Pot p A4 → Fr [p] A A4 → WpS (evSs P (fns P (k + 4)) (b18_17.drop 2) [some (D.ref p), some (D.tup (x :: y :: r)), some (D.int a), some (D.int kind), none, none] A4) ⟨fun x A => Q D.non A, Q, fun _ _ => False, fun _ _ => False, E⟩ := fun A4 hp f => by
    show WpS (evSs P (fns P (k + 4)) (_ :: _) _ A4) _
    have ok4 : okDs b A4.length (x :: y :: r) := okDs.mono (Nat.le_refl _) f.le ⟨hx, hy, hr⟩
    rw [wps_cons]
    walk_at "g1"
    split
    · rw [wps_cons]
      walk_at "g1"
      rw [wps_cons]
      walk_at "g1"
      walk_at "an"
      rename_i v A5 hv hp5 f5
      have l5 := f5.le
      rw [List.length_append] at l5
      have e : okD b A5.length v := by
        simp only [List.mem_cons, List.not_mem_nil, or_false] at hv
        rcases hv with rfl | rfl | rfl | rfl | rfl | rfl | rfl | rfl | rfl | rfl | rfl | rfl | rfl <;> simp [okD, okDs] <;> omega
      walk_at "g1"
      refine (wp_if (by omega)).mpr ?_
      walk_at "g1"
      refine go _ _ ⟨by simp only [List.length_cons]; omega, okDs.mono (by omega) (Nat.le_refl _) (show okDs b A5.length (v :: y :: r) from ⟨e, (okDs.mono (Nat.le_refl _) (by omega) ok4).2⟩)⟩ hp5 ?_
      walk_at "fr"
    rw [wps_cons]
    walk_at "g1"
    split
    · rw [wps_cons]
      walk_at "g1"
      refine (wp_if (by omega)).mpr ?_
      walk_at "g1"
      refine (wp_if (by omega)).mpr ?_
      walk_at "g1"
      refine any_ok h7 h8 ((hp.snoc _).snoc _) at_new (Nat.ne_of_gt (hp.snoc _).lt) (by simp) (by simp) fun v A5 hv hp5 f5 => ?_
      have l5 := f5.le
      simp only [List.length_append, List.length_cons, List.length_nil] at l5
      refine go _ _ ?_ hp5 (by walk_at "fr")
      have o1 : okD (2 * b + 2) A5.length x := hx.mono (by omega) (Nat.le_trans f.le (by omega))
      have o2 : okD (2 * b + 2) A5.length y := hy.mono (by omega) (Nat.le_trans f.le (by omega))
      have o3 : okDs (2 * b + 2) A5.length r := hr.mono (by omega) (Nat.le_trans f.le (by omega))
      have o4 : okDs (2 * b + 2) A5.length (x :: y :: r) := ⟨o1, o2, o3⟩
      simp only [List.mem_cons, List.not_mem_nil, or_false] at hv
      rcases hv with rfl | rfl | rfl | rfl | rfl | rfl
      · exact ⟨by simp only [List.length_cons, List.length_append, List.length_nil]; omega, o1, o2, okDs_app o3 ⟨trivial, trivial⟩⟩
      · exact okD_cut o4 (by simp only [List.length_cons]; omega)
      · exact ⟨by simp only [List.length_cons, List.length_nil]; omega, o1, trivial⟩
      · show A4.length < A5.length
        omega
      · exact ⟨by simp only [List.length_cons]; omega, o2, o3⟩
      · exact ⟨by simp only [List.length_cons, List.length_append, List.length_nil]; omega, o1, o2, okDs_app o3 ⟨o1, trivial⟩⟩
    have rest2 : WpS (evSs P (fns P (k + 4)) (b18_17.drop 5) [some (D.ref p), some (D.tup (x :: y :: r)), some (D.int a), some (D.int kind), none, none] A4) ⟨fun x A => Q D.non A, Q, fun _ _ => False, fun _ _ => False, E⟩ := by
      show WpS (evSs P (fns P (k + 4)) (_ :: _) _ A4) _
      rw [wps_cons]
      walk_at "g1"
      split
      · rw [wps_cons]
        walk_at "g1"
        refine odd16 h hp fun v A5 hv hp5 f5 => go _ _ (hv.mono (by omega) (Nat.le_refl _)) hp5 (f.trans f5)
      rw [wps_cons]
      walk_at "g1"
      refine draw_ok h7 hp (by omega) (by omega) fun q A5 q0 q1 hp5 f5 => ?_
      walk_at "g1"
      rw [wps_cons]
      walk_at "g1"
      rw [cut_to (by omega)]
      walk_at "g1"
      refine odd16 h hp5 fun v A6 hv hp6 f6 => ?_
      walk_at "g1"
      have f16 : Fr [p] A A6 := by walk_at "fr"
      rw [splice (by omega) (by simp only [List.length_cons]; omega)]
      exact go _ _ (okD_splice (by simpa using hl) (okDs.mono (Nat.le_refl _) f16.le ⟨hx, hy, hr⟩) (hv.mono (by omega) (Nat.le_refl _))) hp6 f16
    rw [wps_cons]
    walk_at "g1"
    split
    · rw [show cmpD COp.inn x (D.tup [D.str (Str.ofString "all"), D.str (Str.ofString "some")]) A4 = some (inB ["all", "some"] x) from in_any (ws := ["all", "some"]) (hx.mono (Nat.le_refl _) f.le)]
      walk_at "g1"
      by_cases c : inB ["all", "some"] x = true
      · rw [if_pos c]
        cases y with
        | tup ts =>
          have hts := hy
          obtain ⟨lts, hts⟩ := hts
          walk_at "g1"
          rw [wps_cons]
          walk_at "g1"
          refine odd16 h (hp.snoc _) fun u A5 hu hp5 f5 => ?_
          walk_at "g1"
          refine (wp_if (by omega)).mpr ?_
          walk_at "g1"
          refine odd16 h hp5 fun w A6 hw hp6 f6 => ?_
          walk_at "g1"
          refine (wp_if (by omega)).mpr ?_
          walk_at "g1"
          rw [wps_cons]
          walk_at "g1"
          walk_at "an"
          rename_i v A7 hv hp7 f7
          have f17 : Fr [p] A A7 := by walk_at "fr"
          have l5 := f5.le
          have l7 := f7.le
          have l6 := f6.le
          simp only [List.length_append, List.length_cons, List.length_nil] at l5 l7
          refine go _ _ ?_ hp7 f17
          have o1 : okD (2 * b + 2) A7.length x := hx.mono (by omega) f17.le
          have o3 : okDs (2 * b + 2) A7.length ts := hts.mono (by omega) f17.le
          have o4 : okD (2 * b + 2) A7.length (.tup ts) := ⟨by omega, o3⟩
          have hu' : okD (2 * b + 2) A7.length u := hu.mono (by omega) (by omega)
          have hw' : okD (2 * b + 2) A7.length w := hw.mono (by omega) (by omega)
          refine ⟨by simp only [List.length_cons, List.length_nil]; omega, o1, ?_, trivial⟩
          simp only [List.mem_cons, List.not_mem_nil, or_false] at hv
          rcases hv with rfl | rfl | rfl | rfl | rfl | rfl
          · show A4.length < A7.length
            omega
          · exact ⟨by simp only [List.length_cons, List.length_append, List.length_nil]; omega, okDs_app o3 ⟨hu', trivial⟩⟩
          · exact ⟨by simp only [List.length_cons, List.length_append, List.length_nil]; omega, hw', o3⟩
          · trivial
          · trivial
          · exact ⟨by simp only [List.length_cons, List.length_nil]; omega, o4, trivial⟩
        | _ =>
          walk_at "g1"
          exact rest2
      · simp only [Bool.not_eq_true] at c
        simp only [c, Bool.false_eq_true, if_false, wps_nil]
        exact rest2
    · exact rest2
  walk_at "g1"
  rw [show cmpD COp.inn x (D.tup [D.str (Str.ofString "hue"), D.str (Str.ofString "many"), D.str (Str.ofString "tie")]) A1 = some (inB ["hue", "many", "tie"] x) from in_any (ws := ["hue", "many", "tie"]) (hx.mono (Nat.le_refl _) f1.le)]
  walk_at "g1"
  by_cases c : inB ["hue", "many", "tie"] x = true
  · rw [if_pos c]
    by_cases c2 : 2 < (r.length : Int) + 1 + 1
    · rw [if_pos (by omega)]
      walk_at "dr"
      walk_at "g1"
      rename_i q A2 q0 q1 hp2 f2
      split
      · obtain ⟨w, rfl, hw⟩ : ∃ w, x = .str w ∧ (w = ("hue" : Str) ∨ w = ("many" : Str) ∨ w = ("tie" : Str)) := by
          cases x with
          | str w =>
            simp only [inB, List.any_cons, List.any_nil, Bool.or_false, Bool.or_eq_true, beq_iff_eq] at c
            exact ⟨w, rfl, c.imp Eq.symm (Or.imp Eq.symm Eq.symm)⟩
          | _ => cases c
        rw [wps_cons]
        walk_at "g1"
        simp only [keyD]
        walk_at "g1"
        rw [dict3 (by decide +kernel) (by decide +kernel) (by decide +kernel)]
        generalize h3 : A2 ++ [AO.lst [D.int 10, D.int 9]] ++ [AO.lst [D.int 0, D.int 41, D.int 40, D.int 1]] ++ [AO.lst [D.int 4, D.int 3]] = A3
        have n2 := hp2.lt
        have g1 : A3[A2.length]? = some (AO.lst [D.int 10, D.int 9]) := by rw [← h3]; exact at_snoc (at_snoc at_new)
        have g2 : A3[List.length (A2 ++ [AO.lst [D.int 10, D.int 9]])]? = some (AO.lst [D.int 0, D.int 41, D.int 40, D.int 1]) := by rw [← h3]; exact at_snoc at_new
        have g3 : A3[List.length (A2 ++ [AO.lst [D.int 10, D.int 9]] ++ [AO.lst [D.int 0, D.int 41, D.int 40, D.int 1]])]? = some (AO.lst [D.int 4, D.int 3]) := by rw [← h3]; exact at_new
        have hp3 : Pot p A3 := by rw [← h3]; exact ((hp2.snoc _).snoc _).snoc _
        have f3 : Fr [p] A2 A3 := by rw [← h3]; walk_at "fr"
        have e : ∃ (pl : Int) (n : Nat) (xs : List D), idxO (D.str w) (AO.dct [(Sum.inr (Str.ofString "hue"), D.tup [D.int 2, D.ref (List.length A2)]),
              (Sum.inr (Str.ofString "many"), D.tup [D.int 2, D.ref (List.length (A2 ++ [AO.lst [D.int 10, D.int 9]]))]),
              (Sum.inr (Str.ofString "tie"), D.tup [D.int 1, D.ref (List.length (A2 ++ [AO.lst [D.int 10, D.int 9]] ++ [AO.lst [D.int 0, D.int 41, D.int 40, D.int 1]]))])]) = some (.tup [.int pl, .ref n]) ∧
            A3[n]? = some (.lst xs) ∧ 0 ≤ pl ∧ 0 < xs.length ∧ xs.length < 1000 ∧ n ≠ p ∧ ∀ x ∈ xs, ∀ b N, okD b N x := by
          rcases hw with rfl | rfl | rfl
          · exact ⟨2, _, _, by kernel_rfl, g1, by decide, by decide, by decide, by omega, by simp [okD]⟩
          · exact ⟨2, _, _, by kernel_rfl, g2, by decide, by decide, by decide, by simp only [List.length_append]; omega, by simp [okD]⟩
          · exact ⟨1, _, _, by kernel_rfl, g3, by decide, by decide, by decide, by simp only [List.length_append]; omega, by simp [okD]⟩
        obtain ⟨pl, n, xs, e, gn, pl0, xl0, xl1, np, xok⟩ := e
        rw [e]
        walk_at "g1"
        rw [wps_cons]
        walk_at "g1"
        refine any_ok h7 h8 (hp3.snoc _) (at_snoc gn) np xl0 (by omega) fun v A4 hv hp4 f4 => ?_
        walk_at "g1"
        rw [splice pl0 (by simp only [List.length_cons]; omega)]
        have f14 : Fr [p] A A4 := by walk_at "fr"
        exact go _ _ (okD_splice (by simpa using hl) (okDs.mono (Nat.le_refl _) f14.le ⟨hx, hy, hr⟩) (xok v hv _ _)) hp4 f14
      · exact rest _ hp2 (by walk_at "fr")
    · rw [if_neg (by omega), if_neg (by omega)]
      exact rest _ hp1 f1
  · simp only [Bool.not_eq_true] at c
    simp only [c, Bool.false_eq_true, if_false, wps_nil]
    exact rest _ hp1 f1
end
end Kin
end
section
set_option linter.all false
set_option maxRecDepth 100000
set_option maxHeartbeats 1000000
namespace Kin
open PySem
local macro_rules | `(tactic| walk_at "go") => `(tactic| try simp only [wps_nil, wps_cons, wps_ex, wps_asg, wps_par, wps_ret, wps_cond, wps_loop, wps_brk, wps_cont, wps_pass, wp_ret, wp_slot, wp_cst, wp_tup, wp_lst, wp_bin, wp_neg, wp_cmp, wp_chain, wp_and, wp_or, wp_not, wp_ifx, wp_idx, wp_slc, wp_rev, wp_call, wp_meth, wp_blt, wp_listR, wp_isi, wp_comp, wp_dct, wp_nil, wp_cons, wp_knil, wp_kcons, wp_onone, wp_osome, wp_iseq, wp_irng, wp_ienum, wp_izip, wp_tslot, wp_ttup, wp_titem, wp_tnil, wp_tcons, wp_fnil, wp_fone, wp_ok, wp_of1, wp_of, wp_of1n, wp_ofn, wp_onB, wp_onBn, wp_calm, wp_bind, wp_ite, wp_exc, wp_bad,
  getL_0, getL_s, bin_add, bin_sub, bin_mul, bin_fdiv, bin_mod, bin_tup, bin_str, cmp_lt, cmp_le, cmp_gt, cmp_ge, cmp_eqI, cmp_eqS, cmp_neI, cmp_neS, cmp_eqB, in_str2, in_str3, truth_bl, truth_int, truth_tup, truth_non, neg_int, intOf_int, tupOf_tup, idx_tup, idx_ref, idxO_lst, atI_0, atI_1, atI_2, atI_3, atI_4, cut_from, cut_to, List.drop_succ_cons, List.drop_zero, List.take_succ_cons, List.take_zero, List.drop_nil, List.take_nil, Int.reduceLE, Int.reduceBEq, blsD_map, blsD_cons, blsD_nil, set_ref, setO_cons, isList_ref, Option.isSome_some, Int.reduceLE, Int.reduceLT, Int.cast_ofNat_Int, Int.reduceToNat, List.getElem?_cons_succ, List.getElem?_cons_zero, Int.reduceNeg, Int.reduceAdd, at_new, and_self, or_true, true_or, true_and, and_true, Int.reducePow, Int.reduceSub, Int.reduceMul, seq_ref, seqO_lst, seqO_frz, lst_ref, lstO_lst, len_ref, list_ref, tuple_ref, all_ref, any_ref, add_ref, slc_ref, len_tup, list_tup, int_int, int_bl, abs_int, max_int, min_int, slc_tup, rev_tup, seqWk_tup, zipWk_tup, rng_one, rng_two, wkEnum_items, Option.map_some, Option.bind_some, setAll,
  List.set_cons_zero, List.set_cons_succ, List.set_set, List.foldl_nil, List.foldl_cons, List.length_cons, List.length_nil, List.map_cons, List.map_nil, List.cons_append, List.nil_append, List.replicate_succ, List.replicate_zero, Nat.reduceAdd, Nat.reduceSub, Bool.not_true, Bool.not_false, if_true, if_false, Bool.false_eq_true, decide_eq_true_eq, Nat.reduceLeDiff, lim_lit, wipe, isi_tup, isi_str, isi_int, isi_bool, Bool.and_true, Bool.and_false, Bool.true_and, Bool.false_and, tpB_tup, tpB_str, tpB_bl, tpB_int, tpB_non, tpB_ref, isStr_tup, isStr_str, isStr_bl, isStr_int, isStr_non, isStr_ref, isBl_tup, isBl_str, isBl_bl, isBl_int, isBl_non, isBl_ref, isInt_tup, isInt_str, isInt_bl, isInt_int, isInt_non, isInt_ref])
local macro_rules | `(tactic| walk_at "goh") => `(tactic| try simp only [*, Int.reduceBEq, wps_nil, wps_cons, wps_ex, wps_asg, wps_par, wps_ret, wps_cond, wps_loop, wps_brk, wps_cont, wps_pass, wp_ret, wp_slot, wp_cst, wp_tup, wp_lst, wp_bin, wp_neg, wp_cmp, wp_chain, wp_and, wp_or, wp_not, wp_ifx, wp_idx, wp_slc, wp_rev, wp_call, wp_meth, wp_blt, wp_listR, wp_isi, wp_comp, wp_dct, wp_nil, wp_cons, wp_knil, wp_kcons, wp_onone, wp_osome, wp_iseq, wp_irng, wp_ienum, wp_izip, wp_tslot, wp_ttup, wp_titem, wp_tnil, wp_tcons, wp_fnil, wp_fone, wp_ok, wp_of1, wp_of, wp_of1n, wp_ofn, wp_onB, wp_onBn, wp_calm, wp_bind, wp_ite, wp_exc, wp_bad,
  getL_0, getL_s, bin_add, bin_sub, bin_mul, bin_fdiv, bin_mod, bin_tup, bin_str, cmp_lt, cmp_le, cmp_gt, cmp_ge, cmp_eqI, cmp_eqS, cmp_neI, cmp_neS, cmp_eqB, in_str2, in_str3, truth_bl, truth_int, truth_tup, truth_non, neg_int, intOf_int, tupOf_tup, idx_tup, idx_ref, idxO_lst, atI_0, atI_1, atI_2, atI_3, atI_4, cut_from, cut_to, List.drop_succ_cons, List.drop_zero, List.take_succ_cons, List.take_zero, List.drop_nil, List.take_nil, Int.reduceLE, blsD_map, blsD_cons, blsD_nil, set_ref, setO_cons, isList_ref, Option.isSome_some, Int.reduceLE, Int.reduceLT, Int.cast_ofNat_Int, Int.reduceToNat, List.getElem?_cons_succ, List.getElem?_cons_zero, Int.reduceNeg, Int.reduceAdd, at_new, and_self, or_true, true_or, true_and, and_true, Int.reducePow, Int.reduceSub, Int.reduceMul, seq_ref, seqO_lst, seqO_frz, lst_ref, lstO_lst, len_ref, list_ref, tuple_ref, all_ref, any_ref, add_ref, slc_ref, len_tup, list_tup, int_int, int_bl, abs_int, max_int, min_int, slc_tup, rev_tup, seqWk_tup, zipWk_tup, rng_one, rng_two, wkEnum_items, Option.map_some, Option.bind_some, setAll,
  List.set_cons_zero, List.set_cons_succ, List.set_set, List.foldl_nil, List.foldl_cons, List.length_cons, List.length_nil, List.map_cons, List.map_nil, List.cons_append, List.nil_append, List.replicate_succ, List.replicate_zero, Nat.reduceAdd, Nat.reduceSub, Bool.not_true, Bool.not_false, if_true, if_false, Bool.false_eq_true, decide_eq_true_eq, Nat.reduceLeDiff, lim_lit, wipe, isi_tup, isi_str, isi_int, isi_bool, Bool.and_true, Bool.and_false, Bool.true_and, Bool.false_and, tpB_tup, tpB_str, tpB_bl, tpB_int, tpB_non, tpB_ref, isStr_tup, isStr_str, isStr_bl, isStr_int, isStr_non, isStr_ref, isBl_tup, isBl_str, isBl_bl, isBl_int, isBl_non, isBl_ref, isInt_tup, isInt_str, isInt_bl, isInt_int, isInt_non, isInt_ref])
local macro_rules | `(tactic| walk_at "dr") => `(tactic| (refine draw_ok (by assumption) (by assumption) (by first | assumption | omega | decide) (by first | omega | decide) ?_; intro r A' r0 r1 hp f))
local macro_rules | `(tactic| walk_at "an") => `(tactic| (refine any_ok (by assumption) (by assumption) (Pot.snoc (by assumption) _) at_new (Nat.ne_of_gt (Pot.lt (by assumption))) (by simp) (by simp) ?_; intro d A' hm hp f))
local macro_rules | `(tactic| walk_at "fr") => `(tactic| repeat first | exact Fr.refl _ _ | assumption | refine Fr.snoc ?_ _ | refine Fr.trans ?_ (by assumption) | refine Fr.trans ?_ (Fr.nil (by assumption)))
local macro_rules | `(tactic| walk_at "g1") => `(tactic| try simp only [*, wps_nil, wps_ex, wps_asg, wps_par, wps_ret, wps_cond, wps_loop, wps_brk, wps_cont, wps_pass, wp_ret, wp_slot, wp_cst, wp_tup, wp_lst, wp_bin, wp_neg, wp_cmp, wp_chain, wp_and, wp_or, wp_not, wp_ifx, wp_idx, wp_slc, wp_rev, wp_call, wp_meth, wp_blt, wp_listR, wp_isi, wp_comp, wp_dct, wp_nil, wp_cons, wp_knil, wp_kcons, wp_onone, wp_osome, wp_iseq, wp_irng, wp_ienum, wp_izip, wp_tslot, wp_ttup, wp_titem, wp_tnil, wp_tcons, wp_fnil, wp_fone, wp_ok, wp_of1, wp_of, wp_of1n, wp_ofn, wp_onB, wp_onBn, wp_calm, wp_bind, wp_ite, wp_exc, wp_bad,
  getL_0, getL_s, bin_add, bin_sub, bin_mul, bin_fdiv, bin_mod, bin_tup, bin_str, cmp_lt, cmp_le, cmp_gt, cmp_ge, cmp_eqI, cmp_eqS, cmp_neI, cmp_neS, cmp_eqB, in_str2, in_str3, truth_bl, truth_int, truth_tup, truth_non, neg_int, intOf_int, tupOf_tup, idx_tup, idx_ref, idxO_lst, atI_0, atI_1, atI_2, atI_3, atI_4, cut_from, cut_to, List.drop_succ_cons, List.drop_zero, List.take_succ_cons, List.take_zero, List.drop_nil, List.take_nil, Int.reduceLE, Int.reduceBEq, blsD_map, blsD_cons, blsD_nil, set_ref, setO_cons, isList_ref, Option.isSome_some, Int.reduceLE, Int.reduceLT, Int.cast_ofNat_Int, Int.reduceToNat, List.getElem?_cons_succ, List.getElem?_cons_zero, Int.reduceNeg, Int.reduceAdd, at_new, and_self, or_true, true_or, true_and, and_true, Int.reducePow, Int.reduceSub, Int.reduceMul, seq_ref, seqO_lst, seqO_frz, lst_ref, lstO_lst, len_ref, list_ref, tuple_ref, all_ref, any_ref, add_ref, slc_ref, len_tup, list_tup, int_int, int_bl, abs_int, max_int, min_int, slc_tup, rev_tup, seqWk_tup, zipWk_tup, rng_one, rng_two, wkEnum_items, Option.map_some, Option.bind_some, setAll,
  List.set_cons_zero, List.set_cons_succ, List.set_set, List.foldl_nil, List.foldl_cons, List.length_cons, List.length_nil, List.map_cons, List.map_nil, List.cons_append, List.nil_append, List.replicate_succ, List.replicate_zero, Nat.reduceAdd, Nat.reduceSub, Bool.not_true, Bool.not_false, if_true, if_false, Bool.false_eq_true, decide_eq_true_eq, Nat.reduceLeDiff, lim_lit, wipe, isi_tup, isi_str, isi_int, isi_bool, Bool.and_true, Bool.and_false, Bool.true_and, Bool.false_and, tpB_tup, tpB_str, tpB_bl, tpB_int, tpB_non, tpB_ref, isStr_tup, isStr_str, isStr_bl, isStr_int, isStr_non, isStr_ref, isBl_tup, isBl_str, isBl_bl, isBl_int, isBl_non, isBl_ref, isInt_tup, isInt_str, isInt_bl, isInt_int, isInt_non, isInt_ref])
theorem wd_hue_same : (("hue" : Str) == ("same" : Str)) = false := by decide +kernel
theorem we_hue_same : (("hue" : Str) = ("same" : Str)) = False := by simp only [eq_iff_iff, iff_false]; decide +kernel
theorem wd_hue_tie : (("hue" : Str) == ("tie" : Str)) = false := by decide +kernel
theorem we_hue_tie : (("hue" : Str) = ("tie" : Str)) = False := by simp only [eq_iff_iff, iff_false]; decide +kernel
theorem wd_hue_not : (("hue" : Str) == ("not" : Str)) = false := by decide +kernel
theorem we_hue_not : (("hue" : Str) = ("not" : Str)) = False := by simp only [eq_iff_iff, iff_false]; decide +kernel
theorem wd_hue_all : (("hue" : Str) == ("all" : Str)) = false := by decide +kernel
theorem we_hue_all : (("hue" : Str) = ("all" : Str)) = False := by simp only [eq_iff_iff, iff_false]; decide +kernel
theorem wd_hue_some : (("hue" : Str) == ("some" : Str)) = false := by decide +kernel
theorem we_hue_some : (("hue" : Str) = ("some" : Str)) = False := by simp only [eq_iff_iff, iff_false]; decide +kernel
theorem wd_hue_many : (("hue" : Str) == ("many" : Str)) = false := by decide +kernel
theorem we_hue_many : (("hue" : Str) = ("many" : Str)) = False := by simp only [eq_iff_iff, iff_false]; decide +kernel
theorem wd_same_hue : (("same" : Str) == ("hue" : Str)) = false := by decide +kernel
theorem we_same_hue : (("same" : Str) = ("hue" : Str)) = False := by simp only [eq_iff_iff, iff_false]; decide +kernel
theorem wd_same_tie : (("same" : Str) == ("tie" : Str)) = false := by decide +kernel
theorem we_same_tie : (("same" : Str) = ("tie" : Str)) = False := by simp only [eq_iff_iff, iff_false]; decide +kernel
theorem wd_same_not : (("same" : Str) == ("not" : Str)) = false := by decide +kernel
theorem we_same_not : (("same" : Str) = ("not" : Str)) = False := by simp only [eq_iff_iff, iff_false]; decide +kernel
theorem wd_same_all : (("same" : Str) == ("all" : Str)) = false := by decide +kernel
theorem we_same_all : (("same" : Str) = ("all" : Str)) = False := by simp only [eq_iff_iff, iff_false]; decide +kernel
theorem wd_same_some : (("same" : Str) == ("some" : Str)) = false := by decide +kernel
theorem we_same_some : (("same" : Str) = ("some" : Str)) = False := by simp only [eq_iff_iff, iff_false]; decide +kernel
theorem wd_same_many : (("same" : Str) == ("many" : Str)) = false := by decide +kernel
theorem we_same_many : (("same" : Str) = ("many" : Str)) = False := by simp only [eq_iff_iff, iff_false]; decide +kernel
theorem wd_tie_hue : (("tie" : Str) == ("hue" : Str)) = false := by decide +kernel
theorem we_tie_hue : (("tie" : Str) = ("hue" : Str)) = False := by simp only [eq_iff_iff, iff_false]; decide +kernel
theorem wd_tie_same : (("tie" : Str) == ("same" : Str)) = false := by decide +kernel
theorem we_tie_same : (("tie" : Str) = ("same" : Str)) = False := by simp only [eq_iff_iff, iff_false]; decide +kernel
theorem wd_tie_not : (("tie" : Str) == ("not" : Str)) = false := by decide +kernel
theorem we_tie_not : (("tie" : Str) = ("not" : Str)) = False := by simp only [eq_iff_iff, iff_false]; decide +kernel
theorem wd_tie_all : (("tie" : Str) == ("all" : Str)) = false := by decide +kernel
theorem we_tie_all : (("tie" : Str) = ("all" : Str)) = False := by simp only [eq_iff_iff, iff_false]; decide +kernel
theorem wd_tie_some : (("tie" : Str) == ("some" : Str)) = false := by decide +kernel
theorem we_tie_some : (("tie" : Str) = ("some" : Str)) = False := by simp only [eq_iff_iff, iff_false]; decide +kernel
theorem wd_tie_many : (("tie" : Str) == ("many" : Str)) = false := by decide +kernel
theorem we_tie_many : (("tie" : Str) = ("many" : Str)) = False := by simp only [eq_iff_iff, iff_false]; decide +kernel
theorem wd_not_hue : (("not" : Str) == ("hue" : Str)) = false := by decide +kernel
theorem we_not_hue : (("not" : Str) = ("hue" : Str)) = False := by simp only [eq_iff_iff, iff_false]; decide +kernel
theorem wd_not_same : (("not" : Str) == ("same" : Str)) = false := by decide +kernel
theorem we_not_same : (("not" : Str) = ("same" : Str)) = False := by simp only [eq_iff_iff, iff_false]; decide +kernel
theorem wd_not_tie : (("not" : Str) == ("tie" : Str)) = false := by decide +kernel
theorem we_not_tie : (("not" : Str) = ("tie" : Str)) = False := by simp only [eq_iff_iff, iff_false]; decide +kernel
theorem wd_not_all : (("not" : Str) == ("all" : Str)) = false := by decide +kernel
theorem we_not_all : (("not" : Str) = ("all" : Str)) = False := by simp only [eq_iff_iff, iff_false]; decide +kernel
theorem wd_not_some : (("not" : Str) == ("some" : Str)) = false := by decide +kernel
theorem we_not_some : (("not" : Str) = ("some" : Str)) = False := by simp only [eq_iff_iff, iff_false]; decide +kernel
theorem wd_not_many : (("not" : Str) == ("many" : Str)) = false := by decide +kernel
theorem we_not_many : (("not" : Str) = ("many" : Str)) = False := by simp only [eq_iff_iff, iff_false]; decide +kernel
theorem wd_all_hue : (("all" : Str) == ("hue" : Str)) = false := by decide +kernel
theorem we_all_hue : (("all" : Str) = ("hue" : Str)) = False := by simp only [eq_iff_iff, iff_false]; decide +kernel
theorem wd_all_same : (("all" : Str) == ("same" : Str)) = false := by decide +kernel
theorem we_all_same : (("all" : Str) = ("same" : Str)) = False := by simp only [eq_iff_iff, iff_false]; decide +kernel
theorem wd_all_tie : (("all" : Str) == ("tie" : Str)) = false := by decide +kernel
theorem we_all_tie : (("all" : Str) = ("tie" : Str)) = False := by simp only [eq_iff_iff, iff_false]; decide +kernel
theorem wd_all_not : (("all" : Str) == ("not" : Str)) = false := by decide +kernel
theorem we_all_not : (("all" : Str) = ("not" : Str)) = False := by simp only [eq_iff_iff, iff_false]; decide +kernel
theorem wd_all_some : (("all" : Str) == ("some" : Str)) = false := by decide +kernel
theorem we_all_some : (("all" : Str) = ("some" : Str)) = False := by simp only [eq_iff_iff, iff_false]; decide +kernel
theorem wd_all_many : (("all" : Str) == ("many" : Str)) = false := by decide +kernel
theorem we_all_many : (("all" : Str) = ("many" : Str)) = False := by simp only [eq_iff_iff, iff_false]; decide +kernel
theorem wd_some_hue : (("some" : Str) == ("hue" : Str)) = false := by decide +kernel
theorem we_some_hue : (("some" : Str) = ("hue" : Str)) = False := by simp only [eq_iff_iff, iff_false]; decide +kernel
theorem wd_some_same : (("some" : Str) == ("same" : Str)) = false := by decide +kernel
theorem we_some_same : (("some" : Str) = ("same" : Str)) = False := by simp only [eq_iff_iff, iff_false]; decide +kernel
theorem wd_some_tie : (("some" : Str) == ("tie" : Str)) = false := by decide +kernel
theorem we_some_tie : (("some" : Str) = ("tie" : Str)) = False := by simp only [eq_iff_iff, iff_false]; decide +kernel
theorem wd_some_not : (("some" : Str) == ("not" : Str)) = false := by decide +kernel
theorem we_some_not : (("some" : Str) = ("not" : Str)) = False := by simp only [eq_iff_iff, iff_false]; decide +kernel
theorem wd_some_all : (("some" : Str) == ("all" : Str)) = false := by decide +kernel
theorem we_some_all : (("some" : Str) = ("all" : Str)) = False := by simp only [eq_iff_iff, iff_false]; decide +kernel
theorem wd_some_many : (("some" : Str) == ("many" : Str)) = false := by decide +kernel
theorem we_some_many : (("some" : Str) = ("many" : Str)) = False := by simp only [eq_iff_iff, iff_false]; decide +kernel
theorem wd_many_hue : (("many" : Str) == ("hue" : Str)) = false := by decide +kernel
theorem we_many_hue : (("many" : Str) = ("hue" : Str)) = False := by simp only [eq_iff_iff, iff_false]; decide +kernel
theorem wd_many_same : (("many" : Str) == ("same" : Str)) = false := by decide +kernel
theorem we_many_same : (("many" : Str) = ("same" : Str)) = False := by simp only [eq_iff_iff, iff_false]; decide +kernel
theorem wd_many_tie : (("many" : Str) == ("tie" : Str)) = false := by decide +kernel
theorem we_many_tie : (("many" : Str) = ("tie" : Str)) = False := by simp only [eq_iff_iff, iff_false]; decide +kernel
theorem wd_many_not : (("many" : Str) == ("not" : Str)) = false := by decide +kernel
theorem we_many_not : (("many" : Str) = ("not" : Str)) = False := by simp only [eq_iff_iff, iff_false]; decide +kernel
theorem wd_many_all : (("many" : Str) == ("all" : Str)) = false := by decide +kernel
theorem we_many_all : (("many" : Str) = ("all" : Str)) = False := by simp only [eq_iff_iff, iff_false]; decide +kernel
theorem wd_many_some : (("many" : Str) == ("some" : Str)) = false := by decide +kernel
theorem we_many_some : (("many" : Str) = ("some" : Str)) = False := by simp only [eq_iff_iff, iff_false]; decide +kernel
local macro_rules | `(tactic| walk_at "wd") => `(tactic| try simp only [wd_hue_same, we_hue_same, wd_hue_tie, we_hue_tie, wd_hue_not, we_hue_not, wd_hue_all, we_hue_all, wd_hue_some, we_hue_some, wd_hue_many, we_hue_many, wd_same_hue, we_same_hue, wd_same_tie, we_same_tie, wd_same_not, we_same_not, wd_same_all, we_same_all, wd_same_some, we_same_some, wd_same_many, we_same_many, wd_tie_hue, we_tie_hue, wd_tie_same, we_tie_same, wd_tie_not, we_tie_not, wd_tie_all, we_tie_all, wd_tie_some, we_tie_some, wd_tie_many, we_tie_many, wd_not_hue, we_not_hue, wd_not_same, we_not_same, wd_not_tie, we_not_tie, wd_not_all, we_not_all, wd_not_some, we_not_some, wd_not_many, we_not_many, wd_all_hue, we_all_hue, wd_all_same, we_all_same, wd_all_tie, we_all_tie, wd_all_not, we_all_not, wd_all_some, we_all_some, wd_all_many, we_all_many, wd_some_hue, we_some_hue, wd_some_same, we_some_same, wd_some_tie, we_some_tie, wd_some_not, we_some_not, wd_some_all, we_some_all, wd_some_many, we_some_many, wd_many_hue, we_many_hue, wd_many_same, we_many_same, wd_many_tie, we_many_tie, wd_many_not, we_many_not, wd_many_all, we_many_all, wd_many_some, we_many_some, beq_self_eq_true, if_true, if_false, Bool.false_eq_true, Bool.not_true, Bool.not_false, false_or, or_false, or_true, true_or])
section
variable {P : CProg} {k p : Nat} {A : AH} {Q : D → AH → Prop} {E : Ex → AH → Prop}
theorem Line.shape {a : Int} {d : D} (h : Line a d) : ∃ w x r, d = .tup (.str w :: x :: r) ∧ r.length ≤ 2 ∧ ∀ y ∈ (D.str w :: x :: r), ∀ A, ∃ c, cmpD .eq y (.int 1) A = some c ∧ (c = true → y = .int 1) := by
  have hi : ∀ i : Int, ∀ A, ∃ c, cmpD .eq (.int i) (.int 1) A = some c ∧ (c = true → D.int i = .int 1) := fun i A => ⟨_, rfl, fun e => by rw [show i = 1 from eq_of_beq (show (i == 1) = true from e)]⟩
  have hs : ∀ i : Str, ∀ A, ∃ c, cmpD .eq (.str i) (.int 1) A = some c ∧ (c = true → D.str i = .int 1) := fun i A => ⟨_, rfl, fun e => by cases e⟩
  have ht : ∀ i : List D, ∀ A, ∃ c, cmpD .eq (.tup i) (.int 1) A = some c ∧ (c = true → D.tup i = .int 1) := fun i A => ⟨_, rfl, fun e => by cases e⟩
  cases h <;> refine ⟨_, _, _, rfl, by simp, fun y hy => ?_⟩ <;> simp only [List.mem_cons, List.not_mem_nil, or_false] at hy
  · rcases hy with rfl | rfl | rfl <;> first | exact hi _ | exact hs _
  · rcases hy with rfl | rfl | rfl <;> first | exact hi _ | exact hs _
  · rcases hy with rfl | rfl | rfl | rfl <;> first | exact hi _ | exact hs _
  · rcases hy with rfl | rfl <;> first | exact hi _ | exact hs _
  · rcases hy with rfl | rfl <;> first | exact ht _ | exact hs _
  · rcases hy with rfl | rfl | rfl | rfl <;> first | exact hi _ | exact hs _
theorem Line.okD {a : Int} {d : D} (h : Line a d) (b N : Nat) (hb : 4 ≤ b) : okD b N d := by
  cases h <;> simp [Kin.okD, okDs] <;> try omega
  exact ⟨by omega, by omega, okDs_iff.mpr fun d hd => by
    obtain ⟨i, _, rfl⟩ := List.mem_map.mp hd
    trivial⟩
theorem Line.right {a : Int} {d : D} (h : Line a d) : JL a d = true := by
  cases h with
  | hue h1 h2 h3 h4 => simp only [JL]; walk_at "wd"; simp [fits, below, *]
  | same h1 h2 h3 h4 => simp only [JL]; walk_at "wd"; simp [fits, below, *]
  | tie h1 h2 h3 h4 h5 h6 => simp only [JL]; walk_at "wd"; simp [fits, below, *]
  | not h1 h2 => simp only [JL]; walk_at "wd"; simp [fits, below, *]
  | lines h1 h2 h3 =>
    simp only [JL]
    rcases h1 with rfl | rfl <;> walk_at "wd" <;> simpa [allB, below] using h3
  | many h1 h2 h3 h4 h5 h6 => simp only [JL]; walk_at "wd"; simp [fits, below, *]; omega
theorem justOut18 (h : Is18 P) {a : Int} {d : D} (hp : Pot p A) (hd : Line a d) (a0 : 0 ≤ a) (go : ∀ d' A', JL a d' = false → okD 8 A'.length d' → Pot p A' → Fr [p] A A' → Q d' A') :
    Wp ((fns P (k + 3)).call 18 [.ref p, d, .int a] A) Q E := by
  have h7 := h.d7
  have h8 := h.d8
  obtain ⟨w, x, r, rfl, lr, hc⟩ := hd.shape
  have hok := hd.okD 7 A.length (by decide)
  rw [wp_def h.d18 rfl]; unfold b18_18
  rw [wps_cons]
  walk_at "g1"
  rw [wps_cons]
  walk_at "g1"
  rw [okR_of (by omega) (by omega) (by omega) (by omega)]
  walk_at "g1"
  refine comp_items (fun i acc B => B = A ∧ acc.length ≤ i ∧ ∀ v ∈ acc, ∃ j : Nat, v = .int j ∧ 1 ≤ j ∧ (D.str w :: x :: r)[j]? = some (.int 1)) (by rw [rngItems_len]; unfold fuel; omega) ⟨rfl, by simp, by simp⟩ (fun i v acc B hv ⟨hB, hi, ha⟩ => ?_) fun acc B ⟨hB, hi, ha⟩ => ?_
  · subst hB
    obtain ⟨rfl, hj⟩ := rngItems_at hv
    have lj : i + 1 < (D.str w :: x :: r).length := by simp only [List.length_cons] at hj ⊢; omega
    walk_at "go"
    rw [show (1 : Int) + (i : Nat) = ((i + 1 : Nat) : Int) by omega, L2.atI_nat (List.getElem?_eq_getElem lj)]
    walk_at "go"
    obtain ⟨c, e, hc⟩ := hc _ (List.getElem_mem lj) B
    rw [e]
    walk_at "go"
    have la : acc.length < 16777216 := by omega
    cases c with
    | false => simp only [Bool.false_eq_true, if_false, wp_ok, true_and]; exact ⟨by omega, ha⟩
    | true =>
      simp only [la, if_true, wp_ok, true_and]
      refine ⟨by simp; omega, fun v hv => ?_⟩
      rcases List.mem_append.mp hv with hv | hv
      · exact ha v hv
      · rw [List.mem_singleton.mp hv]
        exact ⟨i + 1, rfl, by omega, by rw [List.getElem?_eq_getElem lj, hc rfl]⟩
  · subst hB
    have hpB : Pot p (B ++ [.lst acc]) := hp.snoc _
    have rest : ∀ A4, Pot p A4 → Fr [p] B A4 → WpS (evSs P (fns P (k + 2)) (b18_18.drop 3) [some (D.ref p), some (.tup (.str w :: x :: r)), some (D.int a), some (.str w), some (D.ref B.length), none, none] A4) ⟨fun x A => Q D.non A, Q, fun _ _ => False, fun _ _ => False, E⟩ := fun A4 hp f => by
      show WpS (evSs P (fns P (k + 2)) (_ :: _) _ A4) _
      generalize hd0 : D.tup (.str w :: x :: r) = d at *
      cases hd with
      | hue h1 h2 h3 h4 =>
        cases hd0
        walk_at "go"
        walk_at "wd"
        walk_at "go"
        walk_at "an"
        rename_i v A5 hv hp5 f5
        have e : JL a v = false ∧ Kin.okD 8 A5.length v := by
          simp only [List.mem_cons, List.not_mem_nil, or_false] at hv
          rcases hv with rfl | rfl | rfl <;> (simp only [JL]; walk_at "wd"; simp [fits, below, Kin.okD, okDs])
        exact go _ _ e.1 e.2 hp5 (by walk_at "fr")
      | same h1 h2 h3 h4 =>
        cases hd0
        walk_at "go"
        walk_at "wd"
        walk_at "go"
        walk_at "an"
        rename_i v A5 hv hp5 f5
        have e : JL a v = false ∧ Kin.okD 8 A5.length v := by
          simp only [List.mem_cons, List.not_mem_nil, or_false] at hv
          rcases hv with rfl | rfl <;> (simp only [JL]; walk_at "wd"; simp [fits, below, Kin.okD, okDs])
        exact go _ _ e.1 e.2 hp5 (by walk_at "fr")
      | tie h1 h2 h3 h4 h5 h6 =>
        cases hd0
        walk_at "go"
        walk_at "wd"
        walk_at "go"
        walk_at "an"
        rename_i v A5 hv hp5 f5
        have e : JL a v = false ∧ Kin.okD 8 A5.length v := by
          simp only [List.mem_cons, List.not_mem_nil, or_false] at hv
          rcases hv with rfl | rfl | rfl <;> (simp only [JL]; walk_at "wd"; simp [fits, below, Kin.okD, okDs])
        exact go _ _ e.1 e.2 hp5 (by walk_at "fr")
      | not h1 h2 =>
        cases hd0
        walk_at "go"
        walk_at "wd"
        walk_at "go"
        walk_at "an"
        rename_i v A5 hv hp5 f5
        have e : JL a v = false ∧ Kin.okD 8 A5.length v := by
          simp only [List.mem_cons, List.not_mem_nil, or_false] at hv
          rcases hv with rfl | rfl <;> (simp only [JL]; walk_at "wd"; simp [fits, below, Kin.okD, okDs])
        exact go _ _ e.1 e.2 hp5 (by walk_at "fr")
      | many h1 h2 h3 h4 h5 h6 =>
        cases hd0
        walk_at "go"
        walk_at "wd"
        walk_at "go"
        rw [at_snoc at_new]
        walk_at "go"
        refine any_ok h7 h8 ((hp.snoc _).snoc _ |>.snoc _) at_new (Nat.ne_of_gt ((hp.snoc _).snoc _).lt) (by simp) (by simp) fun v A5 hv hp5 f5 => ?_
        have e : JL a v = false ∧ Kin.okD 8 A5.length v := by
          simp only [List.mem_cons, List.not_mem_nil, or_false] at hv
          rcases hv with rfl | rfl | rfl | rfl | rfl <;> (simp only [JL]; walk_at "wd"; simp [fits, below, Kin.okD, okDs])
        exact go _ _ e.1 e.2 hp5 (by walk_at "fr")
      | @lines w0 ns h1 h2 h3 =>
        cases hd0
        have hw : (w == ("hue" : Str)) = false ∧ (w == ("same" : Str)) = false ∧ (w == ("tie" : Str)) = false ∧ (w == ("not" : Str)) = false ∧ (w == ("many" : Str)) = false := by
          rcases h1 with rfl | rfl <;> (walk_at "wd"; simp)
        obtain ⟨w1, w2, w3, w4, w5⟩ := hw
        walk_at "goh"
        refine (wp_if (by rw [List.length_map]; omega)).mpr ?_
        walk_at "goh"
        refine (wp_if (by rw [List.length_map]; omega)).mpr ?_
        walk_at "goh"
        refine (wp_if (by rw [List.length_map]; omega)).mpr ?_
        walk_at "goh"
        refine any_ok h7 h8 ((hp.snoc _).snoc _) at_new (Nat.ne_of_gt (hp.snoc _).lt) (by simp) (by simp) fun v A5 hv hp5 f5 => ?_
        have l5 := f5.le
        simp only [List.length_append, List.length_cons, List.length_nil] at l5
        have o3 : okDs 8 A5.length (ns.map D.int) := okDs_iff.mpr fun d hd => by
          obtain ⟨i, _, rfl⟩ := List.mem_map.mp hd
          trivial
        have c6 : w = ("all" : Str) ∨ w = ("some" : Str) := h1
        simp only [beq_eq_false_iff_ne, ne_eq] at w1 w2 w3 w4 w5
        have e : JL a (.tup [.str w, v]) = false ∧ Kin.okD 8 A5.length (.tup [.str w, v]) := by
          simp only [JL, if_neg w1, if_neg w2, if_neg w3, if_neg w4, if_neg w5, if_pos c6]
          simp only [List.mem_cons, List.not_mem_nil, or_false] at hv
          rcases hv with rfl | rfl | rfl | rfl
          · exact ⟨by simp [allB, below], by simp, trivial, ⟨by simp; omega, okDs_app o3 ⟨trivial, trivial⟩⟩, trivial⟩
          · exact ⟨by simp [allB, below], by simp, trivial, ⟨by simp; omega, trivial, o3⟩, trivial⟩
          · exact ⟨by simp [allB, below], by simp, trivial, ⟨by simp; omega, okDs_app o3 ⟨trivial, trivial⟩⟩, trivial⟩
          · exact ⟨by simp [allB, below], by simp, trivial, (by omega : A4.length < A5.length), trivial⟩
        exact go _ _ e.1 e.2 hp5 (by walk_at "fr")
    rw [wps_cons]
    walk_at "g1"
    cases acc with
    | nil =>
      simp only [List.length_nil]
      walk_at "g1"
      exact rest _ hpB (by walk_at "fr")
    | cons v vs =>
      obtain ⟨j, rfl, j1, hj⟩ := ha v List.mem_cons_self
      rw [if_pos (by simp only [List.length_cons]; omega)]
      walk_at "dr"
      walk_at "g1"
      rename_i q A4 q0 q1 hp4 f4
      have e4 : A4[B.length]? = some (.lst (.int j :: vs)) := f4.get at_new (by simpa using Nat.ne_of_gt hp.lt)
      split
      · rw [wps_cons]
        walk_at "g1"
        rw [cut_to (by omega)]
        refine (wp_if (by rw [List.length_take]; simp only [List.length_cons]; omega)).mpr ?_
        walk_at "g1"
        rw [cut_from (by omega)]
        walk_at "g1"
        refine (wp_if (by simp only [List.length_append, List.length_take, List.length_drop, List.length_cons, List.length_nil]; omega)).mpr ?_
        walk_at "g1"
        rw [Int.toNat_natCast, show ((j : Int) + 1).toNat = j + 1 by omega]
        refine go _ _ ?_ ?_ hp4 (by walk_at "fr")
        · clear rest hok hc ha e4
          generalize hd0 : D.tup (.str w :: x :: r) = d at *
          cases hd with
          | hue h1 h2 h3 h4 =>
            cases hd0
            obtain rfl | rfl : j = 1 ∨ j = 2 := by
              have := (List.getElem?_eq_some_iff.mp hj).1
              simp only [List.length_cons, List.length_nil] at this
              omega
            · simp only [JL, List.take_succ_cons, List.take_zero, List.drop_succ_cons, List.drop_zero, List.cons_append, List.nil_append]; walk_at "wd"; simp [fits, below]
            · simp only [JL, List.take_succ_cons, List.take_zero, List.drop_succ_cons, List.drop_zero, List.cons_append, List.nil_append]; walk_at "wd"; simp [fits, below]
          | same h1 h2 h3 h4 =>
            cases hd0
            obtain rfl | rfl : j = 1 ∨ j = 2 := by
              have := (List.getElem?_eq_some_iff.mp hj).1
              simp only [List.length_cons, List.length_nil] at this
              omega
            · simp only [JL, List.take_succ_cons, List.take_zero, List.drop_succ_cons, List.drop_zero, List.cons_append, List.nil_append]; walk_at "wd"; simp [fits, below]
            · simp only [JL, List.take_succ_cons, List.take_zero, List.drop_succ_cons, List.drop_zero, List.cons_append, List.nil_append]; walk_at "wd"; simp [fits, below]
          | tie h1 h2 h3 h4 h5 h6 =>
            cases hd0
            obtain rfl | rfl | rfl : j = 1 ∨ j = 2 ∨ j = 3 := by
              have := (List.getElem?_eq_some_iff.mp hj).1
              simp only [List.length_cons, List.length_nil] at this
              omega
            · simp only [JL, List.take_succ_cons, List.take_zero, List.drop_succ_cons, List.drop_zero, List.cons_append, List.nil_append]; walk_at "wd"; simp [fits, below]
            · simp only [JL, List.take_succ_cons, List.take_zero, List.drop_succ_cons, List.drop_zero, List.cons_append, List.nil_append]; walk_at "wd"; simp [fits, below]
            · simp only [JL, List.take_succ_cons, List.take_zero, List.drop_succ_cons, List.drop_zero, List.cons_append, List.nil_append]; walk_at "wd"; simp [fits, below]
          | not h1 h2 =>
            cases hd0
            obtain rfl : j = 1 := by
              have := (List.getElem?_eq_some_iff.mp hj).1
              simp only [List.length_cons, List.length_nil] at this
              omega
            simp only [JL, List.take_succ_cons, List.take_zero, List.drop_succ_cons, List.drop_zero, List.cons_append, List.nil_append]; walk_at "wd"; simp [fits, below]
          | many h1 h2 h3 h4 h5 h6 =>
            cases hd0
            obtain rfl | rfl | rfl : j = 1 ∨ j = 2 ∨ j = 3 := by
              have := (List.getElem?_eq_some_iff.mp hj).1
              simp only [List.length_cons, List.length_nil] at this
              omega
            · simp only [JL, List.take_succ_cons, List.take_zero, List.drop_succ_cons, List.drop_zero, List.cons_append, List.nil_append]; walk_at "wd"; simp [fits, below]
            · simp only [JL, List.take_succ_cons, List.take_zero, List.drop_succ_cons, List.drop_zero, List.cons_append, List.nil_append]; walk_at "wd"; simp [fits, below]
            · simp only [JL, List.take_succ_cons, List.take_zero, List.drop_succ_cons, List.drop_zero, List.cons_append, List.nil_append]; walk_at "wd"; simp [fits, below]
          | lines h1 h2 h3 =>
            cases hd0
            exfalso
            obtain rfl : j = 1 := by
              have := (List.getElem?_eq_some_iff.mp hj).1
              simp only [List.length_cons, List.length_nil] at this
              omega
            cases hj
        · refine ⟨?_, okDs.mono (by omega) (Nat.le_refl _) (okDs_app (okDs_app (okDs_take (okDs.mono (Nat.le_refl _) (f4.le) (okDs.mono (Nat.le_refl _) (by simp) hok.2))) (show okDs 7 A4.length [.bl true] from ⟨trivial, trivial⟩)) (okDs_drop (okDs.mono (Nat.le_refl _) (f4.le) (okDs.mono (Nat.le_refl _) (by simp) hok.2))))⟩
          simp only [List.length_append, List.length_take, List.length_drop, List.length_cons, List.length_nil]
          omega
      · exact rest _ hp4 (by walk_at "fr")
end
end Kin
end
section
set_option linter.all false
set_option maxRecDepth 100000
set_option maxHeartbeats 1000000
namespace Kin
open PySem
local macro_rules | `(tactic| walk_at "go") => `(tactic| try simp only [wps_nil, wps_cons, wps_ex, wps_asg, wps_par, wps_ret, wps_cond, wps_loop, wps_brk, wps_cont, wps_pass, wp_ret, wp_slot, wp_cst, wp_tup, wp_lst, wp_bin, wp_neg, wp_cmp, wp_chain, wp_and, wp_or, wp_not, wp_ifx, wp_idx, wp_slc, wp_rev, wp_call, wp_meth, wp_blt, wp_listR, wp_isi, wp_comp, wp_dct, wp_nil, wp_cons, wp_knil, wp_kcons, wp_onone, wp_osome, wp_iseq, wp_irng, wp_ienum, wp_izip, wp_tslot, wp_ttup, wp_titem, wp_tnil, wp_tcons, wp_fnil, wp_fone, wp_ok, wp_of1, wp_of, wp_of1n, wp_ofn, wp_onB, wp_onBn, wp_calm, wp_bind, wp_ite, wp_exc, wp_bad,
  getL_0, getL_s, bin_add, bin_sub, bin_mul, bin_fdiv, bin_mod, bin_tup, bin_str, cmp_lt, cmp_le, cmp_gt, cmp_ge, cmp_eqI, cmp_eqS, cmp_neI, cmp_neS, cmp_eqB, in_str2, in_str3, truth_bl, truth_int, truth_tup, truth_non, neg_int, intOf_int, tupOf_tup, idx_tup, idx_ref, idxO_lst, atI_0, atI_1, atI_2, atI_3, atI_4, cut_from, cut_to, List.drop_succ_cons, List.drop_zero, List.take_succ_cons, List.take_zero, List.drop_nil, List.take_nil, Int.reduceLE, Int.reduceBEq, blsD_map, blsD_cons, blsD_nil, set_ref, setO_cons, isList_ref, Option.isSome_some, Int.reduceLE, Int.reduceLT, Int.cast_ofNat_Int, Int.reduceToNat, List.getElem?_cons_succ, List.getElem?_cons_zero, Int.reduceNeg, Int.reduceAdd, at_new, and_self, or_true, true_or, true_and, and_true, Int.reducePow, Int.reduceSub, Int.reduceMul, seq_ref, seqO_lst, seqO_frz, lst_ref, lstO_lst, len_ref, list_ref, tuple_ref, all_ref, any_ref, add_ref, slc_ref, len_tup, list_tup, int_int, int_bl, abs_int, max_int, min_int, slc_tup, rev_tup, seqWk_tup, zipWk_tup, rng_one, rng_two, wkEnum_items, Option.map_some, Option.bind_some, setAll,
  List.set_cons_zero, List.set_cons_succ, List.set_set, List.foldl_nil, List.foldl_cons, List.length_cons, List.length_nil, List.map_cons, List.map_nil, List.cons_append, List.nil_append, List.replicate_succ, List.replicate_zero, Nat.reduceAdd, Nat.reduceSub, Bool.not_true, Bool.not_false, if_true, if_false, Bool.false_eq_true, decide_eq_true_eq, Nat.reduceLeDiff, lim_lit, wipe, isi_tup, isi_str, isi_int, isi_bool, Bool.and_true, Bool.and_false, Bool.true_and, Bool.false_and, tpB_tup, tpB_str, tpB_bl, tpB_int, tpB_non, tpB_ref, isStr_tup, isStr_str, isStr_bl, isStr_int, isStr_non, isStr_ref, isBl_tup, isBl_str, isBl_bl, isBl_int, isBl_non, isBl_ref, isInt_tup, isInt_str, isInt_bl, isInt_int, isInt_non, isInt_ref])
local macro_rules | `(tactic| walk_at "goh") => `(tactic| try simp only [*, Int.reduceBEq, wps_nil, wps_cons, wps_ex, wps_asg, wps_par, wps_ret, wps_cond, wps_loop, wps_brk, wps_cont, wps_pass, wp_ret, wp_slot, wp_cst, wp_tup, wp_lst, wp_bin, wp_neg, wp_cmp, wp_chain, wp_and, wp_or, wp_not, wp_ifx, wp_idx, wp_slc, wp_rev, wp_call, wp_meth, wp_blt, wp_listR, wp_isi, wp_comp, wp_dct, wp_nil, wp_cons, wp_knil, wp_kcons, wp_onone, wp_osome, wp_iseq, wp_irng, wp_ienum, wp_izip, wp_tslot, wp_ttup, wp_titem, wp_tnil, wp_tcons, wp_fnil, wp_fone, wp_ok, wp_of1, wp_of, wp_of1n, wp_ofn, wp_onB, wp_onBn, wp_calm, wp_bind, wp_ite, wp_exc, wp_bad,
  getL_0, getL_s, bin_add, bin_sub, bin_mul, bin_fdiv, bin_mod, bin_tup, bin_str, cmp_lt, cmp_le, cmp_gt, cmp_ge, cmp_eqI, cmp_eqS, cmp_neI, cmp_neS, cmp_eqB, in_str2, in_str3, truth_bl, truth_int, truth_tup, truth_non, neg_int, intOf_int, tupOf_tup, idx_tup, idx_ref, idxO_lst, atI_0, atI_1, atI_2, atI_3, atI_4, cut_from, cut_to, List.drop_succ_cons, List.drop_zero, List.take_succ_cons, List.take_zero, List.drop_nil, List.take_nil, Int.reduceLE, blsD_map, blsD_cons, blsD_nil, set_ref, setO_cons, isList_ref, Option.isSome_some, Int.reduceLE, Int.reduceLT, Int.cast_ofNat_Int, Int.reduceToNat, List.getElem?_cons_succ, List.getElem?_cons_zero, Int.reduceNeg, Int.reduceAdd, at_new, and_self, or_true, true_or, true_and, and_true, Int.reducePow, Int.reduceSub, Int.reduceMul, seq_ref, seqO_lst, seqO_frz, lst_ref, lstO_lst, len_ref, list_ref, tuple_ref, all_ref, any_ref, add_ref, slc_ref, len_tup, list_tup, int_int, int_bl, abs_int, max_int, min_int, slc_tup, rev_tup, seqWk_tup, zipWk_tup, rng_one, rng_two, wkEnum_items, Option.map_some, Option.bind_some, setAll,
  List.set_cons_zero, List.set_cons_succ, List.set_set, List.foldl_nil, List.foldl_cons, List.length_cons, List.length_nil, List.map_cons, List.map_nil, List.cons_append, List.nil_append, List.replicate_succ, List.replicate_zero, Nat.reduceAdd, Nat.reduceSub, Bool.not_true, Bool.not_false, if_true, if_false, Bool.false_eq_true, decide_eq_true_eq, Nat.reduceLeDiff, lim_lit, wipe, isi_tup, isi_str, isi_int, isi_bool, Bool.and_true, Bool.and_false, Bool.true_and, Bool.false_and, tpB_tup, tpB_str, tpB_bl, tpB_int, tpB_non, tpB_ref, isStr_tup, isStr_str, isStr_bl, isStr_int, isStr_non, isStr_ref, isBl_tup, isBl_str, isBl_bl, isBl_int, isBl_non, isBl_ref, isInt_tup, isInt_str, isInt_bl, isInt_int, isInt_non, isInt_ref])
local macro_rules | `(tactic| walk_at "dr") => `(tactic| (refine draw_ok (by assumption) (by assumption) (by first | assumption | omega | decide) (by first | omega | decide) ?_; intro r A' r0 r1 hp f))
local macro_rules | `(tactic| walk_at "an") => `(tactic| (refine any_ok (by assumption) (by assumption) (Pot.snoc (by assumption) _) at_new (Nat.ne_of_gt (Pot.lt (by assumption))) (by simp) (by simp) ?_; intro d A' hm hp f))
local macro_rules | `(tactic| walk_at "fr") => `(tactic| repeat first | exact Fr.refl _ _ | assumption | refine Fr.snoc ?_ _ | refine Fr.trans ?_ (by assumption) | refine Fr.trans ?_ (Fr.nil (by assumption)))
local macro_rules | `(tactic| walk_at "g1") => `(tactic| try simp only [*, wps_nil, wps_ex, wps_asg, wps_par, wps_ret, wps_cond, wps_loop, wps_brk, wps_cont, wps_pass, wp_ret, wp_slot, wp_cst, wp_tup, wp_lst, wp_bin, wp_neg, wp_cmp, wp_chain, wp_and, wp_or, wp_not, wp_ifx, wp_idx, wp_slc, wp_rev, wp_call, wp_meth, wp_blt, wp_listR, wp_isi, wp_comp, wp_dct, wp_nil, wp_cons, wp_knil, wp_kcons, wp_onone, wp_osome, wp_iseq, wp_irng, wp_ienum, wp_izip, wp_tslot, wp_ttup, wp_titem, wp_tnil, wp_tcons, wp_fnil, wp_fone, wp_ok, wp_of1, wp_of, wp_of1n, wp_ofn, wp_onB, wp_onBn, wp_calm, wp_bind, wp_ite, wp_exc, wp_bad,
  getL_0, getL_s, bin_add, bin_sub, bin_mul, bin_fdiv, bin_mod, bin_tup, bin_str, cmp_lt, cmp_le, cmp_gt, cmp_ge, cmp_eqI, cmp_eqS, cmp_neI, cmp_neS, cmp_eqB, in_str2, in_str3, truth_bl, truth_int, truth_tup, truth_non, neg_int, intOf_int, tupOf_tup, idx_tup, idx_ref, idxO_lst, atI_0, atI_1, atI_2, atI_3, atI_4, cut_from, cut_to, List.drop_succ_cons, List.drop_zero, List.take_succ_cons, List.take_zero, List.drop_nil, List.take_nil, Int.reduceLE, Int.reduceBEq, blsD_map, blsD_cons, blsD_nil, set_ref, setO_cons, isList_ref, Option.isSome_some, Int.reduceLE, Int.reduceLT, Int.cast_ofNat_Int, Int.reduceToNat, List.getElem?_cons_succ, List.getElem?_cons_zero, Int.reduceNeg, Int.reduceAdd, at_new, and_self, or_true, true_or, true_and, and_true, Int.reducePow, Int.reduceSub, Int.reduceMul, seq_ref, seqO_lst, seqO_frz, lst_ref, lstO_lst, len_ref, list_ref, tuple_ref, all_ref, any_ref, add_ref, slc_ref, len_tup, list_tup, int_int, int_bl, abs_int, max_int, min_int, slc_tup, rev_tup, seqWk_tup, zipWk_tup, rng_one, rng_two, wkEnum_items, Option.map_some, Option.bind_some, setAll,
  List.set_cons_zero, List.set_cons_succ, List.set_set, List.foldl_nil, List.foldl_cons, List.length_cons, List.length_nil, List.map_cons, List.map_nil, List.cons_append, List.nil_append, List.replicate_succ, List.replicate_zero, Nat.reduceAdd, Nat.reduceSub, Bool.not_true, Bool.not_false, if_true, if_false, Bool.false_eq_true, decide_eq_true_eq, Nat.reduceLeDiff, lim_lit, wipe, isi_tup, isi_str, isi_int, isi_bool, Bool.and_true, Bool.and_false, Bool.true_and, Bool.false_and, tpB_tup, tpB_str, tpB_bl, tpB_int, tpB_non, tpB_ref, isStr_tup, isStr_str, isStr_bl, isStr_int, isStr_non, isStr_ref, isBl_tup, isBl_str, isBl_bl, isBl_int, isBl_non, isBl_ref, isInt_tup, isInt_str, isInt_bl, isInt_int, isInt_non, isInt_ref])
section
variable {P : CProg} {k p : Nat} {A : AH} {Q : D → AH → Prop} {E : Ex → AH → Prop}
/-- a saying bent -/
theorem bent19 (h : Is18 P) {ds : List D} {b : Nat} (hp : Pot p A) (hb : 3 ≤ b) (hb2 : b ≤ 100000) (hd : okD b A.length (.tup ds)) (h2 : 0 < ds.length)
    (go : ∀ d A', okD (2 * b + 2) A'.length d → Pot p A' → Fr [p] A A' → Q d A') : Wp ((fns P (k + 6)).call 19 [.ref p, .tup ds] A) Q E := by
  have h7 := h.d7
  have h8 := h.d8
  obtain ⟨x, r, rfl⟩ : ∃ x r, ds = x :: r := by
    match ds, h2 with
    | x :: r, _ => exact ⟨x, r, rfl⟩
  obtain ⟨hl, hx, hr⟩ := hd
  simp only [List.length_cons] at hl
  rw [wp_def h.d19 rfl]; unfold b18_19
  rw [wps_cons]
  walk_at "g1"
  refine draw_ok h7 hp (by decide) (by decide) fun q A1 q0 q1 hp1 f1 => ?_
  walk_at "g1"
  split
  · rw [wps_cons]
    walk_at "g1"
    refine (wp_if (by omega)).mpr ?_
    walk_at "g1"
    generalize hB : A1 ++ [AO.lst (x :: r)] = B
    generalize hxs : [D.ref (List.length A1), D.tup [], D.non, x, D.tup (x :: (r ++ [D.non])), D.tup r, D.tup [D.tup (x :: r)],
              D.tup (x :: r).reverse, D.bl true, D.str (Str.ofString "hue")] = xs
    have lB : A1.length + 1 = B.length := by rw [← hB]; simp
    have hpB : Pot p B := by rw [← hB]; exact hp1.snoc _
    have fB : Fr [p] A B := by rw [← hB]; walk_at "fr"
    have lx : xs.length = 10 := by rw [← hxs]; rfl
    have o1 : okD b B.length x := hx.mono (Nat.le_refl _) fB.le
    have o2 : okDs b B.length r := hr.mono (Nat.le_refl _) fB.le
    have ok : ∀ d ∈ xs, okD (b + 1) B.length d := by
      intro d hm
      rw [← hxs] at hm
      have p1 : okD (b + 1) B.length x := o1.mono (by omega) (Nat.le_refl _)
      have p2 : okDs (b + 1) B.length r := o2.mono (by omega) (Nat.le_refl _)
      have p3 : okDs (b + 1) B.length (x :: r) := ⟨p1, p2⟩
      simp only [List.mem_cons, List.not_mem_nil, or_false] at hm
      rcases hm with rfl | rfl | rfl | rfl | rfl | rfl | rfl | rfl | rfl | rfl
      · exact (by omega : A1.length < B.length)
      · exact ⟨by simp, trivial⟩
      · trivial
      · exact p1
      · exact ⟨by simp; omega, p1, okDs_app p2 ⟨trivial, trivial⟩⟩
      · exact ⟨by omega, p2⟩
      · exact ⟨by simp, ⟨by simp; omega, p3⟩, trivial⟩
      · exact ⟨by simp; omega, okDs_sub p3 fun y hy => List.mem_reverse.mp hy⟩
      · trivial
      · trivial
    rw [wps_cons]
    walk_at "g1"
    refine deep11 h ((hpB.snoc _).snoc _) fun t A2 ht hp2 f2 => ?_
    walk_at "g1"
    refine (wp_if (by omega)).mpr ?_
    walk_at "g1"
    have e1 : ∀ o, (A2 ++ [o])[B.length]? = some (AO.lst xs) := fun o => at_snoc (f2.get (at_snoc at_new) (by simpa using Nat.ne_of_gt hpB.lt))
    walk_at "g1"
    refine any_ok h7 h8 ((hp2.snoc _).snoc _) at_new (Nat.ne_of_gt (hp2.snoc _).lt) (by simp [lx]) (by simp [lx]) fun v A5 hv hp5 f5 => ?_
    have l5 := f5.le
    have l2 := f2.le
    simp only [List.length_append, List.length_cons, List.length_nil] at l5 l2
    refine go _ _ ?_ hp5 (by walk_at "fr")
    rcases List.mem_append.mp hv with hv | hv
    · exact (ok v hv).mono (by omega) (by omega)
    · simp only [List.mem_cons, List.not_mem_nil, or_false] at hv
      have p3 : okDs (2 * b + 2) A5.length (x :: r) := ⟨o1.mono (by omega) (by omega), o2.mono (by omega) (by omega)⟩
      rcases hv with rfl | rfl | rfl | rfl
      · show List.length (B ++ _) < A5.length
        simp only [List.length_append, List.length_cons, List.length_nil]
        omega
      · trivial
      · exact ht.mono (by omega) (by omega)
      · exact ⟨by simp; omega, okDs_app p3 p3⟩
  · rw [wps_cons]
    walk_at "g1"
    refine draw_ok h7 hp1 (by omega) (by omega) fun i A2 i0 i1 hp2 f2 => ?_
    rw [wps_cons]
    walk_at "g1"
    obtain ⟨line, e, hm, _⟩ := atI_of (ds := x :: r) i0 (by simpa using i1)
    rw [e]
    have f02 : Fr [p] A A2 := by walk_at "fr"
    have okx : okDs b A2.length (x :: r) := ⟨hx.mono (Nat.le_refl _) f02.le, hr.mono (Nat.le_refl _) f02.le⟩
    have okl := okDs_iff.mp okx line hm
    walk_at "g1"
    rw [wps_cons]
    walk_at "g1"
    have same : Q (.tup (x :: r)) A2 := go _ _ ⟨by simp; omega, okDs.mono (by omega) (Nat.le_refl _) okx⟩ hp2 f02
    cases line with
    | tup ts =>
      walk_at "g1"
      split
      · rw [wps_cons]
        walk_at "g1"
      · rw [wps_cons]
        walk_at "g1"
        refine bentLine17 h hp2 hb hb2 okl (by omega) fun v A3 hv hp3 f3 => ?_
        walk_at "g1"
        rw [splice (by omega) (by simp only [List.length_cons]; omega)]
        have f03 : Fr [p] A A3 := by walk_at "fr"
        refine go _ _ ?_ hp3 f03
        have l1 := List.length_take_le' i.toNat (x :: r)
        have l2 : (List.drop (i + 1).toNat (x :: r)).length ≤ (x :: r).length := by rw [List.length_drop]; omega
        have okx3 : okDs (2 * b + 2) A3.length (x :: r) := okDs.mono (by omega) f3.le okx
        refine ⟨?_, okDs_app (okDs_app (okDs_take okx3) (show okDs (2 * b + 2) A3.length [v] from ⟨hv, trivial⟩)) (okDs_drop okx3)⟩
        simp only [List.length_append, List.length_cons, List.length_nil] at l1 l2 ⊢
        omega
    | _ =>
      walk_at "g1"
      rw [wps_cons]
      walk_at "g1"
theorem flag20 (h : Is18 P) {x y : Bool} : Wp ((fns P (k + 1)).call 20 [.bl x, .bl y] A) Q E ↔ Q (.bl (x == y)) A := by
  rw [wp_def h.d20 rfl]; unfold b18_20
  walk_at "go"
theorem JS_right {ds : List D} (h0 : 0 < ds.length) (h : ∀ i d, ds[i]? = some d → Line (i : Nat) d) : JS (.tup ds) = true := by
  match ds, h0 with
  | x :: r, _ =>
    simp only [JS, List.isEmpty_cons, Bool.not_false, Bool.true_and, List.all_eq_true]
    intro p hp
    obtain ⟨i, hi⟩ := List.mem_iff_getElem?.mp hp
    rw [List.getElem?_zipIdx] at hi
    cases e : (x :: r)[i]? with
    | none => rw [e] at hi; cases hi
    | some y =>
      rw [e] at hi
      cases hi
      rw [Nat.zero_add]
      exact (h i y e).right
theorem JS_wrong {ds : List D} {i : Nat} {d : D} (h : ds[i]? = some d) (g : JL (i : Nat) d = false) : JS (.tup ds) = false := by
  simp only [JS, Bool.and_eq_false_iff, List.all_eq_false]
  refine .inr ⟨(d, i), List.mem_iff_getElem?.mpr ⟨i, ?_⟩, by simp [g]⟩
  rw [List.getElem?_zipIdx, h]
  simp
theorem lines_ok {ds : List D} {b N : Nat} (hb : 4 ≤ b) (h : ∀ i d, ds[i]? = some d → Line (i : Nat) d) : okDs b N ds := okDs_iff.mpr fun d hd => by
  obtain ⟨i, hi⟩ := List.mem_iff_getElem?.mp hd
  exact (h i d hi).okD b N hb
theorem longRight21 (h : Is18 P) (hp : Pot p A) (go : ∀ A', Pot p A' → Fr [p] A A' → Q (.bl true) A') : Wp ((fns P (k + 8)).call 21 [.ref p] A) Q E := by
  have h7 := h.d7
  have h8 := h.d8
  rw [wp_def h.d21 rfl]; unfold b18_21
  rw [wps_cons]
  walk_at "g1"
  refine draw_ok h7 hp (by decide) (by decide) fun q A1 q0 q1 hp1 f1 => ?_
  walk_at "g1"
  refine saying10 h hp1 (by omega) (by omega) (by decide) (by decide) fun ds A2 hl hds hp2 f2 => ?_
  rw [wps_cons]
  walk_at "g1"
  have okd : okD 100000 A2.length (.tup ds) := ⟨by omega, lines_ok (by decide) hds⟩
  refine saying18 h (okd.mono (by decide) (Nat.le_refl _)) fun A3 f3 => ?_
  have hp3 := hp2.fr f3
  rw [JS_right (by omega) hds, flag20 h]
  walk_at "g1"
  simp only [beq_self_eq_true]
  walk_at "g1"
  rw [wps_cons]
  walk_at "g1"
  refine draw_ok h7 hp3 (by decide) (by decide) fun i A4 i0 i1 hp4 f4 => ?_
  walk_at "g1"
  rw [wps_cons]
  walk_at "g1"
  have b0 : 0 ≤ 1000 + q - 1 - i := by omega
  have b1 : 1000 + q - 1 - i < ds.length := by omega
  generalize 1000 + q - 1 - i = at_ at *
  obtain ⟨line, e, _, hm⟩ := atI_of b0 b1
  rw [e]
  walk_at "g1"
  have hline := hds _ _ hm
  obtain ⟨w, x, r, rfl, _, _⟩ := hline.shape
  refine bentLine17 h hp4 (b := 4) (by decide) (by decide) (hline.okD 4 _ (by decide)) (by simp) fun v A5 hv hp5 f5 => ?_
  walk_at "g1"
  rw [splice b0 (by omega)]
  rw [wps_cons]
  walk_at "g1"
  have l1 := List.length_take_le' at_.toNat ds
  have l2 : (List.drop (at_ + 1).toNat ds).length ≤ ds.length := by rw [List.length_drop]; omega
  have ok2 : ∀ N, okDs 10 N ds := fun N => lines_ok (by decide) hds
  have ok3 : okD 999999 A5.length (.tup (List.take at_.toNat ds ++ [v] ++ List.drop (at_ + 1).toNat ds)) := by
    refine ⟨?_, okDs.mono (by decide) (Nat.le_refl _) (okDs_app (okDs_app (okDs_take (ok2 A5.length)) (show okDs 10 A5.length [v] from ⟨hv, trivial⟩)) (okDs_drop (ok2 A5.length)))⟩
    simp only [List.length_append, List.length_cons, List.length_nil]
    omega
  refine saying18 h ok3 fun A6 f6 => ?_
  refine saying18b h (ok3.mono (Nat.le_refl _) f6.le) fun A7 f7 => ?_
  rw [flag20 h]
  simp only [beq_self_eq_true]
  exact go _ ((hp5.fr f6).fr f7) (by walk_at "fr")
theorem WpS.bkF {r : SRes} {a : Loc → AH → Prop} {b : D → AH → Prop} {d c : Loc → AH → Prop} {e : Ex → AH → Prop} (h : WpS r ⟨a, b, fun _ _ => False, c, e⟩) : WpS r ⟨a, b, d, c, e⟩ :=
  h.mono (fun _ _ z => z) (fun _ _ z => z) (fun _ _ z => z.elim) (fun _ _ z => z) fun _ _ z => z
def bd (i : Nat) : Nat := 24 * 2 ^ i - 2
theorem bd_succ (i : Nat) : bd (i + 1) = 2 * bd i + 2 := by
  have p3 : 1 ≤ 2 ^ i := Nat.one_le_two_pow
  simp only [bd, Nat.pow_succ]
  omega
theorem bd_le {i : Nat} (h : i < 3) : 22 ≤ bd i ∧ bd i ≤ 100 := by
  have : i = 0 ∨ i = 1 ∨ i = 2 := by omega
  rcases this with rfl | rfl | rfl <;> decide
/-- the law -/
theorem law22 (h : Is18 P) {ns : List Int} (hl : ns.length ≤ 63) : Wp ((fns P (k + 10)).call 22 [.ref 0] [.frz (ns.map D.int)]) (fun d _ => d = .bl true) fun _ _ => False := by
  have h7 := h.d7
  have h8 := h.d8
  rw [wp_def h.d22 rfl]; unfold b18_22
  rw [wps_cons]
  walk_at "g1"
  refine pot_ok h.d6 (ns := ns) rfl hl fun p A hp f0 p0 => ?_
  rw [wps_cons]
  walk_at "g1"
  refine draw_ok h7 hp (by decide) (by decide) fun q A1 q0 q1 hp1 f1 => ?_
  walk_at "g1"
  have main : ∀ A2, Pot p A2 → WpS (evSs P (fns P (k + 9)) (b18_22.drop 2) [some (D.ref 0), some (D.ref p), none, none, none, none, none, none] A2) ⟨fun _ _ => D.non = .bl true, fun d _ => d = .bl true, fun _ _ => False, fun _ _ => False, fun _ _ => False⟩ := fun A2 hp2 => by
    show WpS (evSs P (fns P (k + 9)) (_ :: _) _ A2) _
    rw [wps_cons]
    walk_at "g1"
    rw [okR_of (by decide) (by decide) (by decide) (by decide)]
    walk_at "g1"
    refine loop_items (fun i L B => ∃ l2 l3 l4 l5 l6 l7, L = [some (.ref 0), some (.ref p), l2, l3, l4, l5, l6, l7] ∧ Pot p B) (by rw [rngItems_len]; unfold fuel; decide) ⟨_, _, _, _, _, _, rfl, hp2⟩ (fun i x L B hx ⟨l2, l3, l4, l5, l6, l7, eL, hpB⟩ => ?_) fun L B ⟨l2, l3, l4, l5, l6, l7, eL, hpB⟩ => ?_
    · subst eL
      rw [wp_ofE]
      walk_at "g1"
      rw [wps_cons]
      walk_at "g1"
      refine draw_ok h7 hpB (by decide) (by decide) fun n B1 n0 n1 hpB1 g1 => ?_
      walk_at "g1"
      refine draw_ok h7 hpB1 (by decide) (by decide) fun m B2 m0 m1 hpB2 g2 => ?_
      walk_at "g1"
      walk_at "an"
      rename_i dp B3 hdp hpB3 g3
      obtain ⟨dpi, rfl⟩ : ∃ i, dp = .int i := by
        simp only [List.mem_cons, List.not_mem_nil, or_false] at hdp
        rcases hdp with rfl | rfl | rfl | rfl <;> exact ⟨_, rfl⟩
      refine saying10 h hpB3 (by omega) (by omega) (by omega) (by omega) fun ds B4 hl4 hds hpB4 g4 => ?_
      rw [wps_cons]
      walk_at "g1"
      have okd : ∀ N, okD 22 N (.tup ds) := fun N => ⟨by omega, lines_ok (by decide) hds⟩
      have right := JS_right (by omega) hds
      refine saying18 h ((okd B4.length).mono (by decide) (Nat.le_refl _)) fun B5 g5 => ?_
      rw [right, flag20 h]
      walk_at "g1"
      simp only [beq_self_eq_true]
      walk_at "g1"
      refine saying18b h ((okd B5.length).mono (by decide) (Nat.le_refl _)) fun B6 g6 => ?_
      rw [right]
      walk_at "g1"
      rw [wps_cons]
      walk_at "g1"
      refine loop_items (fun i L B => ∃ l4 l5, L = [some (.ref 0), some (.ref p), some x, some (.tup ds), l4, l5, l6, l7] ∧ Pot p B) (by rw [List.length_map, List.length_zipIdx]; unfold fuel; omega) ⟨_, _, rfl, (hpB4.fr g5).fr g6⟩ (fun j y L B hy ⟨l4, l5, eL, hpB⟩ => ?_) fun L B ⟨l4, l5, eL, hpB⟩ => ?_
      · subst eL
        rw [List.getElem?_map, List.getElem?_zipIdx] at hy
        cases ey : ds[j]? with
        | none => rw [ey] at hy; cases hy
        | some line =>
          rw [ey] at hy
          cases hy
          have lj := (List.getElem?_eq_some_iff.mp ey).1
          have hline := hds j line ey
          rw [wp_ofE]
          walk_at "g1"
          rw [wps_cons]
          walk_at "g1"
          simp only [Nat.zero_add]
          refine justOut18 h hpB hline (by omega) fun v B7 hv vok hpB7 g7 => ?_
          walk_at "g1"
          rw [cut_to (by omega)]
          rw [splice (by omega) (by omega)]
          have l1 := List.length_take_le' (j : Int).toNat ds
          have l2 : (List.drop ((j : Int) + 1).toNat ds).length ≤ ds.length := by rw [List.length_drop]; omega
          have okn : okDs 22 B7.length ds := (okd _).2
          have ok3 : okD 999999 B7.length (.tup (List.take (j : Int).toNat ds ++ [v] ++ List.drop ((j : Int) + 1).toNat ds)) := by
            refine ⟨?_, okDs.mono (by decide) (Nat.le_refl _) (okDs_app (okDs_app (okDs_take okn) (show okDs 22 B7.length [v] from ⟨vok.mono (by decide) (Nat.le_refl _), trivial⟩)) (okDs_drop okn))⟩
            simp only [List.length_append, List.length_cons, List.length_nil]
            omega
          refine saying18 h ok3 fun B8 g8 => ?_
          have e : JS (.tup (List.take (j : Int).toNat ds ++ [v] ++ List.drop ((j : Int) + 1).toNat ds)) = false := by
            refine JS_wrong (i := j) (d := v) ?_ hv
            rw [Int.toNat_natCast, List.append_assoc, List.getElem?_append_right (by rw [List.length_take]; omega), List.length_take, Nat.min_eq_left (by omega), Nat.sub_self]
            rfl
          rw [e, flag20 h]
          walk_at "g1"
          simp only [beq_self_eq_true]
          walk_at "g1"
          exact ⟨_, _, rfl, hpB7.fr g8⟩
      · subst eL
        dsimp only
        rw [wps_cons]
        walk_at "g1"
        rw [wps_cons]
        walk_at "g1"
        refine draw_ok h7 hpB (by decide) (by decide) fun r B7 r0 r1 hpB7 g7 => ?_
        walk_at "g1"
        rw [okR_of (by omega) (by omega) (by omega) (by omega)]
        walk_at "g1"
        refine loop_items (fun i L B => ∃ t l7, L = [some (.ref 0), some (.ref p), some x, some (.tup ds), l4, l5, some t, l7] ∧ Pot p B ∧ okD (bd i) B.length t) (by rw [rngItems_len]; unfold fuel; omega) ⟨_, _, rfl, hpB7, okd _⟩ (fun j y L B hy ⟨t, l7, eL, hpB, ht⟩ => ?_) fun L B ⟨t, l7, eL, hpB, ht⟩ => ?_
        · subst eL
          have hj := (List.getElem?_eq_some_iff.mp hy).1
          rw [rngItems_len] at hj
          have hj3 : j < 3 := by omega
          have p2 := bd_le hj3
          have p4 : bd (j + 1) ≤ 1000 := by rw [bd_succ]; omega
          rw [wp_ofE]
          walk_at "g1"
          rw [wps_cons]
          have tail : ∀ t' B', Pot p B' → okD (bd (j + 1)) B'.length t' → WpS (evSs P (fns P (k + 9)) [.cond (.not (.call 20 [(.call 5 [(.slot 6)]), (.call 15 [(.slot 6)])])) [.ret (.cst (.bl false))] []] [some (.ref 0), some (.ref p), some x, some (.tup ds), l4, l5, some t', some y] B')
              ⟨fun L B => ∃ t l7, L = [some (.ref 0), some (.ref p), some x, some (.tup ds), l4, l5, some t, l7] ∧ Pot p B ∧ okD (bd (j + 1)) B.length t, fun d _ => d = .bl true, fun _ _ => False, fun L B => ∃ t l7, L = [some (.ref 0), some (.ref p), some x, some (.tup ds), l4, l5, some t, l7] ∧ Pot p B ∧ okD (bd (j + 1)) B.length t, fun _ _ => False⟩ := fun t' B' hp' ok' => by
            rw [wps_cons]
            walk_at "g1"
            refine saying18 h (ok'.mono (by omega) (Nat.le_refl _)) fun B8 g8 => ?_
            refine saying18b h (ok'.mono (by omega) g8.le) fun B9 g9 => ?_
            rw [flag20 h]
            walk_at "g1"
            simp only [beq_self_eq_true]
            walk_at "g1"
            exact ⟨_, _, rfl, (hp'.fr g8).fr g9, ok'.mono (Nat.le_refl _) (Nat.le_trans g8.le g9.le)⟩
          cases t with
          | tup ts =>
            walk_at "g1"
            by_cases c : 0 < (ts.length : Int)
            · simp only [c, if_true]
              refine bent19 h hpB (by omega) (by omega) ht (by omega) fun d B' hd hp' g' => ?_
              exact WpS.bkF <| tail _ _ hp' (by rw [bd_succ]; exact hd)
            · simp only [c, if_false]
              exact WpS.bkF <| tail _ _ hpB (ht.mono (by rw [bd_succ]; omega) (Nat.le_refl _))
          | _ =>
            walk_at "g1"
            exact WpS.bkF <| tail _ _ hpB (ht.mono (by rw [bd_succ]; omega) (Nat.le_refl _))
        · subst eL
          exact ⟨_, _, _, _, _, _, rfl, hpB⟩
    · subst eL
      dsimp only
      rw [wps_cons]
      walk_at "g1"
      refine odd16 h hpB fun d B1 hd hpB1 g1 => ?_
      refine saying18 h (hd.mono (by decide) (Nat.le_refl _)) fun B2 g2 => ?_
      have e : JS d = false := by
        cases d with
        | tup ds =>
          match ds, hd with
          | [], _ => rfl
          | [x], hd =>
            refine JS_wrong (i := 0) rfl ?_
            cases x with
            | tup ds =>
              match ds, hd.2.1.1 with
              | [], _ => rfl
              | [x], _ => cases x <;> rfl
            | _ => rfl
          | x :: y :: r, hd => exact absurd hd.1 (by simp)
        | _ => rfl
      rw [e, flag20 h]
      rfl
  split
  · refine longRight21 h hp1 fun A2 hp2 f2 => ?_
    walk_at "g1"
    exact main _ hp2
  · exact main _ hp1
end
end Kin
end
section
set_option linter.all false
set_option maxRecDepth 100000
set_option maxHeartbeats 0
open PySem PySem.Spec PyProof.Rows L2
namespace Kin
abbrev lawR : PySem.W.OpenLaw := PySem.Challenge.rw_levelkin_k18_whole_sayings_judged
abbrev lawP : Program := PySem.Challenge.pw_levelkin_k18_whole_sayings_judged
def topK : List Stmt := lawP.main.body
def bindN : Stmt → List Str
  | .FunctionDef n _ _ _ _ _ _ _ _ _ => [n]
  | .ClassDef n _ _ _ _ _ _ _ _ _ _ => [n]
  | .Assign [.Name x _] _ _ => [x]
  | _ => []
def looseK : List Str := ((topK.eraseIdx 29).flatMap bindN).eraseDups
def TK : Tab := tabOf topK
abbrev fa : List He.Fa := faT TK
abbrev fn : List He.DefD := fnT TK
abbrev hk : PySem.W.Hook := hookK 4 fa fn
def ob (s : PySem.W.SharedT) : He.AlD := obK 4 fa fn (HandSHeadRun.getT s)
theorem ob_eq (s : PySem.W.SharedT) : ob s = hk.obs s.abs := obK_eq (HandSHeadRun.getT_eq s)
theorem head_run (w : World) : HandSHeadRun.RunEq (PySem.W.OpenLaw.row lawR) (PySem.W.view lawP [29]) hk ob 4000 looseK w := by
  intro os
  kernel_rfl
theorem holds_of (go : ∀ ns : List Int, ns.length ≤ 63 → isTrue ((fns TK.prog 60).call 22 [.ref 0] [.frz (ns.map D.int)]) = true) : lawR.Holds := by
  w_on; o_law
  refine HandSHeadRun.head_any (r := PySem.W.OpenLaw.row lawR) (q := PySem.W.view (PySem.W.OpenLaw.row lawR).prog [29]) (H := hk) (ob := ob) (M := 4000) (loose := looseK) (d := HandSHeadRun.topDef (PySem.W.OpenLaw.row lawR).prog 29) (kwd := []) ob_eq
    (by kernel_rfl) (fun s => by kernel_rfl) head_run (by kernel_rfl) (by kernel_rfl) (by kernel_rfl) (by rfl) (by first | assumption | decide +kernel) (by decide +kernel) ⟨rfl, rfl, rfl, rfl, rfl, by decide +kernel⟩ ?hw ?hc
  case hw => w_witness2
  case hc =>
    exact kin_walk (l := lawR) (top := topK) (li := 22) (it := (TK.items[22]?).getD default) rfl (by kernel_rfl) (by kernel_rfl) (by kernel_rfl) (by kernel_rfl) go
theorem def_of {P : CProg} {f nps n : Nat} {body : List CS} (h : (P.defs[f]?).map (fun d => (d.nps, d.n, d.body)) = some (nps, n, body)) : Def P f nps n body := by
  cases e : P.defs[f]? with
  | none => rw [e] at h; cases h
  | some d =>
    rw [e] at h
    cases d
    simp only [Option.map_some, Option.some.injEq, Prod.mk.injEq] at h
    obtain ⟨rfl, rfl, rfl⟩ := h
    exact ⟨_, e⟩
theorem is18 : Is18 TK.prog := by
  constructor <;> exact def_of (by kernel_rfl)
theorem runs (ns : List Int) (h : ns.length ≤ 63) : isTrue ((fns TK.prog 60).call 22 [.ref 0] [.frz (ns.map D.int)]) = true := by
  obtain ⟨d, A, e, hd⟩ := (law22 (k := 50) is18 h).ok
  subst hd
  rw [show (60 : Nat) = 50 + 10 from rfl, e]
  rfl
end Kin
theorem PySem.Challenge.cw_levelkin_k18_whole_sayings_judged_holds : PySem.Challenge.rw_levelkin_k18_whole_sayings_judged.Holds := by
  exact Kin.holds_of Kin.runs
end
