import Derived.Test.YtnocnkblhjifjaaGreatDoorMPlain
import Derived.Test.YtnocnkblhjifjaaGreatDoorMBytes
/-
  Plain mathematics: the document's own reader of declarations (kilnref.Reader), function by function, on lists of tokens: a state goes in, a state comes out; the number first handed over only says how deep it may go.
-/
namespace Go.Proofs.YtnocnkblhjifjaaGreatDoor
open Go.RowKit

/-- A node of a tree: what it is, a name, its parts, of a match its number. -/
structure NodeP where
  is : List UInt8
  name : List UInt8
  parts : List Nat
  mt : Nat

/-- What a reader holds that turns: its place, whether it has not the form, the nodes, how many matches came. -/
structure RS where
  pos : Nat
  bad : Bool
  nodes : List NodeP
  mts : Nat

/-- How many nodes there may be. -/
def nodeCap : Nat := 1000000

namespace K
def let_ : List UInt8 := [108, 101, 116]
def rec_ : List UInt8 := [114, 101, 99]
def in_ : List UInt8 := [105, 110]
def fun_ : List UInt8 := [102, 117, 110]
def if_ : List UInt8 := [105, 102]
def then_ : List UInt8 := [116, 104, 101, 110]
def else_ : List UInt8 := [101, 108, 115, 101]
def match_ : List UInt8 := [109, 97, 116, 99, 104]
def with_ : List UInt8 := [119, 105, 116, 104]
def end_ : List UInt8 := [101, 110, 100]
def type_ : List UInt8 := [116, 121, 112, 101]
def do_ : List UInt8 := [100, 111]
def true_ : List UInt8 := [116, 114, 117, 101]
def false_ : List UInt8 := [102, 97, 108, 115, 101]
def open_ : List UInt8 := [40]
def shut_ : List UInt8 := [41]
def eq_ : List UInt8 := [61]
def semi_ : List UInt8 := [59]
def set_ : List UInt8 := [58, 61]
def arrow_ : List UInt8 := [45, 62]
def bar_ : List UInt8 := [124]
def bang_ : List UInt8 := [33]
def dot_ : List UInt8 := [46]
def under_ : List UInt8 := [95]
def unit_ : List UInt8 := [40, 41]
def var_ : List UInt8 := [118, 97, 114]
def named_ : List UInt8 := [110, 97, 109, 101, 100]
def num_ : List UInt8 := [110, 117, 109]
def const_ : List UInt8 := [99, 111, 110, 115, 116]
def con_ : List UInt8 := [99, 111, 110]
def app_ : List UInt8 := [97, 112, 112]
def row_ : List UInt8 := [114, 111, 119]
def seq_ : List UInt8 := [115, 101, 113]
def setN_ : List UInt8 := [115, 101, 116]
end K

def adv (s : RS) : RS := { s with pos := s.pos + 1 }
def spoil (s : RS) : RS := { s with bad := true }

/-- A node more. -/
def nodeP (is name : List UInt8) (parts : List Nat) (s : RS) : Option (Nat × RS) :=
  if s.nodes.length < nodeCap then some (s.nodes.length, { s with nodes := s.nodes ++ [⟨is, name, parts, 0⟩] }) else none

/-- A function of several names: the last one is the innermost. -/
def curriedP : List (List UInt8) → Nat → RS → Option (Nat × RS)
  | [], x, s => some (x, s)
  | a :: r, x, s => (curriedP r x s).bind fun q => nodeP K.fun_ a [q.1] q.2

/-- An app of several: from the left. -/
def appsP : List Nat → Nat → RS → Option (Nat × RS)
  | [], f, s => some (f, s)
  | a :: r, f, s => (nodeP K.app_ [] [f, a] s).bind fun q => appsP r q.1 q.2

/-- A number without noughts ahead. -/
def numberP : List UInt8 → List UInt8
  | [] => []
  | [c] => [c]
  | c :: d :: r => if c = 48 then numberP (d :: r) else c :: d :: r

/-- The signs of a level. -/
def signsAt (k : Nat) : List UInt8 := if k = 0 then [61, 60] else if k = 1 then [43, 45] else [42, 47]

section
variable (T : List (List UInt8)) (e : Nat)

/-- The next token; none: the empty text. -/
def see (s : RS) : List UInt8 := if e ≤ s.pos ∨ s.bad = true then [] else T.getD s.pos []

def isSign (x : List UInt8) (s : RS) : Bool := tokKind (see T e s) == 119 && see T e s == x

def isKind (k : Int) (s : RS) : Bool := tokKind (see T e s) == k

def want (x : List UInt8) (s : RS) : RS := bif isSign T e x s then adv s else spoil s

def kindT (k : Int) (s : RS) : List UInt8 := bif isKind T e k s then see T e s else []
def kindS (k : Int) (s : RS) : RS := bif isKind T e k s then adv s else spoil s

/-- All tokens of a kind that come. -/
def everyF (k : Int) : Nat → RS → List (List UInt8) × RS
  | 0, s => ([], s)
  | n + 1, s => bif isKind T e k s then (see T e s :: (everyF k n (adv s)).1, (everyF k n (adv s)).2) else ([], s)

def everyP (k : Int) (s : RS) : List (List UInt8) × RS := everyF T e k (e - s.pos) s

/-- What is the same in expressions and patterns. -/
def plainP (s : RS) : Option (Nat × Bool × RS) :=
  bif isKind T e 100 s then (nodeP K.num_ (numberP (see T e s)) [] (adv s)).bind fun q => some (q.1, true, q.2)
  else bif isKind T e 110 s then (nodeP K.var_ (see T e s) [] (adv s)).bind fun q => some (q.1, true, q.2)
  else bif isKind T e 99 s then (nodeP K.con_ (see T e s) [] (adv s)).bind fun q => some (q.1, true, q.2)
  else bif isSign T e K.true_ s || isSign T e K.false_ s then (nodeP K.const_ (see T e s) [] (adv s)).bind fun q => some (q.1, true, q.2)
  else some (0, false, s)

def atypesP : Nat → RS → Option (List Nat × RS)
  | 0, _ => none
  | n + 1, s =>
    bif isKind T e 108 s then (nodeP K.var_ (see T e s) [] (adv s)).bind fun q => (atypesP n q.2).bind fun l => some (q.1 :: l.1, l.2)
    else bif isKind T e 110 s then (nodeP K.named_ (see T e s) [] (adv s)).bind fun q => (atypesP n q.2).bind fun l => some (q.1 :: l.1, l.2)
    else bif isSign T e K.open_ s then (typP n (adv s)).bind fun q => (atypesP n (want T e K.shut_ q.2)).bind fun l => some (q.1 :: l.1, l.2)
    else some ([], s)
 where
  typ1P : Nat → RS → Option (Nat × RS)
    | 0, _ => none
    | n + 1, s =>
      bif isKind T e 110 s then (atypesP n (adv s)).bind fun l => nodeP K.named_ (see T e s) l.1 l.2
      else bif isKind T e 108 s then nodeP K.var_ (see T e s) [] (adv s)
      else (typP n (want T e K.open_ s)).bind fun q => some (q.1, want T e K.shut_ q.2)
  typP : Nat → RS → Option (Nat × RS)
    | 0, _ => none
    | n + 1, s =>
      bif !isKind T e 110 s && !isKind T e 108 s && !isSign T e K.open_ s then some (0, spoil s)
      else (typ1P n s).bind fun a =>
        bif isSign T e K.arrow_ a.2 then (typP n (adv a.2)).bind fun b => nodeP K.arrow_ [] [a.1, b.1] b.2 else some a

def patternP : Nat → RS → Option (Nat × RS)
  | 0, _ => none
  | n + 1, s =>
    bif isKind T e 99 s then (apatternsP n (adv s)).bind fun l => nodeP K.con_ (see T e s) l.1 l.2
    else (apatternP n s).bind fun q => some (q.1, bif q.2.1 then q.2.2 else spoil q.2.2)
 where
  apatternsP : Nat → RS → Option (List Nat × RS)
    | 0, _ => none
    | n + 1, s => (apatternP n s).bind fun q => bif q.2.1 then (apatternsP n q.2.2).bind fun l => some (q.1 :: l.1, l.2) else some ([], q.2.2)
  apatternP : Nat → RS → Option (Nat × Bool × RS)
    | 0, _ => none
    | n + 1, s => (plainP T e s).bind fun p =>
      bif p.2.1 then some p
      else bif isSign T e K.under_ s then (nodeP K.const_ K.under_ [] (adv s)).bind fun q => some (q.1, true, q.2)
      else bif isSign T e K.open_ s then
        bif isSign T e K.shut_ (adv s) then (nodeP K.const_ K.unit_ [] (adv (adv s))).bind fun q => some (q.1, true, q.2)
        else (patternP n (adv s)).bind fun q => some (q.1, true, want T e K.shut_ q.2)
      else some (0, false, s)

/-- The end of a match: more than twelve rows have not the form; it bears its number. -/
def matchEnd (number : Nat) (parts : List Nat) (s : RS) : Option (Nat × RS) :=
  (nodeP K.match_ [] parts (if 13 < parts.length then spoil s else s)).bind fun q =>
    some (q.1, { q.2 with nodes := q.2.nodes.modify q.1 fun x => { x with mt := number } })

def bindingP : Nat → RS → Option (List UInt8 × List UInt8 × Nat × RS)
  | 0, _ => none
  | n + 1, s0 =>
    let r := isSign T e K.rec_ s0
    let s := bif r then adv s0 else s0
    let name := kindT T e 110 s
    let s1 := kindS T e 110 s
    let l := (everyP T e 110 s1).1
    let s2 := (everyP T e 110 s1).2
    let s3 := bif r && l.isEmpty then spoil s2 else s2
    (exprP n (want T e K.eq_ s3)).bind fun x => (curriedP l x.1 x.2).bind fun f => some (bif r then K.rec_ else K.let_, name, f.1, f.2)
 where
  exprP : Nat → RS → Option (Nat × RS)
    | 0, _ => none
    | n + 1, s =>
      bif s.bad then some (0, s)
      else bif isSign T e K.let_ s then (bindingP n (adv s)).bind fun b => (exprP n (want T e K.in_ b.2.2.2)).bind fun x => nodeP b.1 b.2.1 [b.2.2.1, x.1] x.2
      else bif isSign T e K.fun_ s then
        let one := kindT T e 110 (adv s)
        let s1 := kindS T e 110 (adv s)
        (exprP n (want T e K.arrow_ (everyP T e 110 s1).2)).bind fun x => curriedP (one :: (everyP T e 110 s1).1) x.1 x.2
      else bif isSign T e K.if_ s then
        (exprP n (adv s)).bind fun a => (exprP n (want T e K.then_ a.2)).bind fun b => (exprP n (want T e K.else_ b.2)).bind fun c => nodeP K.if_ [] [a.1, b.1, c.1] c.2
      else (levelP n 0 s).bind fun a => (setP n a.1 a.2).bind fun a =>
        bif isSign T e K.semi_ a.2 then (exprP n (adv a.2)).bind fun b => nodeP K.seq_ [] [a.1, b.1] b.2 else some a
  setP : Nat → Nat → RS → Option (Nat × RS)
    | 0, _, _ => none
    | n + 1, a, s => bif isSign T e K.set_ s then (levelP n 0 (adv s)).bind fun b => nodeP K.setN_ [] [a, b.1] b.2 else some (a, s)
  levelP : Nat → Nat → RS → Option (Nat × RS)
    | 0, _, _ => none
    | n + 1, k, s => if k = 3 then appP n s else (levelP n (k + 1) s).bind fun a => levelsP n k a.1 a.2
  levelsP : Nat → Nat → Nat → RS → Option (Nat × RS)
    | 0, _, _, _ => none
    | n + 1, k, a, s =>
      bif isKind T e 119 s && (see T e s).length == 1 && (signsAt k).contains ((see T e s).getD 0 0) then
        (levelP n (k + 1) (adv s)).bind fun b => (nodeP (see T e s) [] [a, b.1] b.2).bind fun a => if k = 0 then some a else levelsP n k a.1 a.2
      else some (a, s)
  appP : Nat → RS → Option (Nat × RS)
    | 0, _ => none
    | n + 1, s =>
      bif isKind T e 99 s then (atomsP n (adv s)).bind fun l => nodeP K.con_ (see T e s) l.1 l.2
      else (atomsP n s).bind fun l => match l.1 with
        | [] => some (0, spoil l.2)
        | f :: r => appsP r f l.2
  atomsP : Nat → RS → Option (List Nat × RS)
    | 0, _ => none
    | n + 1, s => bif s.bad then some ([], s) else (atomP n s).bind fun q => bif q.2.1 then (atomsP n q.2.2).bind fun l => some (q.1 :: l.1, l.2) else some ([], q.2.2)
  atomP : Nat → RS → Option (Nat × Bool × RS)
    | 0, _ => none
    | n + 1, s => (plainP T e s).bind fun p =>
      bif p.2.1 then some p
      else bif isSign T e K.open_ s then
        bif isSign T e K.shut_ (adv s) then (nodeP K.const_ K.unit_ [] (adv (adv s))).bind fun q => some (q.1, true, q.2)
        else (exprP n (adv s)).bind fun q => some (q.1, true, want T e K.shut_ q.2)
      else bif isSign T e K.bang_ s then
        (atomP n (adv s)).bind fun a => (nodeP K.bang_ [] [a.1] (bif a.2.1 then a.2.2 else spoil a.2.2)).bind fun q => some (q.1, true, q.2)
      else bif isSign T e K.match_ s then (matchP n (adv s)).bind fun q => some (q.1, true, q.2)
      else some (0, false, s)
  matchP : Nat → RS → Option (Nat × RS)
    | 0, _ => none
    | n + 1, s => (exprP n { s with mts := s.mts + 1 }).bind fun x => (rowsP n (want T e K.with_ x.2)).bind fun l => matchEnd s.mts (x.1 :: l.1) l.2
  rowsP : Nat → RS → Option (List Nat × RS)
    | 0, _ => none
    | n + 1, s =>
      bif s.bad then some ([], s)
      else (patternP T e n (want T e K.bar_ s)).bind fun p => (exprP n (want T e K.arrow_ p.2)).bind fun a => (nodeP K.row_ [] [p.1, a.1] a.2).bind fun q =>
        bif isSign T e K.end_ q.2 then some ([q.1], adv q.2) else (rowsP n q.2).bind fun l => some (q.1 :: l.1, l.2)

/-- The letters of a declaration, each a node. -/
def lettersP : List (List UInt8) → RS → Option (List Nat × RS)
  | [], s => some ([], s)
  | a :: r, s => (nodeP K.var_ (a.drop 1) [] s).bind fun q => (lettersP r q.2).bind fun l => some (q.1 :: l.1, l.2)

/-- The variants of a declaration. -/
def variantsP : Nat → RS → Option (List Nat × RS)
  | 0, _ => none
  | n + 1, s =>
    bif s.bad then some ([], s)
    else (atypesP T e n (kindS T e 99 s)).bind fun l => (nodeP K.named_ (kindT T e 99 s) l.1 l.2).bind fun q =>
      bif isSign T e K.bar_ q.2 then (variantsP n (adv q.2)).bind fun l => some (q.1 :: l.1, l.2) else some ([q.1], q.2)

def declP (n : Nat) (s : RS) : Option (Nat × RS) :=
  bif isSign T e K.type_ s then
    let name := kindT T e 110 (adv s)
    let s1 := kindS T e 110 (adv s)
    (lettersP (everyP T e 108 s1).1 (everyP T e 108 s1).2).bind fun l => (variantsP T e n (want T e K.eq_ l.2)).bind fun v => nodeP K.type_ name (l.1 ++ v.1) v.2
  else bif isSign T e K.do_ s then (bindingP.exprP T e n (adv s)).bind fun x => nodeP K.do_ [] [x.1] x.2
  else (bindingP T e n (want T e K.let_ s)).bind fun b => nodeP b.1 b.2.1 [b.2.2.1] b.2.2.2
end

end Go.Proofs.YtnocnkblhjifjaaGreatDoor
/-
  How a reader of the document's own (kilnref.Reader) lies in memory, and what a call of it leaves as it was.
-/
namespace Go.Proofs.YtnocnkblhjifjaaGreatDoor
open Go.RowKit

theorem retI {k : IntKind} {a b : Int} (h : a = b) : Ending.returned (.int k a) = .returned (.int k b) := by rw [h]

theorem cell_new {w : World} {cs : Array Value} {t : TypeId} {n j : Nat} {u : Value} (hn : n = w.heap.size) (hu : cs[j]? = some u) : (w.alloc (.cells cs t)).cell? ((⟨n, 0, none⟩ : Addr).add j) = some u := by
  subst hn
  have : (⟨w.heap.size, 0, none⟩ : Addr).add j = ⟨w.heap.size, j, none⟩ := by unfold Addr.add; split <;> simp_all
  rw [this]
  simp only [World.cell?, World.alloc, Array.getElem?_push_size, Option.isSome_none, Bool.false_eq_true, if_false]
  exact hu

theorem bsK_let : bs K.let_ = ⟨#[108, 101, 116]⟩ := rfl
theorem bsK_rec : bs K.rec_ = ⟨#[114, 101, 99]⟩ := rfl
theorem bsK_in : bs K.in_ = ⟨#[105, 110]⟩ := rfl
theorem bsK_fun : bs K.fun_ = ⟨#[102, 117, 110]⟩ := rfl
theorem bsK_if : bs K.if_ = ⟨#[105, 102]⟩ := rfl
theorem bsK_then : bs K.then_ = ⟨#[116, 104, 101, 110]⟩ := rfl
theorem bsK_else : bs K.else_ = ⟨#[101, 108, 115, 101]⟩ := rfl
theorem bsK_match : bs K.match_ = ⟨#[109, 97, 116, 99, 104]⟩ := rfl
theorem bsK_with : bs K.with_ = ⟨#[119, 105, 116, 104]⟩ := rfl
theorem bsK_end : bs K.end_ = ⟨#[101, 110, 100]⟩ := rfl
theorem bsK_type : bs K.type_ = ⟨#[116, 121, 112, 101]⟩ := rfl
theorem bsK_do : bs K.do_ = ⟨#[100, 111]⟩ := rfl
theorem bsK_true : bs K.true_ = ⟨#[116, 114, 117, 101]⟩ := rfl
theorem bsK_false : bs K.false_ = ⟨#[102, 97, 108, 115, 101]⟩ := rfl
theorem bsK_open : bs K.open_ = ⟨#[40]⟩ := rfl
theorem bsK_shut : bs K.shut_ = ⟨#[41]⟩ := rfl
theorem bsK_eq : bs K.eq_ = ⟨#[61]⟩ := rfl
theorem bsK_semi : bs K.semi_ = ⟨#[59]⟩ := rfl
theorem bsK_set : bs K.set_ = ⟨#[58, 61]⟩ := rfl
theorem bsK_arrow : bs K.arrow_ = ⟨#[45, 62]⟩ := rfl
theorem bsK_bar : bs K.bar_ = ⟨#[124]⟩ := rfl
theorem bsK_bang : bs K.bang_ = ⟨#[33]⟩ := rfl
theorem bsK_dot : bs K.dot_ = ⟨#[46]⟩ := rfl
theorem bsK_under : bs K.under_ = ⟨#[95]⟩ := rfl
theorem bsK_unit : bs K.unit_ = ⟨#[40, 41]⟩ := rfl
theorem bsK_var : bs K.var_ = ⟨#[118, 97, 114]⟩ := rfl
theorem bsK_named : bs K.named_ = ⟨#[110, 97, 109, 101, 100]⟩ := rfl
theorem bsK_num : bs K.num_ = ⟨#[110, 117, 109]⟩ := rfl
theorem bsK_const : bs K.const_ = ⟨#[99, 111, 110, 115, 116]⟩ := rfl
theorem bsK_con : bs K.con_ = ⟨#[99, 111, 110]⟩ := rfl
theorem bsK_app : bs K.app_ = ⟨#[97, 112, 112]⟩ := rfl
theorem bsK_row : bs K.row_ = ⟨#[114, 111, 119]⟩ := rfl
theorem bsK_seq : bs K.seq_ = ⟨#[115, 101, 113]⟩ := rfl
theorem bsK_setN : bs K.setN_ = ⟨#[115, 101, 116]⟩ := rfl
theorem bsK_nil : bs [] = ⟨#[]⟩ := rfl

abbrev tyNode : TypeId := 137
abbrev tyReader : TypeId := 135
abbrev tyToken : TypeId := 170
abbrev tyInt : TypeId := 3
abbrev tyStr : TypeId := 9

/-- What a call with a reader at block rb leaves as it was: all blocks but the reader's own and the rows of nodes; below the reader all. -/
structure Kp (rb : Nat) (w w' : World) : Prop where
  os : w'.os = w.os
  tape : w'.tape = w.tape
  output : w'.output = w.output
  size : w.heap.size ≤ w'.heap.size
  block : ∀ k, k < w.heap.size → k ≠ rb → (k < rb ∨ ∀ c f, w.heap[k]? ≠ some (.cells c tyNode f)) → w'.heap[k]? = w.heap[k]?

theorem Kp.refl (rb : Nat) (w : World) : Kp rb w w := ⟨rfl, rfl, rfl, Nat.le_refl _, fun _ _ _ _ => rfl⟩

theorem Kp.trans {rb : Nat} {a b c : World} (h : Kp rb a b) (k : Kp rb b c) : Kp rb a c :=
  ⟨k.os.trans h.os, k.tape.trans h.tape, k.output.trans h.output, Nat.le_trans h.size k.size, fun i hi hr ht => by
    have e := h.block i hi hr ht
    rw [← e]
    refine k.block i (Nat.lt_of_lt_of_le hi h.size) hr ?_
    rcases ht with ht | ht
    · exact Or.inl ht
    · exact Or.inr (by rw [e]; exact ht)⟩

theorem Kp.of_below {rb : Nat} {w w' : World} (h : Below w.heap.size w w') : Kp rb w w' := ⟨h.os, h.tape, h.output, h.size, fun k hk _ _ => h.block k hk⟩

theorem Kp.alloc {rb : Nat} {a w : World} (h : Kp rb a w) (o : Obj) : Kp rb a (w.alloc o) :=
  h.trans (Kp.of_below ((Below.refl _ _).alloc (Nat.le_refl _) o))

theorem Kp.drew {rb : Nat} {a w : World} (h : Kp rb a w) : Kp rb a w.drew := ⟨h.os, h.tape, h.output, h.size, h.block⟩

theorem Kp.setR {rb : Nat} {a w : World} (h : Kp rb a w) (o : Nat) (v : Value) : Kp rb a (w.setCell ⟨rb, o, none⟩ v) :=
  h.trans ⟨rfl, rfl, rfl, by simp [World.setCell], fun k _ hk _ => Below.heap_setCell _ _ _ _ hk⟩

/-- A store into a block that was not there at first. -/
theorem Kp.setNew {rb : Nat} {a w : World} (h : Kp rb a w) {p : Addr} (hp : a.heap.size ≤ p.block) (v : Value) : Kp rb a (w.setCell p v) :=
  ⟨h.os, h.tape, h.output, by have := h.size; simpa [World.setCell] using this, fun k hk hkr ht => by
    rw [Below.heap_setCell _ _ _ _ (by omega)]; exact h.block k hk hkr ht⟩

/-- A store into a row of nodes above the reader. -/
theorem Kp.setNode {rb : Nat} {a w : World} (h : Kp rb a w) {p : Addr} {c : Array Value} {f : Nat × Nat} (hp : w.heap[p.block]? = some (.cells c tyNode f)) (hr : rb < p.block) (v : Value) : Kp rb a (w.setCell p v) :=
  h.trans ⟨rfl, rfl, rfl, by simp [World.setCell], fun k _ _ ht => by
    refine Below.heap_setCell _ _ _ _ (fun e => ?_)
    subst e
    rcases ht with ht | ht
    · omega
    · exact ht _ _ hp⟩

/-- Behind an append onto a row of nodes above the reader. -/
theorem Kp.grownNode {rb : Nat} {a w w' : World} {v : Value} {n : Nat} {xs : List Value} {base : Nat} (h : Kp rb a w) (hg : w.grownBy w' v.ownBlock) (hown : w.ownsRow base tyNode 4 v n xs) (hb : rb < base) : Kp rb a w' :=
  h.trans ⟨hg.os, hg.tape, hg.output, hg.size, fun k hk _ ht => by
    refine hg.block k hk (fun e => ?_)
    rcases hown.2 with ⟨rfl, _⟩ | ⟨g, cap, cur, rfl, hbg, hgg, _⟩
    · simp [Value.ownBlock] at e
    · simp [Value.ownBlock] at e
      subst e
      rcases ht with ht | ht
      · omega
      · exact ht _ _ hgg⟩

/-- Behind an append onto a row of one's own that was made since. -/
theorem Kp.grownOwn {rb : Nat} {a w w' : World} {row : Option Nat} (h : Kp rb a w) (hg : w.grownBy w' row) (hr : ∀ k, row = some k → a.heap.size ≤ k) : Kp rb a w' :=
  ⟨hg.os.trans h.os, hg.tape.trans h.tape, hg.output.trans h.output, Nat.le_trans h.size hg.size, fun k hk hkr ht => by
    rw [hg.block k (Nat.lt_of_lt_of_le hk h.size) (fun e => by have := hr k e.symm; omega)]
    exact h.block k hk hkr ht⟩

/-- What lies at the reader's block. -/
def rdCells (lv : Value) (e : Nat) (s : RS) (nv : Value) : Array Value := #[lv, .int .i64 s.pos, .int .i64 e, .bool s.bad, nv, .int .i64 s.mts]

def intV (n : Nat) : Value := .int .i64 n

def nodeV (x : NodeP) (pv : Value) : List Value := [.string (bs x.is), .string (bs x.name), pv, .int .i64 x.mt]

/-- The nodes lie in a row of their own, each one's parts in a row of its own; none of these is one of X. -/
structure Nodes (rb : Nat) (X : Nat → Prop) (ns : List NodeP) (nv : Value) (pvs : List Value) (w : World) : Prop where
  len : pvs.length = ns.length
  row : w.ownsRow (rb + 1) tyNode 4 nv ns.length ((List.zipWith nodeV ns pvs).flatten)
  parts : ∀ (i : Nat) (x : NodeP) (pv : Value), ns[i]? = some x → pvs[i]? = some pv → w.ownsRow 0 tyInt 1 pv x.parts.length (x.parts.map intV)
  sep : ∀ pv ∈ pvs, ∀ g, pv.ownBlock = some g → ¬ X g

/-- A reader in memory, at block rb: the tokens T, up to the place e; the state s. X: blocks that no node has for its parts. -/
structure Rd (T : List (List UInt8)) (rb : Nat) (lv : Value) (e : Nat) (X : Nat → Prop) (s : RS) (w : World) : Prop where
  e_le : e ≤ T.length
  t_le : T.length ≤ 4000
  tl : ∀ t ∈ T, t.length ≤ 4000
  pos_le : s.pos ≤ T.length
  mts_le : s.mts ≤ s.pos
  toks : w.ownsRow 0 tyToken 2 lv T.length (T.flatMap tkV)
  own : ∃ nv pvs, w.heap[rb]? = some (.cells (rdCells lv e s nv) tyReader (0, 0)) ∧ Nodes rb X s.nodes nv pvs w

section
variable {T : List (List UInt8)} {rb : Nat} {lv : Value} {e : Nat} {X : Nat → Prop} {s : RS} {w : World}

theorem Rd.lt (h : Rd T rb lv e X s w) : rb < w.heap.size := by
  obtain ⟨nv, pvs, hb, _⟩ := h.own
  exact (Array.getElem?_eq_some_iff.1 hb).1

/-- A row of another type stays where it was. -/
theorem ownsRow_kp {w' : World} {base : Nat} {t : TypeId} {size : Nat} {v : Value} {n : Nat} {xs : List Value} (h : w.ownsRow base t size v n xs) (hR : ∃ c f, w.heap[rb]? = some (.cells c tyReader f)) (hk : Kp rb w w') (h1 : t ≠ tyNode) (h2 : t ≠ tyReader) : w'.ownsRow base t size v n xs := by
  refine ⟨h.1, ?_⟩
  rcases h.2 with hn | ⟨g, cap, cur, rfl, hb, hgg, rest⟩
  · exact .inl hn
  · refine .inr ⟨g, cap, cur, rfl, hb, ?_, rest⟩
    rw [hk.block g (Array.getElem?_eq_some_iff.1 hgg).1 (fun e => ?_) (Or.inr fun c f e => ?_)]
    · exact hgg
    · subst e
      obtain ⟨c, f, hR⟩ := hR
      rw [hgg] at hR
      simp at hR
      exact h2 hR.2.1
    · rw [hgg] at e
      simp at e
      exact h1 e.2.1

theorem Rd.isR (h : Rd T rb lv e X s w) : ∃ c f, w.heap[rb]? = some (.cells c tyReader f) := by
  obtain ⟨nv, pvs, hb, _⟩ := h.own
  exact ⟨_, _, hb⟩

theorem Rd.keep (h : Rd T rb lv e X s w) {w' : World} (hk : Kp rb w w') {base : Nat} {t : TypeId} {size : Nat} {v : Value} {n : Nat} {xs : List Value} (ho : w.ownsRow base t size v n xs) (h1 : t ≠ tyNode) (h2 : t ≠ tyReader) : w'.ownsRow base t size v n xs := ownsRow_kp ho h.isR hk h1 h2

/-- Blocks that come later may join X; X may shrink. -/
theorem Rd.widen {X' : Nat → Prop} (h : Rd T rb lv e X s w) (hx : ∀ g, X' g → X g ∨ w.heap.size ≤ g) : Rd T rb lv e X' s w := by
  obtain ⟨nv, pvs, hb, hn⟩ := h.own
  refine ⟨h.e_le, h.t_le, h.tl, h.pos_le, h.mts_le, h.toks, nv, pvs, hb, hn.len, hn.row, hn.parts, fun pv hpv g hg hX => ?_⟩
  rcases hx g hX with hx | hx
  · exact hn.sep pv hpv g hg hx
  · obtain ⟨i, hi, rfl⟩ := List.getElem_of_mem hpv
    have hi' : i < s.nodes.length := by rw [← hn.len]; exact hi
    have := (hn.parts i s.nodes[i] pvs[i] (List.getElem?_eq_getElem hi') (List.getElem?_eq_getElem hi)).lt g hg
    omega

/-- Where the reader's block, the rows of nodes and of parts stand still. -/
theorem Rd.grown {w' : World} {row : Option Nat} (h : Rd T rb lv e X s w) (hg : w.grownBy w' row) (h1 : row ≠ some rb) (h2 : ∀ k c f t, row = some k → w.heap[k]? = some (.cells c t f) → t ≠ tyNode ∧ t ≠ tyToken ∧ (t = tyInt → X k)) : Rd T rb lv e X s w' := by
  obtain ⟨nv, pvs, hb, hn⟩ := h.own
  refine ⟨h.e_le, h.t_le, h.tl, h.pos_le, h.mts_le, ?_, nv, pvs, ?_, hn.len, ?_, fun i x pv hi1 hi2 => ?_, hn.sep⟩
  · refine h.toks.kept hg ?_
    rcases h.toks.2 with ⟨hv, _⟩ | ⟨g, cap, cur, hv, _, hgg, _⟩
    · exact .inl (by rw [hv]; rfl)
    · exact .inr (fun er => by rw [hv] at er; exact (h2 g cur (0, 0) tyToken er.symm hgg).2.1 rfl)
  · rw [hg.block rb (Array.getElem?_eq_some_iff.1 hb).1 (Ne.symm h1)]
    exact hb
  · refine hn.row.kept hg ?_
    rcases hn.row.2 with ⟨hv, _⟩ | ⟨g, cap, cur, hv, _, hgg, _⟩
    · exact .inl (by rw [hv]; rfl)
    · exact .inr (fun er => by rw [hv] at er; exact (h2 g cur (0, 0) tyNode er.symm hgg).1 rfl)
  · have hp := hn.parts i x pv hi1 hi2
    refine hp.kept hg ?_
    rcases hp.2 with ⟨hv, _⟩ | ⟨g, cap, cur, hv, _, hgg, _⟩
    · exact .inl (by rw [hv]; rfl)
    · refine .inr (fun er => hn.sep pv (List.mem_of_getElem? hi2) g (by rw [hv]; rfl) ?_)
      rw [hv] at er
      exact (h2 g cur (0, 0) tyInt er.symm hgg).2.2 rfl

theorem Rd.below {w' : World} (h : Rd T rb lv e X s w) (hb : Below w.heap.size w w') : Rd T rb lv e X s w' :=
  h.grown (row := none) ⟨hb.os, hb.tape, hb.output, hb.size, fun k hk _ => hb.block k hk⟩ (by simp) (by simp)

theorem Rd.alloc (h : Rd T rb lv e X s w) (o : Obj) : Rd T rb lv e X s (w.alloc o) := h.below ((Below.refl _ _).alloc (Nat.le_refl _) o)

theorem Rd.drew (h : Rd T rb lv e X s w) : Rd T rb lv e X s w.drew := h.below (Below.refl _ _).drew

/-- Behind an append onto a row of one's own. -/
theorem Rd.grownRow {w' : World} {base : Nat} {t : TypeId} {size : Nat} {v : Value} {n : Nat} {xs : List Value} (h : Rd T rb lv e X s w) (hg : w.grownBy w' v.ownBlock) (hown : w.ownsRow base t size v n xs) (h1 : t ≠ tyReader) (h2 : t ≠ tyNode) (h3 : t ≠ tyToken) (h4 : t = tyInt → ∀ g, v.ownBlock = some g → X g) : Rd T rb lv e X s w' := by
  rcases hown.2 with ⟨rfl, _⟩ | ⟨g, cap, cur, rfl, _, hgg, _⟩
  · exact h.grown hg (by simp [Value.ownBlock]) (fun k c f t hk => by simp [Value.ownBlock] at hk)
  · refine h.grown hg (fun er => ?_) (fun k c f t' hk hc => ?_)
    · simp [Value.ownBlock] at er
      obtain ⟨c, f, hR⟩ := h.isR
      rw [er, hR] at hgg
      simp at hgg
      exact h1 hgg.2.1.symm
    · simp [Value.ownBlock] at hk
      subst hk
      rw [hgg] at hc
      simp at hc
      obtain ⟨_, rfl, _⟩ := hc
      exact ⟨h2, h3, fun ht => h4 ht g rfl⟩

/-- A store into a block that is none of the reader's. -/
theorem Rd.setOther (h : Rd T rb lv e X s w) {p : Addr} {c : Array Value} {t : TypeId} {f : Nat × Nat} (hp : w.heap[p.block]? = some (.cells c t f)) (h1 : t ≠ tyReader) (h2 : t ≠ tyNode) (h3 : t ≠ tyInt) (h4 : p.block ≠ lv.ownBlock.getD 0 ∨ t ≠ tyToken) (v : Value) : Rd T rb lv e X s (w.setCell p v) := by
  obtain ⟨nv, pvs, hb, hn⟩ := h.own
  have hg : w.grownBy (w.setCell p v) (some p.block) := ⟨rfl, rfl, rfl, by simp [World.setCell], fun k _ hk => Below.heap_setCell _ _ _ _ (fun e => hk (by rw [e]))⟩
  refine ⟨h.e_le, h.t_le, h.tl, h.pos_le, h.mts_le, ?_, nv, pvs, ?_, hn.len, ?_, fun i x pv hi1 hi2 => ?_, hn.sep⟩
  · refine h.toks.kept hg ?_
    rcases h.toks.2 with ⟨hv, _⟩ | ⟨g, cap, cur, hv, _, hgg, _⟩
    · exact .inl (by rw [hv]; rfl)
    · refine .inr (fun er => ?_)
      rw [hv] at er h4
      simp [Value.ownBlock] at er h4
      rw [er] at hgg
      rw [hp] at hgg
      simp at hgg
      rcases h4 with h4 | h4
      · exact h4 er.symm
      · exact h4 hgg.2.1
  · rw [hg.block rb (Array.getElem?_eq_some_iff.1 hb).1 (fun er => ?_)]
    · exact hb
    · simp at er
      rw [← er, hb] at hp
      simp at hp
      exact h1 hp.2.1.symm
  · refine hn.row.kept hg ?_
    rcases hn.row.2 with ⟨hv, _⟩ | ⟨g, cap, cur, hv, _, hgg, _⟩
    · exact .inl (by rw [hv]; rfl)
    · refine .inr (fun er => ?_)
      rw [hv] at er
      simp [Value.ownBlock] at er
      rw [er, hp] at hgg
      simp at hgg
      exact h2 hgg.2.1
  · have hpp := hn.parts i x pv hi1 hi2
    refine hpp.kept hg ?_
    rcases hpp.2 with ⟨hv, _⟩ | ⟨g, cap, cur, hv, _, hgg, _⟩
    · exact .inl (by rw [hv]; rfl)
    · refine .inr (fun er => ?_)
      rw [hv] at er
      simp [Value.ownBlock] at er
      rw [er, hp] at hgg
      simp at hgg
      exact h3 hgg.2.1

/-- A store into a field of the reader: the state turns so. -/
theorem Rd.setField (h : Rd T rb lv e X s w) (o : Nat) (v : Value) (s' : RS) (hn : s'.nodes = s.nodes) (hp : s'.pos ≤ T.length) (hm : s'.mts ≤ s'.pos) (hc : ∀ nv, (rdCells lv e s nv).setIfInBounds o v = rdCells lv e s' nv) : Rd T rb lv e X s' (w.setCell ⟨rb, o, none⟩ v) := by
  have other : ∀ k, k ≠ rb → (w.setCell ⟨rb, o, none⟩ v).heap[k]? = w.heap[k]? := fun k hk => Below.heap_setCell _ _ _ _ hk
  obtain ⟨nv, pvs, hb, hns⟩ := h.own
  have keep : ∀ {base : Nat} {t : TypeId} {size : Nat} {v' : Value} {n : Nat} {xs : List Value}, t ≠ tyReader → w.ownsRow base t size v' n xs → (w.setCell ⟨rb, o, none⟩ v).ownsRow base t size v' n xs := by
    intro base t size v' n xs ht hown
    refine ⟨hown.1, ?_⟩
    rcases hown.2 with hn | ⟨g, cap, cur, rfl, hbb, hgg, rest⟩
    · exact .inl hn
    · refine .inr ⟨g, cap, cur, rfl, hbb, ?_, rest⟩
      rw [other g (fun e => by subst e; rw [hgg] at hb; simp at hb; exact ht hb.2)]
      exact hgg
  refine ⟨h.e_le, h.t_le, h.tl, hp, hm, keep (by decide) h.toks, nv, pvs, ?_, by rw [hn]; exact hns.len, by rw [hn]; exact keep (by decide) hns.row, fun i x pv h1 h2 => keep (by decide) (hns.parts i x pv (by rw [← hn]; exact h1) h2), hns.sep⟩
  simp only [World.setCell, Array.getElem?_modify, if_pos, hb, Option.map_some, Option.isSome_none, Bool.false_eq_true, if_false]
  rw [hc nv]

theorem Rd.setPos (h : Rd T rb lv e X s w) (hp : s.pos < e) : Rd T rb lv e X (adv s) (w.setCell ⟨rb, 1, none⟩ (.int .i64 (s.pos + 1))) :=
  h.setField 1 _ (adv s) rfl (by have := h.e_le; show s.pos + 1 ≤ T.length; omega) (by have := h.mts_le; show s.mts ≤ s.pos + 1; omega) (fun nv => by simp [rdCells, adv])

theorem Rd.setBad (h : Rd T rb lv e X s w) : Rd T rb lv e X (spoil s) (w.setCell ⟨rb, 3, none⟩ (.bool true)) :=
  h.setField 3 _ (spoil s) rfl h.pos_le h.mts_le (fun nv => by simp [rdCells, spoil])

theorem Rd.seeLen (h : Rd T rb lv e X s w) : (see T e s).length ≤ 4000 := by
  unfold see
  split
  · simp
  · rename_i hp
    by_cases hl : s.pos < T.length
    · rw [List.getD_eq_getElem?_getD, List.getElem?_eq_getElem hl]
      exact h.tl _ (List.getElem_mem hl)
    · rw [List.getD_eq_getElem?_getD, List.getElem?_eq_none (by omega)]
      simp

/-- The place up to which it reads is set anew. -/
theorem Rd.setEnd (h : Rd T rb lv e X s w) (e' : Nat) (he : e' ≤ T.length) : Rd T rb lv e' X s (w.setCell ⟨rb, 2, none⟩ (.int .i64 e')) := by
  have other : ∀ k, k ≠ rb → (w.setCell ⟨rb, 2, none⟩ (.int .i64 e')).heap[k]? = w.heap[k]? := fun k hk => Below.heap_setCell _ _ _ _ hk
  obtain ⟨nv, pvs, hb, hns⟩ := h.own
  have keep : ∀ {base : Nat} {t : TypeId} {size : Nat} {v' : Value} {n : Nat} {xs : List Value}, t ≠ tyReader → w.ownsRow base t size v' n xs → (w.setCell ⟨rb, 2, none⟩ (.int .i64 e')).ownsRow base t size v' n xs := by
    intro base t size v' n xs ht hown
    refine ⟨hown.1, ?_⟩
    rcases hown.2 with hn | ⟨g, cap, cur, rfl, hbb, hgg, rest⟩
    · exact .inl hn
    · refine .inr ⟨g, cap, cur, rfl, hbb, ?_, rest⟩
      rw [other g (fun e => by subst e; rw [hgg] at hb; simp at hb; exact ht hb.2)]
      exact hgg
  refine ⟨he, h.t_le, h.tl, h.pos_le, h.mts_le, keep (by decide) h.toks, nv, pvs, ?_, hns.len, keep (by decide) hns.row, fun i x pv h1 h2 => keep (by decide) (hns.parts i x pv h1 h2), hns.sep⟩
  simp only [World.setCell, Array.getElem?_modify, if_pos, hb, Option.map_some, Option.isSome_none, Bool.false_eq_true, if_false]
  simp [rdCells]

/-- One place on, wherever that is. -/
theorem Rd.step (h : Rd T rb lv e X s w) (hp : s.pos < T.length) : Rd T rb lv e X (adv s) (w.setCell ⟨rb, 1, none⟩ (.int .i64 (s.pos + 1))) :=
  h.setField 1 _ (adv s) rfl hp (by have := h.mts_le; show s.mts ≤ s.pos + 1; omega) (fun nv => by simp [rdCells, adv])

/-- The reader's cells, as the walk reads them. -/
theorem Rd.cell (h : Rd T rb lv e X s w) : w.cell? ⟨rb, 0, none⟩ = some lv ∧ w.cell? ⟨rb, 1, none⟩ = some (.int .i64 s.pos) ∧ w.cell? ⟨rb, 2, none⟩ = some (.int .i64 e) ∧ w.cell? ⟨rb, 3, none⟩ = some (.bool s.bad) ∧ w.cell? ⟨rb, 5, none⟩ = some (.int .i64 s.mts) ∧ (∀ o, w.frozen? ⟨rb, o, none⟩ = false) := by
  obtain ⟨nv, pvs, hb, _⟩ := h.own
  simp [World.cell?, World.frozen?, hb, rdCells]

end
end Go.Proofs.YtnocnkblhjifjaaGreatDoor
