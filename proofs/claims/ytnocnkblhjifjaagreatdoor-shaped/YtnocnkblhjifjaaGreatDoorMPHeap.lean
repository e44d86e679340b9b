import Derived.Test.YtnocnkblhjifjaaGreatDoorMRead
import Derived.Test.YtnocnkblhjifjaaGreatDoorMPTok
import Derived.Test.YtnocnkblhjifjaaGreatDoorMRefText
/-
  How the program's reader (parse.reader) and its trees (tree.Node) lie in memory.
-/
namespace Go.Proofs.YtnocnkblhjifjaaGreatDoor
open Go.RowKit

abbrev tyRdr : TypeId := 160
abbrev tyTree : TypeId := 86
abbrev tyTreeP : TypeId := 61

/-- What a call with a reader at block rb leaves as it was: all blocks but the reader's. -/
structure Kq (rb : Nat) (w w' : World) : Prop where
  os : w'.os = w.os
  tape : w'.tape = w.tape
  output : w'.output = w.output
  size : w.heap.size ≤ w'.heap.size
  block : ∀ k, k < w.heap.size → k ≠ rb → w'.heap[k]? = w.heap[k]?

theorem Kq.refl (rb : Nat) (w : World) : Kq rb w w := ⟨rfl, rfl, rfl, Nat.le_refl _, fun _ _ _ => rfl⟩

theorem Kq.trans {rb : Nat} {a b c : World} (h : Kq rb a b) (k : Kq rb b c) : Kq rb a c :=
  ⟨k.os.trans h.os, k.tape.trans h.tape, k.output.trans h.output, Nat.le_trans h.size k.size, fun i hi hr => (k.block i (Nat.lt_of_lt_of_le hi h.size) hr).trans (h.block i hi hr)⟩

theorem Kq.of_below {rb : Nat} {w w' : World} (h : Below w.heap.size w w') : Kq rb w w' := ⟨h.os, h.tape, h.output, h.size, fun k hk _ => h.block k hk⟩

theorem Kq.alloc {rb : Nat} {a w : World} (h : Kq rb a w) (o : Obj) : Kq rb a (w.alloc o) :=
  h.trans (Kq.of_below ((Below.refl _ _).alloc (Nat.le_refl _) o))

theorem Kq.drew {rb : Nat} {a w : World} (h : Kq rb a w) : Kq rb a w.drew := ⟨h.os, h.tape, h.output, h.size, h.block⟩

theorem Kq.setR {rb : Nat} {a w : World} (h : Kq rb a w) (o : Nat) (v : Value) : Kq rb a (w.setCell ⟨rb, o, none⟩ v) :=
  h.trans ⟨rfl, rfl, rfl, by simp [World.setCell], fun k _ hk => Below.heap_setCell _ _ _ _ hk⟩

/-- A store into a block that was not there at first. -/
theorem Kq.setNew {rb : Nat} {a w : World} (h : Kq rb a w) {p : Addr} (hp : a.heap.size ≤ p.block) (v : Value) : Kq rb a (w.setCell p v) :=
  ⟨h.os, h.tape, h.output, by have := h.size; simpa [World.setCell] using this, fun k hk hkr => by
    rw [Below.heap_setCell _ _ _ _ (by omega)]; exact h.block k hk hkr⟩

/-- Behind an append onto a row of one's own that was made since. -/
theorem Kq.grownOwn {rb : Nat} {a w w' : World} {row : Option Nat} (h : Kq rb a w) (hg : w.grownBy w' row) (hr : ∀ k, row = some k → a.heap.size ≤ k) : Kq rb a w' :=
  ⟨hg.os.trans h.os, hg.tape.trans h.tape, hg.output.trans h.output, Nat.le_trans h.size hg.size, fun k hk hkr => by
    rw [hg.block k (Nat.lt_of_lt_of_le hk h.size) (fun e => by have := hr k e.symm; omega)]
    exact h.block k hk hkr⟩

/-- The reader at block rb, with these tokens still to come. -/
structure Rq (rb : Nat) (ts : Toks) (w : World) : Prop where
  len : ts.length ≤ 4000
  toks : ∀ t ∈ ts, Tok t ∧ t ≠ []
  own : ∃ (tb o cap : Nat) (cs : Array Value), w.heap[rb]? = some (.cells #[.slice (some ⟨tb, o, none⟩) ts.length cap] tyRdr (0, 0)) ∧ w.heap[tb]? = some (.cells cs tyStr (0, 0)) ∧ ts.length ≤ cap ∧ cap ≤ 9223372036854775807 ∧ ∀ i t, ts[i]? = some t → cs[o + i]? = some (strV t)

theorem Rq.lt {rb : Nat} {ts : Toks} {w : World} (h : Rq rb ts w) : rb < w.heap.size := by
  obtain ⟨tb, o, cap, cs, hb, _⟩ := h.own
  exact (Array.getElem?_eq_some_iff.1 hb).1

theorem Rq.isR {rb : Nat} {ts : Toks} {w : World} (h : Rq rb ts w) : ∃ c f, w.heap[rb]? = some (.cells c tyRdr f) := by
  obtain ⟨tb, o, cap, cs, hb, _⟩ := h.own
  exact ⟨_, _, hb⟩

/-- It stays where all that was there stays. -/
theorem Rq.kept {rb : Nat} {ts : Toks} {w w' : World} (h : Rq rb ts w) (hk : ∀ k, k < w.heap.size → w'.heap[k]? = w.heap[k]?) : Rq rb ts w' := by
  obtain ⟨tb, o, cap, cs, hb, ht, h1, h2⟩ := h.own
  exact ⟨h.len, h.toks, tb, o, cap, cs, by rw [hk rb (Array.getElem?_eq_some_iff.1 hb).1]; exact hb, by rw [hk tb (Array.getElem?_eq_some_iff.1 ht).1]; exact ht, h1, h2⟩

theorem Rq.alloc {rb : Nat} {ts : Toks} {w : World} (h : Rq rb ts w) (o : Obj) : Rq rb ts (w.alloc o) :=
  h.kept fun _ hk => Below.heap_alloc _ _ _ hk

def ptrV (b : Nat) : Value := .pointer (some ⟨b, 0, none⟩)

/-- Which kinds of nodes stand for which trees (the first number: 0 expressions, 1 patterns, 2 types, 3 variants, 4 declarations, 5 letters that are declared, 6 rows), with what text, and what their parts are. -/
def KindOf (c : Nat) (is name : List UInt8) (k : Int) (txt : List UInt8) (cs : List Nat) : Prop :=
  ∀ P : Nat → List UInt8 → List UInt8 → Int → List UInt8 → List Nat → Prop,
    (∀ (c : Nat), c ≤ 1 → ∀ (x : List UInt8), P c K.num_ x 0 x []) →
    (∀ (c : Nat), c ≤ 1 → ∀ (x : List UInt8), x = K.true_ ∨ x = K.false_ → P c K.const_ x 1 x []) →
    (∀ (c : Nat), c ≤ 1 → P c K.const_ K.unit_ 2 K.unit_ []) →
    (∀ (c : Nat), c ≤ 1 → ∀ (x : List UInt8), P c K.var_ x 3 x []) →
    (P 1 K.const_ K.under_ 4 K.under_ []) →
    (∀ (x : List UInt8), P 0 K.fun_ x 5 x [0]) →
    (∀ (x : List UInt8), P 0 K.let_ x 6 x [0, 0]) →
    (∀ (x : List UInt8), P 0 K.rec_ x 7 x [0, 0]) →
    (P 0 K.if_ [] 8 [] [0, 0, 0]) →
    (P 0 K.seq_ [] 9 [] [0, 0]) →
    (P 0 K.setN_ [] 10 [] [0, 0]) →
    (∀ (x : List UInt8), x ∈ ([[61], [60], [43], [45], [42], [47]] : List (List UInt8)) → P 0 x [] 11 x [0, 0]) →
    (P 0 K.bang_ [] 12 [] [0]) →
    (P 0 K.app_ [] 13 [] [0, 0]) →
    (∀ (c : Nat), c ≤ 1 → ∀ (x : List UInt8), ∀ (n : Nat), P c K.con_ x 14 x (List.replicate n c)) →
    (∀ (n : Nat), P 0 K.match_ [] 15 [] (0 :: List.replicate n 6)) →
    (P 6 K.row_ [] 16 [] [1, 0]) →
    (P 4 K.do_ [] 17 [] [0]) →
    (∀ (x : List UInt8), ∀ (n m : Nat), P 4 K.type_ x 18 x (List.replicate n 5 ++ List.replicate m 3)) →
    (∀ (x : List UInt8), P 5 K.var_ x 19 x []) →
    (∀ (x : List UInt8), ∀ (n : Nat), P 3 K.named_ x 20 x (List.replicate n 2)) →
    (∀ (x : List UInt8), P 2 K.var_ (39 :: x) 21 x []) →
    (∀ (x : List UInt8), ∀ (n : Nat), P 2 K.named_ x 22 x (List.replicate n 2)) →
    (P 2 K.arrow_ [] 23 [] [2, 2]) →
    (∀ (x : List UInt8), P 4 K.let_ x 6 x [0]) →
    (∀ (x : List UInt8), P 4 K.rec_ x 7 x [0]) →
    P c is name k txt cs

theorem KindOf.num (c : Nat) (hc : c ≤ 1) (x : List UInt8) : KindOf c K.num_ x 0 x [] := fun _ h0 _ _ _ _ _ _ _ _ _ _ _ _ _ _ _ _ _ _ _ _ _ _ _ _ _ => h0 c hc x
theorem KindOf.bool (c : Nat) (hc : c ≤ 1) (x : List UInt8) (hx : x = K.true_ ∨ x = K.false_) : KindOf c K.const_ x 1 x [] := fun _ _ h1 _ _ _ _ _ _ _ _ _ _ _ _ _ _ _ _ _ _ _ _ _ _ _ _ => h1 c hc x hx
theorem KindOf.unit (c : Nat) (hc : c ≤ 1) : KindOf c K.const_ K.unit_ 2 K.unit_ [] := fun _ _ _ h2 _ _ _ _ _ _ _ _ _ _ _ _ _ _ _ _ _ _ _ _ _ _ _ => h2 c hc
theorem KindOf.var (c : Nat) (hc : c ≤ 1) (x : List UInt8) : KindOf c K.var_ x 3 x [] := fun _ _ _ _ h3 _ _ _ _ _ _ _ _ _ _ _ _ _ _ _ _ _ _ _ _ _ _ => h3 c hc x
theorem KindOf.wild : KindOf 1 K.const_ K.under_ 4 K.under_ [] := fun _ _ _ _ _ h4 _ _ _ _ _ _ _ _ _ _ _ _ _ _ _ _ _ _ _ _ _ => h4
theorem KindOf.fun_ (x : List UInt8) : KindOf 0 K.fun_ x 5 x [0] := fun _ _ _ _ _ _ h5 _ _ _ _ _ _ _ _ _ _ _ _ _ _ _ _ _ _ _ _ => h5 x
theorem KindOf.let_ (x : List UInt8) : KindOf 0 K.let_ x 6 x [0, 0] := fun _ _ _ _ _ _ _ h6 _ _ _ _ _ _ _ _ _ _ _ _ _ _ _ _ _ _ _ => h6 x
theorem KindOf.rec_ (x : List UInt8) : KindOf 0 K.rec_ x 7 x [0, 0] := fun _ _ _ _ _ _ _ _ h7 _ _ _ _ _ _ _ _ _ _ _ _ _ _ _ _ _ _ => h7 x
theorem KindOf.if_ : KindOf 0 K.if_ [] 8 [] [0, 0, 0] := fun _ _ _ _ _ _ _ _ _ h8 _ _ _ _ _ _ _ _ _ _ _ _ _ _ _ _ _ => h8
theorem KindOf.seq : KindOf 0 K.seq_ [] 9 [] [0, 0] := fun _ _ _ _ _ _ _ _ _ _ h9 _ _ _ _ _ _ _ _ _ _ _ _ _ _ _ _ => h9
theorem KindOf.set : KindOf 0 K.setN_ [] 10 [] [0, 0] := fun _ _ _ _ _ _ _ _ _ _ _ h10 _ _ _ _ _ _ _ _ _ _ _ _ _ _ _ => h10
theorem KindOf.calc_ (x : List UInt8) (hx : x ∈ ([[61], [60], [43], [45], [42], [47]] : List (List UInt8))) : KindOf 0 x [] 11 x [0, 0] := fun _ _ _ _ _ _ _ _ _ _ _ _ h11 _ _ _ _ _ _ _ _ _ _ _ _ _ _ => h11 x hx
theorem KindOf.fetch : KindOf 0 K.bang_ [] 12 [] [0] := fun _ _ _ _ _ _ _ _ _ _ _ _ _ h12 _ _ _ _ _ _ _ _ _ _ _ _ _ => h12
theorem KindOf.app : KindOf 0 K.app_ [] 13 [] [0, 0] := fun _ _ _ _ _ _ _ _ _ _ _ _ _ _ h13 _ _ _ _ _ _ _ _ _ _ _ _ => h13
theorem KindOf.con (c : Nat) (hc : c ≤ 1) (x : List UInt8) (n : Nat) : KindOf c K.con_ x 14 x (List.replicate n c) := fun _ _ _ _ _ _ _ _ _ _ _ _ _ _ _ h14 _ _ _ _ _ _ _ _ _ _ _ => h14 c hc x n
theorem KindOf.match_ (n : Nat) : KindOf 0 K.match_ [] 15 [] (0 :: List.replicate n 6) := fun _ _ _ _ _ _ _ _ _ _ _ _ _ _ _ _ h15 _ _ _ _ _ _ _ _ _ _ => h15 n
theorem KindOf.row : KindOf 6 K.row_ [] 16 [] [1, 0] := fun _ _ _ _ _ _ _ _ _ _ _ _ _ _ _ _ _ h16 _ _ _ _ _ _ _ _ _ => h16
theorem KindOf.do_ : KindOf 4 K.do_ [] 17 [] [0] := fun _ _ _ _ _ _ _ _ _ _ _ _ _ _ _ _ _ _ h17 _ _ _ _ _ _ _ _ => h17
theorem KindOf.type_ (x : List UInt8) (n m : Nat) : KindOf 4 K.type_ x 18 x (List.replicate n 5 ++ List.replicate m 3) := fun _ _ _ _ _ _ _ _ _ _ _ _ _ _ _ _ _ _ _ h18 _ _ _ _ _ _ _ => h18 x n m
theorem KindOf.own (x : List UInt8) : KindOf 5 K.var_ x 19 x [] := fun _ _ _ _ _ _ _ _ _ _ _ _ _ _ _ _ _ _ _ _ h19 _ _ _ _ _ _ => h19 x
theorem KindOf.variant (x : List UInt8) (n : Nat) : KindOf 3 K.named_ x 20 x (List.replicate n 2) := fun _ _ _ _ _ _ _ _ _ _ _ _ _ _ _ _ _ _ _ _ _ h20 _ _ _ _ _ => h20 x n
theorem KindOf.letter (x : List UInt8) : KindOf 2 K.var_ (39 :: x) 21 x [] := fun _ _ _ _ _ _ _ _ _ _ _ _ _ _ _ _ _ _ _ _ _ _ h21 _ _ _ _ => h21 x
theorem KindOf.named (x : List UInt8) (n : Nat) : KindOf 2 K.named_ x 22 x (List.replicate n 2) := fun _ _ _ _ _ _ _ _ _ _ _ _ _ _ _ _ _ _ _ _ _ _ _ h22 _ _ _ => h22 x n
theorem KindOf.arrow : KindOf 2 K.arrow_ [] 23 [] [2, 2] := fun _ _ _ _ _ _ _ _ _ _ _ _ _ _ _ _ _ _ _ _ _ _ _ _ h23 _ _ => h23
theorem KindOf.dlet (x : List UInt8) : KindOf 4 K.let_ x 6 x [0] := fun _ _ _ _ _ _ _ _ _ _ _ _ _ _ _ _ _ _ _ _ _ _ _ _ _ h24 _ => h24 x
theorem KindOf.drec (x : List UInt8) : KindOf 4 K.rec_ x 7 x [0] := fun _ _ _ _ _ _ _ _ _ _ _ _ _ _ _ _ _ _ _ _ _ _ _ _ _ _ h25 => h25 x

/-- At this block lies the tree; the rows of its parts lie in blocks of A. -/
def Mem (A : Nat → Prop) (w : World) : Nat → Tr → Nat → Prop
  | c, .mk is name ts, b => ∃ (k : Int) (txt : List UInt8) (cs : List Nat) (pv : Value) (ps : List Nat), KindOf c is name k txt cs ∧ w.heap[b]? = some (.cells #[.int .i64 k, .string (bs txt), pv] tyTree (0, 0)) ∧ w.ownsRow 0 tyTreeP 1 pv ps.length (ps.map ptrV) ∧ (∀ g, pv.ownBlock = some g → A g) ∧ Mems cs ts ps
 where
  Mems : List Nat → List Tr → List Nat → Prop
    | [], [], [] => True
    | c :: cs, t :: ts, b :: bs => Mem A w c t b ∧ Mems cs ts bs
    | _, _, _ => False

theorem Mem.mk {A : Nat → Prop} {w : World} {c : Nat} {is name : List UInt8} {ts : List Tr} {k : Int} {txt : List UInt8} {cs : List Nat} {b : Nat} {pv : Value} {ps : List Nat} (hk : KindOf c is name k txt cs)
    (hb : w.heap[b]? = some (.cells #[.int .i64 k, .string (bs txt), pv] tyTree (0, 0))) (hr : w.ownsRow 0 tyTreeP 1 pv ps.length (ps.map ptrV)) (hA : ∀ g, pv.ownBlock = some g → A g) (hm : Mem.Mems A w cs ts ps) : Mem A w c (.mk is name ts) b := by
  rw [Mem]; exact ⟨k, txt, cs, pv, ps, hk, hb, hr, hA, hm⟩
theorem Mem.inv {A : Nat → Prop} {w : World} {c : Nat} {is name : List UInt8} {ts : List Tr} {b : Nat} (h : Mem A w c (.mk is name ts) b) : ∃ (k : Int) (txt : List UInt8) (cs : List Nat) (pv : Value) (ps : List Nat), KindOf c is name k txt cs ∧ w.heap[b]? = some (.cells #[.int .i64 k, .string (bs txt), pv] tyTree (0, 0)) ∧ w.ownsRow 0 tyTreeP 1 pv ps.length (ps.map ptrV) ∧ (∀ g, pv.ownBlock = some g → A g) ∧ Mem.Mems A w cs ts ps := by
  rw [Mem] at h; exact h
theorem Mem.Mems.nil {A : Nat → Prop} {w : World} : Mem.Mems A w [] [] [] := by rw [Mem.Mems]; trivial
theorem Mem.Mems.cons {A : Nat → Prop} {w : World} {c : Nat} {cs : List Nat} {t : Tr} {ts : List Tr} {b : Nat} {bs : List Nat} (h : Mem A w c t b) (hr : Mem.Mems A w cs ts bs) : Mem.Mems A w (c :: cs) (t :: ts) (b :: bs) := by rw [Mem.Mems]; exact ⟨h, hr⟩
theorem Mem.Mems.unnil {A : Nat → Prop} {w : World} {ts : List Tr} {b : List Nat} (h : Mem.Mems A w [] ts b) : ts = [] ∧ b = [] := by
  cases ts <;> cases b <;> simp [Mem.Mems] at h ⊢
theorem Mem.Mems.uncons {A : Nat → Prop} {w : World} {c : Nat} {cs : List Nat} {ts : List Tr} {b : List Nat} (h : Mem.Mems A w (c :: cs) ts b) : ∃ t r b0 br, ts = t :: r ∧ b = b0 :: br ∧ Mem A w c t b0 ∧ Mem.Mems A w cs r br := by
  cases ts with
  | nil => cases b <;> simp [Mem.Mems] at h
  | cons t r =>
    cases b with
    | nil => simp [Mem.Mems] at h
    | cons b0 br => rw [Mem.Mems] at h; exact ⟨t, r, b0, br, rfl, rfl, h.1, h.2⟩
theorem Mem.both {A : Nat → Prop} {w : World} {P : Nat → Tr → Nat → Prop} {Q : List Nat → List Tr → List Nat → Prop}
    (hmk : ∀ {c is name ts k txt cs b pv ps}, KindOf c is name k txt cs → w.heap[b]? = some (.cells #[.int .i64 k, .string (bs txt), pv] tyTree (0, 0)) → w.ownsRow 0 tyTreeP 1 pv ps.length (ps.map ptrV) → (∀ g, pv.ownBlock = some g → A g) → Mem.Mems A w cs ts ps → Q cs ts ps → P c (.mk is name ts) b)
    (hnil : Q [] [] []) (hcons : ∀ {c cs t ts b bs}, Mem A w c t b → Mem.Mems A w cs ts bs → P c t b → Q cs ts bs → Q (c :: cs) (t :: ts) (b :: bs)) : (∀ t c b, Mem A w c t b → P c t b) ∧ ∀ ts cs bs, Mem.Mems A w cs ts bs → Q cs ts bs := by
  have h1 : ∀ is name ts, (∀ cs bs, Mem.Mems A w cs ts bs → Q cs ts bs) → ∀ c b, Mem A w c (.mk is name ts) b → P c (.mk is name ts) b := by
    intro is name ts ih c b h
    obtain ⟨k, txt, cs, pv, ps, a1, a2, a3, a4, a5⟩ := h.inv
    exact hmk a1 a2 a3 a4 a5 (ih _ _ a5)
  have h2 : ∀ cs bs, Mem.Mems A w cs [] bs → Q cs [] bs := by
    intro cs bs h
    cases cs with
    | nil => obtain ⟨_, rfl⟩ := h.unnil; exact hnil
    | cons c cs => obtain ⟨t, r, b0, br, e, _⟩ := h.uncons; cases e
  have h3 : ∀ t ts, (∀ c b, Mem A w c t b → P c t b) → (∀ cs bs, Mem.Mems A w cs ts bs → Q cs ts bs) → ∀ cs bs, Mem.Mems A w cs (t :: ts) bs → Q cs (t :: ts) bs := by
    intro t ts iht ihts cs bs h
    cases cs with
    | nil => obtain ⟨e, _⟩ := h.unnil; cases e
    | cons c cs =>
      obtain ⟨t', r, b0, br, e, rfl, a, b⟩ := h.uncons
      cases e
      exact hcons a b (iht _ _ a) (ihts _ _ b)
  exact ⟨fun t => Tr.rec (motive_1 := fun t => ∀ c b, Mem A w c t b → P c t b) (motive_2 := fun ts => ∀ cs bs, Mem.Mems A w cs ts bs → Q cs ts bs) h1 h2 h3 t, fun ts => Tr.rec_1 (motive_1 := fun t => ∀ c b, Mem A w c t b → P c t b) (motive_2 := fun ts => ∀ cs bs, Mem.Mems A w cs ts bs → Q cs ts bs) h1 h2 h3 ts⟩

theorem ownsRow_kept {w w' : World} {base : Nat} {t : TypeId} {size : Nat} {v : Value} {n : Nat} {xs : List Value} (h : w.ownsRow base t size v n xs) (hk : ∀ (k : Nat) (c : Array Value) (f : Nat × Nat), v.ownBlock = some k → w.heap[k]? = some (.cells c t f) → w'.heap[k]? = w.heap[k]?) : w'.ownsRow base t size v n xs := by
  refine ⟨h.1, ?_⟩
  rcases h.2 with hn | ⟨g, cap, cur, rfl, hb, hgg, rest⟩
  · exact .inl hn
  · exact .inr ⟨g, cap, cur, rfl, hb, by rw [hk g _ _ rfl hgg]; exact hgg, rest⟩

theorem Mem.keptB {A A' : Nat → Prop} {w w' : World} (hN : ∀ (k : Nat) (c : Array Value) (f : Nat × Nat), w.heap[k]? = some (.cells c tyTree f) → w'.heap[k]? = w.heap[k]?) (hP : ∀ (k : Nat) (c : Array Value) (f : Nat × Nat), A k → w.heap[k]? = some (.cells c tyTreeP f) → w'.heap[k]? = w.heap[k]? ∧ A' k) : (∀ (t : Tr) (c : Nat) (b : Nat), Mem A w c t b → Mem A' w' c t b) ∧ ∀ (ts : List Tr) (cs bs : List Nat), Mem.Mems A w cs ts bs → Mem.Mems A' w' cs ts bs := by
  refine Mem.both (P := fun c t b => Mem A' w' c t b) (Q := fun cs ts bs => Mem.Mems A' w' cs ts bs) ?_ Mem.Mems.nil (fun _ _ h hr => Mem.Mems.cons h hr)
  intro c is name ts k txt cs b pv ps h1 hb hr hA _ hm
  refine Mem.mk h1 (by rw [hN _ _ _ hb]; exact hb) (ownsRow_kept hr fun k c f e he => (hP k c f (hA k e) he).1) (fun g hg => ?_) hm
  rcases hr.2 with ⟨rfl, _⟩ | ⟨g2, cap, cur, rfl, _, hgg, _⟩
  · simp [Value.ownBlock] at hg
  · have e : g2 = g := by simpa [Value.ownBlock] using hg
    subst e
    exact (hP _ _ _ (hA _ hg) hgg).2
/-- Trees stay where nodes and their rows stay; more blocks may be allowed. -/
theorem Mem.kept {A A' : Nat → Prop} {w w' : World} (hN : ∀ (k : Nat) (c : Array Value) (f : Nat × Nat), w.heap[k]? = some (.cells c tyTree f) → w'.heap[k]? = w.heap[k]?) (hP : ∀ (k : Nat) (c : Array Value) (f : Nat × Nat), A k → w.heap[k]? = some (.cells c tyTreeP f) → w'.heap[k]? = w.heap[k]? ∧ A' k) {c : Nat} {t : Tr} {b : Nat} (h : Mem A w c t b) : Mem A' w' c t b := (Mem.keptB hN hP).1 _ _ _ h
theorem Mem.Mems.kept {A A' : Nat → Prop} {w w' : World} (hN : ∀ (k : Nat) (c : Array Value) (f : Nat × Nat), w.heap[k]? = some (.cells c tyTree f) → w'.heap[k]? = w.heap[k]?) (hP : ∀ (k : Nat) (c : Array Value) (f : Nat × Nat), A k → w.heap[k]? = some (.cells c tyTreeP f) → w'.heap[k]? = w.heap[k]? ∧ A' k) {cs : List Nat} {ts : List Tr} {bs : List Nat} (h : Mem.Mems A w cs ts bs) : Mem.Mems A' w' cs ts bs := (Mem.keptB hN hP).2 _ _ _ h

theorem lt_of_heap {w : World} {k : Nat} {o : Obj} (h : w.heap[k]? = some o) : k < w.heap.size := (Array.getElem?_eq_some_iff.1 h).1

/-- Other blocks are allowed: those that lie there. -/
theorem Mem.wide {A A' : Nat → Prop} {w : World} (hA : ∀ k, A k → k < w.heap.size → A' k) {c : Nat} {t : Tr} {b : Nat} (h : Mem A w c t b) : Mem A' w c t b := h.kept (fun _ _ _ _ => rfl) (fun k _ _ h1 h2 => ⟨rfl, hA k h1 (lt_of_heap h2)⟩)
theorem Mem.Mems.wide {A A' : Nat → Prop} {w : World} (hA : ∀ k, A k → k < w.heap.size → A' k) {cs : List Nat} {ts : List Tr} {bs : List Nat} (h : Mem.Mems A w cs ts bs) : Mem.Mems A' w cs ts bs := h.kept (fun _ _ _ _ => rfl) (fun k _ _ h1 h2 => ⟨rfl, hA k h1 (lt_of_heap h2)⟩)

theorem kq_other {rb : Nat} {w w' : World} {T : TypeId} (hT : T ≠ tyRdr) (hR : ∃ c f, w.heap[rb]? = some (.cells c tyRdr f)) (hk : Kq rb w w') {k : Nat} {c : Array Value} {f : Nat × Nat} (he : w.heap[k]? = some (.cells c T f)) : w'.heap[k]? = w.heap[k]? := by
  refine hk.block k (lt_of_heap he) (fun e => ?_)
  subst e
  obtain ⟨c2, f2, hR⟩ := hR
  rw [he] at hR
  simp at hR
  exact hT hR.2.1

theorem Mem.kq {A : Nat → Prop} {rb : Nat} {w w' : World} {ts : Toks} (hR : Rq rb ts w) (hk : Kq rb w w') {c : Nat} {t : Tr} {b : Nat} (h : Mem A w c t b) : Mem A w' c t b := h.kept (fun _ _ _ he => kq_other (by decide) hR.isR hk he) (fun _ _ _ h1 he => ⟨kq_other (by decide) hR.isR hk he, h1⟩)
theorem Mem.Mems.kq {A : Nat → Prop} {rb : Nat} {w w' : World} {ts : Toks} (hR : Rq rb ts w) (hk : Kq rb w w') {cs : List Nat} {l : List Tr} {b : List Nat} (h : Mem.Mems A w cs l b) : Mem.Mems A w' cs l b := h.kept (fun _ _ _ he => kq_other (by decide) hR.isR hk he) (fun _ _ _ h1 he => ⟨kq_other (by decide) hR.isR hk he, h1⟩)
theorem Mem.onto {A : Nat → Prop} {w w' : World} (hb : Below w.heap.size w w') {c : Nat} {t : Tr} {b : Nat} (h : Mem A w c t b) : Mem A w' c t b := h.kept (fun _ _ _ he => hb.block _ (lt_of_heap he)) (fun _ _ _ h1 he => ⟨hb.block _ (lt_of_heap he), h1⟩)
theorem Mem.Mems.onto {A : Nat → Prop} {w w' : World} (hb : Below w.heap.size w w') {cs : List Nat} {l : List Tr} {b : List Nat} (h : Mem.Mems A w cs l b) : Mem.Mems A w' cs l b := h.kept (fun _ _ _ he => hb.block _ (lt_of_heap he)) (fun _ _ _ h1 he => ⟨hb.block _ (lt_of_heap he), h1⟩)
theorem Mem.alloc {A : Nat → Prop} {w : World} {c : Nat} {t : Tr} {b : Nat} (h : Mem A w c t b) (o : Obj) : Mem A (w.alloc o) c t b := h.onto ((Below.refl _ _).alloc (Nat.le_refl _) o)
theorem Mem.Mems.alloc {A : Nat → Prop} {w : World} {cs : List Nat} {ts : List Tr} {b : List Nat} (h : Mem.Mems A w cs ts b) (o : Obj) : Mem.Mems A (w.alloc o) cs ts b := h.onto ((Below.refl _ _).alloc (Nat.le_refl _) o)

/-- Behind an append onto a row that is none of theirs. -/
theorem Mem.Mems.grown {A : Nat → Prop} {w w' : World} {n : Nat} {xs : List Value} {base : Nat} {v : Value} (hv : w.ownsRow base tyTreeP 1 v n xs) (hg : w.grownBy w' v.ownBlock) (hA : ∀ g, A g → v.ownBlock ≠ some g) {cs : List Nat} {l : List Tr} {b : List Nat} (h : Mem.Mems A w cs l b) : Mem.Mems A w' cs l b := by
  refine h.kept (fun k c f he => hg.block k (lt_of_heap he) (fun e => ?_)) (fun k c f h1 he => ⟨hg.block k (lt_of_heap he) (fun e => hA k h1 e.symm), h1⟩)
  rcases hv.2 with ⟨rfl, _⟩ | ⟨g2, cap, cur, rfl, _, hgg, _⟩
  · simp [Value.ownBlock] at e
  · have e : k = g2 := by simpa [Value.ownBlock] using e
    subst e
    rw [he] at hgg
    simp at hgg
    exact absurd hgg.2.1 (by decide)

theorem Mem.Mems.append {A : Nat → Prop} {w : World} : ∀ {cs : List Nat} {ts : List Tr} {b : List Nat} {cs2 : List Nat} {ts2 : List Tr} {b2 : List Nat}, Mem.Mems A w cs ts b → Mem.Mems A w cs2 ts2 b2 → Mem.Mems A w (cs ++ cs2) (ts ++ ts2) (b ++ b2) := by
  intro cs
  induction cs with
  | nil => intro ts b cs2 ts2 b2 h h2; obtain ⟨rfl, rfl⟩ := h.unnil; exact h2
  | cons c cs ih => intro ts b cs2 ts2 b2 h h2; obtain ⟨t, r, b0, br, rfl, rfl, h, hr⟩ := h.uncons; exact .cons h (ih hr h2)

theorem Mem.Mems.length {A : Nat → Prop} {w : World} : ∀ {cs : List Nat} {ts : List Tr} {b : List Nat}, Mem.Mems A w cs ts b → cs.length = ts.length ∧ b.length = ts.length := by
  intro cs
  induction cs with
  | nil => intro ts b h; obtain ⟨rfl, rfl⟩ := h.unnil; exact ⟨rfl, rfl⟩
  | cons c cs ih => intro ts b h; obtain ⟨t, r, b0, br, rfl, rfl, h, hr⟩ := h.uncons; have := ih hr; simp only [List.length_cons]; omega

/-- A node more. -/
theorem Mem.made {A : Nat → Prop} {w : World} {c : Nat} {is name : List UInt8} {ts : List Tr} {k : Int} {txt : List UInt8} {cs : List Nat} {pv : Value} {ps : List Nat} (hk : KindOf c is name k txt cs) (hr : w.ownsRow 0 tyTreeP 1 pv ps.length (ps.map ptrV)) (hA : ∀ g, pv.ownBlock = some g → A g) (hm : Mem.Mems A w cs ts ps) :
    Mem A (w.alloc (.cells #[.int .i64 k, .string (bs txt), pv] tyTree)) c (.mk is name ts) w.heap.size :=
  .mk hk (by simp only [World.alloc, Array.getElem?_push_size]) (hr.alloc _) hA (hm.alloc _)

/-- Blocks from here on. -/
def From (w : World) : Nat → Prop := fun g => w.heap.size ≤ g

/-- What the program panics with where the tokens have not the form. -/
def noForm : Value := .iface 158 (.agg #[])
def gaveUp : Ending := .panicked [{ v := noForm, recovered := false }]

/-- The answer of a reading: a node, or it gives up. -/
def AnsN (rb c : Nat) (w : World) (o : Option (Tr × Toks)) (e : Ending) (w' : World) : Prop :=
  Kq rb w w' ∧ ((o = none ∧ e = gaveUp) ∨ ∃ t r b, o = some (t, r) ∧ e = .returned (ptrV b) ∧ Mem (From w) w' c t b ∧ Rq rb r w')

/-- A node, or nil where none begins, or it gives up. -/
def AnsO (rb c : Nat) (w : World) (o : Option (Option Tr × Toks)) (e : Ending) (w' : World) : Prop :=
  Kq rb w w' ∧ ((o = none ∧ e = gaveUp) ∨ (∃ r, o = some (none, r) ∧ e = .returned (.pointer none) ∧ Rq rb r w') ∨ ∃ t r b, o = some (some t, r) ∧ e = .returned (ptrV b) ∧ Mem (From w) w' c t b ∧ Rq rb r w')

/-- A row of nodes, new, or it gives up. -/
def AnsS (rb c : Nat) (w : World) (o : Option (List Tr × Toks)) (e : Ending) (w' : World) : Prop :=
  Kq rb w w' ∧ ((o = none ∧ e = gaveUp) ∨ ∃ l r v ps, o = some (l, r) ∧ e = .returned v ∧ w'.ownsRow w.heap.size tyTreeP 1 v ps.length (ps.map ptrV) ∧ Mem.Mems (fun g => w.heap.size ≤ g ∧ v.ownBlock ≠ some g) w' (List.replicate ps.length c) l ps ∧ Rq rb r w')

end Go.Proofs.YtnocnkblhjifjaaGreatDoor
/-
  Plain mathematics: how the program writes a node, against the grammar's text of a tree.
-/
namespace Go.Proofs.YtnocnkblhjifjaaGreatDoor
open Go.RowKit

def wordOf (k : Int) : List UInt8 :=
  if k = 5 then K.fun_ else if k = 6 then K.let_ else if k = 7 then K.rec_ else if k = 8 then K.if_ else if k = 9 then K.seq_ else if k = 10 then K.setN_ else if k = 12 then K.bang_ else if k = 13 then K.app_ else
  if k = 14 then K.con_ else if k = 15 then K.match_ else if k = 16 then K.row_ else if k = 17 then K.do_ else if k = 18 then K.type_ else if k = 23 then K.arrow_ else []

def titleOf (k : Int) (txt : List UInt8) : List UInt8 := if wordOf k = [] ∨ txt = [] then wordOf k ++ txt else wordOf k ++ 32 :: txt

def leafK (k : Int) : Bool := decide (k = 0 ∨ k = 1 ∨ k = 2 ∨ k = 3 ∨ k = 4 ∨ k = 19)

theorem head_word {is : List UInt8} {k : Int} (h1 : wordOf k = is) (h2 : is ≠ []) (h3 : is ≠ K.named_) (x : List UInt8) : headT is x = 40 :: titleOf k x := by
  unfold headT titleOf
  rw [h1]
  have e : (is == K.named_) = false := by simpa using h3
  rw [e, cond_false]
  by_cases hx : x = []
  · subst hx
    simp
  · have e2 : (x == ([] : List UInt8)) = false := by simpa using hx
    rw [e2, cond_false, if_neg (by simp [h2, hx])]
    rfl

theorem head_bare {k : Int} (h1 : wordOf k = []) (x : List UInt8) : 40 :: x = 40 :: titleOf k x := by
  unfold titleOf
  rw [h1, if_pos (Or.inl rfl)]; rfl

/-- The three ways of writing a node. -/
theorem KindOf.text {c : Nat} {is name : List UInt8} {k : Int} {txt : List UInt8} {cs : List Nat} (h : KindOf c is name k txt cs) :
    0 ≤ k ∧ k ≤ 23 ∧ ((leafK k = true ∧ leafT is = true ∧ name = txt) ∨ (leafK k = false ∧ k = 21 ∧ leafT is = true ∧ name = 39 :: txt) ∨ (leafK k = false ∧ k ≠ 21 ∧ leafT is = false ∧ headT is name = 40 :: titleOf k txt)) := by
  refine h (fun c is name k txt cs => 0 ≤ k ∧ k ≤ 23 ∧ ((leafK k = true ∧ leafT is = true ∧ name = txt) ∨ (leafK k = false ∧ k = 21 ∧ leafT is = true ∧ name = 39 :: txt) ∨ (leafK k = false ∧ k ≠ 21 ∧ leafT is = false ∧ headT is name = 40 :: titleOf k txt))) ?_ ?_ ?_ ?_ ?_ ?_ ?_ ?_ ?_ ?_ ?_ ?_ ?_ ?_ ?_ ?_ ?_ ?_ ?_ ?_ ?_ ?_ ?_ ?_ ?_ ?_
  · intros; exact ⟨by decide, by decide, Or.inl ⟨by decide, by decide, rfl⟩⟩
  · intros; exact ⟨by decide, by decide, Or.inl ⟨by decide, by decide, rfl⟩⟩
  · intros; exact ⟨by decide, by decide, Or.inl ⟨by decide, by decide, rfl⟩⟩
  · intros; exact ⟨by decide, by decide, Or.inl ⟨by decide, by decide, rfl⟩⟩
  · intros; exact ⟨by decide, by decide, Or.inl ⟨by decide, by decide, rfl⟩⟩
  · intros; exact ⟨by decide, by decide, Or.inr (Or.inr ⟨by decide, by decide, by decide, head_word (by decide) (by decide) (by decide) _⟩)⟩
  · intros; exact ⟨by decide, by decide, Or.inr (Or.inr ⟨by decide, by decide, by decide, head_word (by decide) (by decide) (by decide) _⟩)⟩
  · intros; exact ⟨by decide, by decide, Or.inr (Or.inr ⟨by decide, by decide, by decide, head_word (by decide) (by decide) (by decide) _⟩)⟩
  · intros; exact ⟨by decide, by decide, Or.inr (Or.inr ⟨by decide, by decide, by decide, head_word (by decide) (by decide) (by decide) _⟩)⟩
  · intros; exact ⟨by decide, by decide, Or.inr (Or.inr ⟨by decide, by decide, by decide, head_word (by decide) (by decide) (by decide) _⟩)⟩
  · intros; exact ⟨by decide, by decide, Or.inr (Or.inr ⟨by decide, by decide, by decide, head_word (by decide) (by decide) (by decide) _⟩)⟩
  · intro x hx
    simp only [List.mem_cons, List.not_mem_nil, or_false] at hx
    rcases hx with rfl | rfl | rfl | rfl | rfl | rfl <;> exact ⟨by decide, by decide, Or.inr (Or.inr ⟨by decide, by decide, by decide, rfl⟩)⟩
  · intros; exact ⟨by decide, by decide, Or.inr (Or.inr ⟨by decide, by decide, by decide, head_word (by decide) (by decide) (by decide) _⟩)⟩
  · intros; exact ⟨by decide, by decide, Or.inr (Or.inr ⟨by decide, by decide, by decide, head_word (by decide) (by decide) (by decide) _⟩)⟩
  · intros; exact ⟨by decide, by decide, Or.inr (Or.inr ⟨by decide, by decide, by decide, head_word (by decide) (by decide) (by decide) _⟩)⟩
  · intros; exact ⟨by decide, by decide, Or.inr (Or.inr ⟨by decide, by decide, by decide, head_word (by decide) (by decide) (by decide) _⟩)⟩
  · intros; exact ⟨by decide, by decide, Or.inr (Or.inr ⟨by decide, by decide, by decide, head_word (by decide) (by decide) (by decide) _⟩)⟩
  · intros; exact ⟨by decide, by decide, Or.inr (Or.inr ⟨by decide, by decide, by decide, head_word (by decide) (by decide) (by decide) _⟩)⟩
  · intros; exact ⟨by decide, by decide, Or.inr (Or.inr ⟨by decide, by decide, by decide, head_word (by decide) (by decide) (by decide) _⟩)⟩
  · intros; exact ⟨by decide, by decide, Or.inl ⟨by decide, by decide, rfl⟩⟩
  · intros; exact ⟨by decide, by decide, Or.inr (Or.inr ⟨by decide, by decide, by decide, head_bare (by decide) _⟩)⟩
  · intros; exact ⟨by decide, by decide, Or.inr (Or.inl ⟨by decide, rfl, by decide, rfl⟩)⟩
  · intros; exact ⟨by decide, by decide, Or.inr (Or.inr ⟨by decide, by decide, by decide, head_bare (by decide) _⟩)⟩
  · intros; exact ⟨by decide, by decide, Or.inr (Or.inr ⟨by decide, by decide, by decide, head_word (by decide) (by decide) (by decide) _⟩)⟩
  · intros; exact ⟨by decide, by decide, Or.inr (Or.inr ⟨by decide, by decide, by decide, head_word (by decide) (by decide) (by decide) _⟩)⟩
  · intros; exact ⟨by decide, by decide, Or.inr (Or.inr ⟨by decide, by decide, by decide, head_word (by decide) (by decide) (by decide) _⟩)⟩

end Go.Proofs.YtnocnkblhjifjaaGreatDoor
