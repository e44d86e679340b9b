import Derived.Test.YtnocnkblhjifjaaGreatDoorMPHeap
import Derived.Test.YtnocnkblhjifjaaGreatDoorMRefSee
import Derived.WalkLawsBesides
/-
  The program's reader (package parse): peek, take, accept, expect, end, name by their contracts.
-/
namespace Go.Proofs.YtnocnkblhjifjaaGreatDoor
open Go.RowKit

/-- What the walk asks of the cells of a reader whose tokens are all read. -/
theorem Rq.over {rb : Nat} {w : World} (h : Rq rb [] w) : rb < w.heap.size ∧ (∃ tb o cap, w.cell? ⟨rb, 0, none⟩ = some (.slice (some ⟨tb, o, none⟩) 0 cap)) ∧ w.frozen? ⟨rb, 0, none⟩ = false := by
  have hl := h.lt
  obtain ⟨tb, o, cap, cs, hb, _⟩ := h.own
  exact ⟨hl, ⟨tb, o, cap, by simp [World.cell?, hb]⟩, by simp [World.frozen?, hb]⟩

theorem Rq.more {rb : Nat} {t : List UInt8} {ts : Toks} {w : World} (h : Rq rb (t :: ts) w) : rb < w.heap.size ∧ (∃ tb o cap, w.cell? ⟨rb, 0, none⟩ = some (.slice (some ⟨tb, o, none⟩) (ts.length + 1) cap) ∧ w.cell? ⟨tb, o, none⟩ = some (.string (bs t)) ∧ tb < w.heap.size ∧ ts.length + 1 ≤ cap ∧ cap ≤ 9223372036854775807 ∧
    ∀ o2, (cap = 1 ∨ o2 = o + 1) → Rq rb ts (w.setCell ⟨rb, 0, none⟩ (.slice (some ⟨tb, o2, none⟩) ts.length (cap - 1)))) ∧ w.frozen? ⟨rb, 0, none⟩ = false := by
  have hl := h.lt
  obtain ⟨tb, o, cap, cs, hb, ht, h1, h2, h3⟩ := h.own
  have hne : tb ≠ rb := by
    intro e; subst e
    rw [hb] at ht; simp at ht; exact absurd ht.2 (by decide)
  refine ⟨hl, ⟨tb, o, cap, by simp [World.cell?, hb], ?_, (Array.getElem?_eq_some_iff.1 ht).1, h1, h2, fun o2 ho => ?_⟩, by simp [World.frozen?, hb]⟩
  · have := h3 0 t rfl
    simp [World.cell?, ht]
    simpa [strV] using this
  · refine ⟨by have := h.len; rw [List.length_cons] at this; omega, fun x hx => h.toks x (List.mem_cons_of_mem _ hx), tb, o2, cap - 1, cs, ?_, ?_, by rw [List.length_cons] at h1; omega, by omega, ?_⟩
    · simp only [World.setCell, Array.getElem?_modify, if_pos, hb, Option.map_some, Option.isSome_none, Bool.false_eq_true, if_false]
      simp
    · rw [Below.heap_setCell _ _ _ _ hne]; exact ht
    · intro i x hi
      rcases ho with ho | rfl
      · exfalso
        have : ts = [] := List.length_eq_zero_iff.1 (by rw [List.length_cons] at h1; omega)
        subst this
        simp at hi
      · have := h3 (i + 1) x (by simpa using hi)
        rw [← this]; congr 1; omega

set_option maxHeartbeats 1000000 in
theorem peek_any {rb : Nat} {ts : Toks} {w : World} (h : Rq rb ts w) :
    Calls Tryz.prog 261 #[ptrV rb] w fun e w' => e = .returned (.string (bs (ts.headD []))) ∧ w' = w := by
  cases ts with
  | nil =>
    obtain ⟨hl, ⟨tb, o, cap, c0⟩, hf⟩ := h.over
    clear h
    unfold ptrV
    go_enter Tryz.func261, Tryz.ntmps261
    go_wp2
    go_ret
    exact ⟨rfl, rfl⟩
  | cons t r =>
    obtain ⟨hl, ⟨tb, o, cap, c0, c1, hl2, hc, _, _⟩, hf⟩ := h.more
    have hcap := h.len
    rw [List.length_cons] at hcap
    show Calls _ _ _ _ fun e w' => e = .returned (.string (bs t)) ∧ w' = w
    clear h
    unfold ptrV
    generalize bs t = tx at *
    generalize r.length = n at *
    have hd : ((n : Int) + 1 == 0) = false := by simp; omega
    have hd2 : ¬ ((n : Int) + 1 = 0) := by omega
    go_enter Tryz.func261, Tryz.ntmps261
    go_wp2
    go_ret
    exact ⟨rfl, rfl⟩

/-- The next token is taken, or it gives up. -/
def AnsT (rb : Nat) (ts : Toks) (w : World) (e : Ending) (w' : World) : Prop :=
  Kq rb w w' ∧ ((ts = [] ∧ e = gaveUp) ∨ ∃ t r, ts = t :: r ∧ e = .returned (.string (bs t)) ∧ Rq rb r w')

set_option maxHeartbeats 1000000 in
theorem take_any {rb : Nat} {ts : Toks} {w : World} (h : Rq rb ts w) : Calls Tryz.prog 140 #[ptrV rb] w (AnsT rb ts w) := by
  cases ts with
  | nil =>
    obtain ⟨hl, ⟨tb, o, cap, c0⟩, hf⟩ := h.over
    clear h
    unfold ptrV
    go_enter Tryz.func140, Tryz.ntmps140
    go_wp2
    exact ⟨rfl, Kq.refl _ _, Or.inl ⟨rfl, rfl⟩⟩
  | cons t r =>
    obtain ⟨hl, ⟨tb, o, cap, c0, c1, hl2, hc, hc2, hR⟩, hf⟩ := h.more
    have hcap := h.len
    rw [List.length_cons] at hcap
    have hfin : ∀ w', Kq rb w w' → Rq rb r w' → AnsT rb (t :: r) w (.returned (.string (bs t))) w' := fun w' h1 h2 => ⟨h1, Or.inr ⟨t, r, rfl, rfl, h2⟩⟩
    have HR := hide hR
    have HF := hide hfin
    clear h hR hfin
    unfold ptrV
    generalize AnsT rb (t :: r) w = Q at *
    generalize bs t = tx at *
    generalize hn : r.length = n at *
    have hd : ((n : Int) + 1 == 0) = false := by simp; omega
    have hd2 : ¬ ((n : Int) + 1 = 0) := by omega
    by_cases hc1 : cap = 1
    · subst hc1
      obtain rfl : n = 0 := by omega
      go_enter Tryz.func140, Tryz.ntmps140
      go_wp2
      exact HF.out _ ((Kq.refl _ _).setR _ _) (HR.out _ (Or.inl trivial))
    · go_enter Tryz.func140, Tryz.ntmps140
      go_wp2
      exact HF.out _ ((Kq.refl _ _).setR _ _) (HR.out _ (Or.inr rfl))

/-- Whether the next token is this one: then it is taken. -/
def AnsA (rb : Nat) (x : List UInt8) (ts : Toks) (w : World) (e : Ending) (w' : World) : Prop :=
  Kq rb w w' ∧ ((ts.headD [] ≠ x ∧ e = .returned (.bool false) ∧ Rq rb ts w') ∨ (ts.headD [] = x ∧ e = .returned (.bool true) ∧ Rq rb ts.tail w'))

theorem bs_eqb {a b : List UInt8} (h : a ≠ b) : ((bs a).toList == (bs b).toList) = false := by rw [bs_eq]; simpa using h

set_option maxHeartbeats 1000000 in
theorem accept_any {rb : Nat} {ts : Toks} {w : World} (x : List UInt8) (hx : x ≠ []) (h : Rq rb ts w) : Calls Tryz.prog 203 #[ptrV rb, .string (bs x)] w (AnsA rb x ts w) := by
  have hp := peek_any h
  have ht := take_any h
  by_cases he : ts.headD [] = x
  · have hfin : ∀ e w', AnsT rb ts w e w' → AnsA rb x ts w (.returned (.bool true)) w' ∧ ∃ v, e = .returned (.string v) := by
      rintro e w' ⟨h1, h2⟩
      rcases h2 with ⟨rfl, _⟩ | ⟨t, r, rfl, rfl, h3⟩
      · exact absurd he.symm hx
      · exact ⟨⟨h1, Or.inr ⟨he, rfl, h3⟩⟩, _, rfl⟩
    rw [he] at hp
    have HP := hide hp
    have HT := hide ht
    have HF := hide hfin
    have hb : ((bs x).toList == (bs x).toList) = true := by simp
    have hb2 : ((bs x).toList != (bs x).toList) = false := by simp
    clear hp ht hfin h he hx
    generalize AnsA rb x ts w = Q at *
    generalize bs x = bx at *
    go_enter Tryz.func203, Tryz.ntmps203
    go_wp2_with fail
    refine (HP.out).mono ?_; rintro e w1 ⟨rfl, rfl⟩
    go_wp2_with fail
    refine (HT.out).mono ?_; intro e w1 ha
    obtain ⟨hq, v, rfl⟩ := HF.out _ _ ha
    have HQ := hide hq
    clear ha hq
    go_wp2
    exact HQ.out
  · have hq : AnsA rb x ts w (.returned (.bool false)) w := ⟨Kq.refl _ _, Or.inl ⟨he, rfl, h⟩⟩
    have hb := bs_eqb he
    have hb2 : ((bs (ts.headD [])).toList != (bs x).toList) = true := by unfold bne; rw [hb]; rfl
    have HP := hide hp
    have HQ := hide hq
    clear hp ht hq h he hx
    generalize AnsA rb x ts w = Q at *
    generalize bs x = bx at *
    generalize bs (ts.headD []) = bh at *
    go_enter Tryz.func203, Tryz.ntmps203
    go_wp2_with fail
    refine (HP.out).mono ?_; rintro e w1 ⟨rfl, rfl⟩
    go_wp2_with fail
    exact HQ.out

/-- This token must come. -/
def AnsE (rb : Nat) (x : List UInt8) (ts : Toks) (w : World) (e : Ending) (w' : World) : Prop :=
  Kq rb w w' ∧ ((ts.headD [] ≠ x ∧ e = gaveUp) ∨ (ts.headD [] = x ∧ e = .returned (.tuple #[]) ∧ Rq rb ts.tail w'))

set_option maxHeartbeats 1000000 in
theorem expect_any {rb : Nat} {ts : Toks} {w : World} (x : List UInt8) (hx : x ≠ []) (h : Rq rb ts w) : Calls Tryz.prog 201 #[ptrV rb, .string (bs x)] w (AnsE rb x ts w) := by
  have ha := accept_any x hx h
  have h1 : ∀ w', Kq rb w w' → ts.headD [] ≠ x → AnsE rb x ts w gaveUp w' := fun w' k e => ⟨k, Or.inl ⟨e, rfl⟩⟩
  have h2 : ∀ w', Kq rb w w' → ts.headD [] = x → Rq rb ts.tail w' → AnsE rb x ts w (.returned (.tuple #[])) w' := fun w' k e r => ⟨k, Or.inr ⟨e, rfl, r⟩⟩
  have HA := hide ha
  have H1 := hide h1
  have H2 := hide h2
  clear ha h h1 h2 hx
  unfold gaveUp noForm at H1
  generalize AnsE rb x ts w = Q at *
  go_enter Tryz.func201, Tryz.ntmps201
  go_wp2_with fail
  refine (HA.out).mono ?_; rintro e w1 ⟨hk, ⟨he, rfl, _⟩ | ⟨he, rfl, hr⟩⟩
  · go_wp2
    exact ⟨rfl, H1.out _ hk he⟩
  · have HR := hide hr
    clear hr
    go_wp2
    go_end0
    exact H2.out _ hk he HR.out

/-- All must have been read. -/
def AnsEnd (ts : Toks) (w : World) (e : Ending) (w' : World) : Prop := w' = w ∧ ((ts ≠ [] ∧ e = gaveUp) ∨ (ts = [] ∧ e = .returned (.tuple #[])))

set_option maxHeartbeats 1000000 in
theorem end_any {rb : Nat} {ts : Toks} {w : World} (h : Rq rb ts w) : Calls Tryz.prog 80 #[ptrV rb] w (AnsEnd ts w) := by
  cases ts with
  | nil =>
    obtain ⟨hl, ⟨tb, o, cap, c0⟩, hf⟩ := h.over
    clear h
    unfold ptrV
    go_enter Tryz.func80, Tryz.ntmps80
    go_wp2
    go_end0
    exact ⟨rfl, Or.inr ⟨rfl, rfl⟩⟩
  | cons t r =>
    obtain ⟨hl, ⟨tb, o, cap, c0, c1, hl2, hc, hc2, hR⟩, hf⟩ := h.more
    have hcap := h.len
    rw [List.length_cons] at hcap
    clear h hR
    unfold ptrV
    generalize r.length = n at *
    have hd : decide ((0 : Int) < (n : Int) + 1) = true := decide_eq_true (by omega)
    have hd2 : (0 : Int) < (n : Int) + 1 := by omega
    go_enter Tryz.func80, Tryz.ntmps80
    go_wp2
    exact ⟨rfl, rfl, Or.inl ⟨by simp, rfl⟩⟩

/-- A name must come. -/
def AnsM (rb : Nat) (ts : Toks) (w : World) (e : Ending) (w' : World) : Prop :=
  Kq rb w w' ∧ ((G.kind 110 ts = none ∧ e = gaveUp) ∨ ∃ x r, G.kind 110 ts = some (x, r) ∧ e = .returned (.string (bs x)) ∧ Rq rb r w')

/-- The token at the head is a token, or the empty text. -/
theorem Rq.head {rb : Nat} {ts : Toks} {w : World} (h : Rq rb ts w) : Tok (ts.headD []) := by
  cases ts with
  | nil => exact Tok.nil
  | cons t r => exact (h.toks t (List.mem_cons_self ..)).1

theorem bs_size (l : List UInt8) : (bs l).size = l.length := by simp [bs, ByteArray.size]

theorem Tok.size {t : List UInt8} (h : Tok t) : (bs t).size ≤ maxLen := by rw [bs_size]; have := h.2; unfold maxLen; omega

/-- The four questions, at a token. -/
theorem IsName_tok {t : List UInt8} (h : Tok t) (w : World) : Calls Tryz.prog 260 #[.string (bs t)] w fun e w' => e = .returned (.bool (tokKind t == 110)) ∧ w' = w := by
  have := IsName_any (bs t) w h.size
  rw [bs_data, name_kind h] at this
  exact this
theorem IsConstructor_tok {t : List UInt8} (h : Tok t) (w : World) : Calls Tryz.prog 263 #[.string (bs t)] w fun e w' => e = .returned (.bool (tokKind t == 99)) ∧ w' = w := by
  have := IsConstructor_any (bs t) w h.size
  rw [bs_data, con_kind t] at this
  exact this
theorem IsNumber_tok {t : List UInt8} (h : Tok t) (w : World) : Calls Tryz.prog 443 #[.string (bs t)] w fun e w' => e = .returned (.bool (tokKind t == 100)) ∧ w' = w := by
  have := IsNumber_any (bs t) w h.size
  rw [bs_data, num_kind h] at this
  exact this
theorem IsLetter_tok {t : List UInt8} (h : Tok t) (w : World) : Calls Tryz.prog 311 #[.string (bs t)] w fun e w' => e = .returned (.bool (tokKind t == 108)) ∧ w' = w := by
  have := IsLetter_any (bs t) w h.size
  rw [bs_data, letter_kind h] at this
  exact this

/-- A token of a kind is there to be taken. -/
theorem kind_cons {k : Int} {ts : Toks} (h0 : k ≠ 0) (h : (G.kindOf ts == k) = true) : ∃ t r, ts = t :: r := by
  cases ts with
  | nil =>
    have : G.kindOf [] = k := by simpa using h
    exact absurd this.symm h0
  | cons t r => exact ⟨t, r, rfl⟩

set_option maxHeartbeats 1000000 in
theorem name_any {rb : Nat} {ts : Toks} {w : World} (h : Rq rb ts w) : Calls Tryz.prog 198 #[ptrV rb] w (AnsM rb ts w) := by
  have hp := peek_any h
  have hi := IsName_tok h.head w
  have ht := take_any h
  have HP := hide hp
  have HI := hide hi
  have HT := hide ht
  cases hk : (tokKind (ts.headD []) == 110)
  · have hq : AnsM rb ts w gaveUp w := ⟨Kq.refl _ _, Or.inl ⟨by unfold G.kind G.kindOf; rw [hk]; rfl, rfl⟩⟩
    have HQ := hide hq
    rw [hk] at HI
    clear hp hi ht hq h hk HT
    unfold gaveUp noForm at HQ
    generalize AnsM rb ts w = Q at *
    generalize bs (ts.headD []) = bx at *
    go_enter Tryz.func198, Tryz.ntmps198
    go_wp2_with fail
    refine (HP.out).mono ?_; rintro e w1 ⟨rfl, rfl⟩
    go_wp2_with fail
    refine (HI.out).mono ?_; rintro e w1 ⟨rfl, rfl⟩
    go_wp2
    exact ⟨rfl, HQ.out⟩
  · obtain ⟨t, r, rfl⟩ := kind_cons (ts := ts) (k := 110) (by decide) hk
    have hq : ∀ w', Kq rb w w' → Rq rb r w' → AnsM rb (t :: r) w (.returned (.string (bs t))) w' := fun w' k1 k2 => ⟨k1, Or.inr ⟨t, r, by unfold G.kind G.kindOf; rw [hk]; rfl, rfl, k2⟩⟩
    have HQ := hide hq
    rw [hk] at HI
    clear hp hi ht hq h hk
    generalize AnsM rb (t :: r) w = Q at *
    rw [show (t :: r).headD [] = t from rfl] at HP HI
    go_enter Tryz.func198, Tryz.ntmps198
    go_wp2_with fail
    refine (HP.out).mono ?_; rintro e w1 ⟨rfl, rfl⟩
    go_wp2_with fail
    refine (HI.out).mono ?_; rintro e w1 ⟨rfl, rfl⟩
    go_wp2_with fail
    refine (HT.out).mono ?_; rintro e w1 ⟨hk, ⟨he, _⟩ | ⟨t2, r2, he, rfl, hr⟩⟩
    · cases he
    · injection he with he1 he2
      subst he1
      subst he2
      have HR := hide hr
      clear hr
      go_wp2
      exact HQ.out _ hk HR.out

end Go.Proofs.YtnocnkblhjifjaaGreatDoor
