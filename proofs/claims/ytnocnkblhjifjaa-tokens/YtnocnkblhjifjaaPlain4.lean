/-
  Plain mathematics: a token cut out, with something behind it that does not go on with it, is that token again.
-/
import Derived.Test.YtnocnkblhjifjaaPlain3
namespace Go.Proofs.Ytnocnkblhjifjaa
open Go.RowKit

/-- The kind of the token at the head, by the reference's letters; 0: none. -/
def tokKind (l : List UInt8) : Int :=
  match l with
  | [] => 0
  | c :: _ => bif smallB c.toNat then (bif wordL (l.take (nameLen l)) then 119 else 110) else bif greatB c.toNat then 99 else bif digitB c.toNat then (if numLen l = 0 then 0 else 100) else if c = 39 then (if letterLen l = 0 then 0 else 108) else if signLen l = 0 then 0 else 119

/-- What ends every token: the end, or a byte that says nothing. -/
def Stops (r : List UInt8) : Prop := r = [] ∨ ∃ c t, r = c :: t ∧ (blankB c.toNat = true ∨ c = 35)

theorem Stops.con {r : List UInt8} (h : Stops r) : r = [] ∨ ∃ c t, r = c :: t ∧ conB c.toNat = false := by
  rcases h with h | ⟨c, t, rfl, h⟩
  · exact Or.inl h
  · refine Or.inr ⟨c, t, rfl, ?_⟩
    rcases h with h | rfl
    · revert h
      simp only [blankB, conB, nameB, smallB, digitB, greatB, Bool.or_eq_true, beq_iff_eq, Bool.or_eq_false_iff, decide_eq_false_iff_not, beq_eq_false_iff_ne]
      omega
    · decide

theorem con_imp {p : Int → Bool} (hp : ∀ c, conB c = false → p c = false) {r : List UInt8} (h : Stops r) : r = [] ∨ ∃ c t, r = c :: t ∧ p c.toNat = false := by
  rcases h.con with h | ⟨c, t, e, h⟩
  · exact Or.inl h
  · exact Or.inr ⟨c, t, e, hp _ h⟩

theorem cnt_stop {p : Int → Bool} {r : List UInt8} (hr : r = [] ∨ ∃ c t, r = c :: t ∧ p c.toNat = false) (l : List UInt8) : cnt p (l.take (cnt p l) ++ r) = cnt p l := by
  induction l with
  | nil =>
    rcases hr with rfl | ⟨c, t, rfl, h⟩
    · rfl
    · simp [cnt, h]
  | cons c t ih =>
    cases h : p c.toNat
    · have h0 : cnt p (c :: t) = 0 := by simp [cnt, h]
      rw [h0]
      rcases hr with rfl | ⟨d, t', rfl, h'⟩
      · rfl
      · simp [cnt, h']
    · have h0 : cnt p (c :: t) = cnt p t + 1 := by simp [cnt, h]
      rw [h0, List.take_succ_cons, List.cons_append]
      simp [cnt, h, ih]

theorem nameB_con (c : Int) (h : conB c = false) : nameB c = false := by
  simp only [conB, Bool.or_eq_false_iff] at h; exact h.1

theorem digitB_con (c : Int) (h : conB c = false) : digitB c = false := by
  have := nameB_con c h
  simp only [nameB, Bool.or_eq_false_iff] at this; exact this.1.2

theorem small_name (c : Int) (h : smallB c = true) : nameB c = true := by simp [nameB, h]

theorem nameLen_stop {r : List UInt8} (hr : Stops r) (l : List UInt8) : nameLen (l.take (nameLen l) ++ r) = nameLen l := by
  cases l with
  | nil =>
    rcases hr.con with rfl | ⟨c, t, rfl, h⟩
    · rfl
    · have h2 : smallB c.toNat = false := by
        have := nameB_con _ h
        simp only [nameB, Bool.or_eq_false_iff] at this; exact this.1.1
      simp [nameLen, h2]
  | cons c t =>
    cases h : smallB c.toNat
    · have h0 : nameLen (c :: t) = 0 := by simp [nameLen, h]
      rw [h0]
      rcases hr.con with rfl | ⟨d, t', rfl, h'⟩
      · rfl
      · have h2 : smallB d.toNat = false := by
          have := nameB_con _ h'
          simp only [nameB, Bool.or_eq_false_iff] at this; exact this.1.1
        simp [nameLen, h2]
    · have h0 : nameLen (c :: t) = cnt nameB (c :: t) := by simp [nameLen, h]
      have h1 : cnt nameB (c :: t) = cnt nameB t + 1 := by simp [cnt, small_name _ h]
      have h2 := cnt_stop (con_imp nameB_con hr) (c :: t)
      rw [h0]
      rw [h1, List.take_succ_cons, List.cons_append] at h2 ⊢
      rw [← h2]
      simp [nameLen, h]

theorem take_take_app (l r : List UInt8) (n : Nat) (hn : n ≤ l.length) : (l.take n ++ r).take n = l.take n := by
  rw [List.take_append_of_le_length (by simp; omega), List.take_take, Nat.min_self]

theorem tok_stop {r : List UInt8} (hr : Stops r) (l : List UInt8) (ht : tokLen l ≠ 0) : tokLen (l.take (tokLen l) ++ r) = tokLen l ∧ tokKind (l.take (tokLen l) ++ r) = tokKind l := by
  cases l with
  | nil => simp [tokLen] at ht
  | cons c t =>
    cases h1 : smallB c.toNat
    · cases h2 : greatB c.toNat
      · cases h3 : digitB c.toNat
        · by_cases h4 : c = 39
          · have e : tokLen (c :: t) = letterLen (c :: t) := by simp only [tokLen, h1, h2, h3, cond_false]; rw [if_pos h4]
            have e2 : letterLen (c :: t) = bif nameLen t == 0 || wordL (t.take (nameLen t)) then 0 else 1 + nameLen t := rfl
            have e3 : (nameLen t == 0 || wordL (t.take (nameLen t))) = false := by
              cases hb : (nameLen t == 0 || wordL (t.take (nameLen t)))
              · rfl
              · rw [hb] at e2; rw [e, e2] at ht; exact absurd rfl ht
            rw [e3] at e2
            simp only [cond_false] at e2
            have e4 : letterLen (c :: (t.take (nameLen t) ++ r)) = 1 + nameLen t := by
              have := nameLen_stop hr t
              simp only [letterLen, List.tail_cons, this, take_take_app t r _ (nameLen_le t), e3, cond_false]
            have e5 : (c :: t).take (tokLen (c :: t)) ++ r = c :: (t.take (nameLen t) ++ r) := by
              rw [e, e2, Nat.add_comm, List.take_succ_cons, List.cons_append]
            rw [e5]
            constructor
            · rw [e, e2]
              simp only [tokLen, h1, h2, h3, cond_false]; rw [if_pos h4, e4]
            · simp only [tokKind, h1, h2, h3, cond_false]; rw [if_pos h4, if_pos h4, e4, e2]
          · have e : tokLen (c :: t) = signLen (c :: t) := by simp only [tokLen, h1, h2, h3, cond_false]; rw [if_neg h4]
            have e6 : ∀ x, tokLen (c :: x) = signLen (c :: x) := fun x => by simp only [tokLen, h1, h2, h3, cond_false]; rw [if_neg h4]
            have e7 : ∀ x, tokKind (c :: x) = if signLen (c :: x) = 0 then 0 else 119 := fun x => by simp only [tokKind, h1, h2, h3, cond_false]; rw [if_neg h4]
            have key : ∀ x, (c :: t).take (signLen (c :: t)) ++ r = c :: x → signLen (c :: x) = signLen (c :: t) := by
              intro x hx
              by_cases hp : Lib.hasPrefix (c :: t) [58, 61] = true ∨ Lib.hasPrefix (c :: t) [45, 62] = true
              · have s2 : signLen (c :: t) = 2 := by simp only [signLen]; rw [if_pos hp]
                rw [s2] at hx ⊢
                cases t with
                | nil => simp [Lib.hasPrefix, List.isPrefixOf] at hp
                | cons d t' =>
                  simp only [List.take_succ_cons, List.take_zero, List.cons_append, List.nil_append, List.cons.injEq, true_and] at hx
                  subst hx
                  have hp' : Lib.hasPrefix (c :: d :: r) [58, 61] = true ∨ Lib.hasPrefix (c :: d :: r) [45, 62] = true := by
                    simpa [Lib.hasPrefix, List.isPrefixOf] using hp
                  simp only [signLen]; rw [if_pos hp']
              · have s1 : signLen (c :: t) = if c ∈ signs then 1 else 0 := by simp only [signLen]; rw [if_neg hp]
                have hc : c ∈ signs := by
                  by_cases hc : c ∈ signs
                  · exact hc
                  · rw [if_neg hc] at s1; rw [e, s1] at ht; exact absurd rfl ht
                rw [s1, if_pos hc] at hx ⊢
                simp only [List.take_succ_cons, List.take_zero, List.cons_append, List.nil_append, List.cons.injEq, true_and] at hx
                subst hx
                have hp' : ¬ (Lib.hasPrefix (c :: r) [58, 61] = true ∨ Lib.hasPrefix (c :: r) [45, 62] = true) := by
                  rcases hr with rfl | ⟨d, t', rfl, hd⟩
                  · simp [Lib.hasPrefix, List.isPrefixOf]
                  · intro hp'
                    have : d = 61 ∨ d = 62 := by
                      simp [Lib.hasPrefix, List.isPrefixOf] at hp'
                      rcases hp' with h | h
                      · exact Or.inl h.2.symm
                      · exact Or.inr h.2.symm
                    rcases this with rfl | rfl <;> revert hd <;> decide
                simp only [signLen]; rw [if_neg hp', if_pos hc]
            have hne : signLen (c :: t) ≠ 0 := by rw [← e]; exact ht
            obtain ⟨m, hm⟩ : ∃ m, signLen (c :: t) = m + 1 := ⟨signLen (c :: t) - 1, by omega⟩
            have e5 : (c :: t).take (signLen (c :: t)) ++ r = c :: (t.take m ++ r) := by rw [hm, List.take_succ_cons, List.cons_append]
            rw [e, e5, e6, e7, e7, key _ e5]
            exact ⟨rfl, rfl⟩
        · have e : tokLen (c :: t) = numLen (c :: t) := by simp only [tokLen, h1, h2, h3, cond_false, cond_true]
          have hn : ¬ 18 < cnt digitB (c :: t) := by
            intro h; apply ht; rw [e]; unfold numLen; rw [if_pos h]
          have e2 : numLen (c :: t) = cnt digitB (c :: t) := by unfold numLen; rw [if_neg hn]
          have e3 : cnt digitB (c :: t) = cnt digitB t + 1 := by simp [cnt, h3]
          have h := cnt_stop (con_imp digitB_con hr) (c :: t)
          rw [e, e2]
          rw [e3, List.take_succ_cons, List.cons_append] at h ⊢
          have e4 : numLen (c :: (t.take (cnt digitB t) ++ r)) = cnt digitB t + 1 := by
            unfold numLen; rw [h, if_neg (by omega)]
          constructor
          · simp only [tokLen, h1, h2, h3, cond_false, cond_true]; exact e4
          · simp only [tokKind, h1, h2, h3, cond_false, cond_true]; rw [e4, e2, e3]
      · have e : tokLen (c :: t) = cnt conB (c :: t) := by simp only [tokLen, h1, h2, cond_false, cond_true]
        have e3 : cnt conB (c :: t) = cnt conB t + 1 := by simp [cnt, conB, h2]
        have h := cnt_stop hr.con (c :: t)
        rw [e]
        rw [e3, List.take_succ_cons, List.cons_append] at h ⊢
        constructor
        · simp only [tokLen, h1, h2, cond_false, cond_true]; exact h
        · simp only [tokKind, h1, h2, cond_false, cond_true]
    · have e : tokLen (c :: t) = nameLen (c :: t) := by simp only [tokLen, h1, cond_true]
      have h := nameLen_stop hr (c :: t)
      have hle := nameLen_le (c :: t)
      have e3 : nameLen (c :: t) = cnt nameB t + 1 := by simp [nameLen, h1, cnt, small_name _ h1]
      have h5 := take_take_app (c :: t) r (nameLen (c :: t)) hle
      rw [e]
      have e4 : (c :: t).take (nameLen (c :: t)) ++ r = c :: (t.take (cnt nameB t) ++ r) := by rw [e3, List.take_succ_cons, List.cons_append]
      rw [e4] at h h5 ⊢
      constructor
      · simp only [tokLen, h1, cond_true]; exact h
      · simp only [tokKind, h1, cond_true]; rw [h, h5]

end Go.Proofs.Ytnocnkblhjifjaa
