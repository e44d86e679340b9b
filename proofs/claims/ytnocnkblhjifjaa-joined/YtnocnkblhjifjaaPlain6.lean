/-
  Plain mathematics: tokens that are joined anew are the same tokens; what an error of cutting looks like.
-/
import Derived.Test.YtnocnkblhjifjaaPlain5
namespace Go.Proofs.Ytnocnkblhjifjaa
open Go.RowKit

/-- A text that is one token, whatever stands behind it that stops a token. -/
def GoodTok (t : List UInt8) : Prop := t ≠ [] ∧ ∀ r, Stops r → tokLen (t ++ r) = t.length ∧ gap false (t ++ r) = 0

theorem gap_head (c : UInt8) (t x : List UInt8) (h : gap false (c :: t) = 0) : gap false (c :: x) = 0 := by
  cases hb : blankB c.toNat
  · by_cases hc : c = 35
    · subst hc
      simp only [gap, hb, cond_false, if_true] at h
      omega
    · simp [gap, hb, hc]
  · simp only [gap, hb, cond_true] at h
    omega

theorem good_of (l : List UInt8) (ht : tokLen l ≠ 0) (hg : gap false l = 0) : GoodTok (l.take (tokLen l)) := by
  have hle := tokLen_le l
  have hlen : (l.take (tokLen l)).length = tokLen l := by simp; omega
  refine ⟨fun e => ?_, fun r hr => ⟨?_, ?_⟩⟩
  · rw [e] at hlen; simp at hlen; omega
  · rw [hlen]; exact (tok_stop hr l ht).1
  · cases l with
    | nil => simp [tokLen] at ht
    | cons c t =>
      obtain ⟨m, hm⟩ : ∃ m, tokLen (c :: t) = m + 1 := ⟨tokLen (c :: t) - 1, by omega⟩
      rw [hm, List.take_succ_cons, List.cons_append]
      exact gap_head c t _ hg

theorem cutF_good (n : Nat) : ∀ (l : List UInt8) (k : Nat) (acc toks : List (List UInt8)), cutF n l k acc = (toks, 0, 0) → ∀ t ∈ toks, t ∈ acc ∨ (GoodTok t ∧ t.length ≤ l.length) := by
  induction n with
  | zero =>
    intro l k acc toks h t ht
    simp only [cutF, Prod.mk.injEq, and_true] at h
    subst h; exact Or.inl ht
  | succ n ih =>
    intro l k acc toks h t ht
    simp only [cutF] at h
    split at h
    · simp only [Prod.mk.injEq, and_true] at h
      subst h; exact Or.inl ht
    · split at h
      · simp at h
      · rename_i h1 h2
        rcases ih _ _ _ _ h t ht with h3 | h3
        · rcases List.mem_append.1 h3 with h4 | h4
          · exact Or.inl h4
          · rw [List.mem_singleton] at h4
            subst h4
            refine Or.inr ⟨good_of _ h2 (gap_gap l false), ?_⟩
            simp; omega
        · refine Or.inr ⟨h3.1, Nat.le_trans h3.2 ?_⟩
          simp

theorem cutL_good (l : List UInt8) (toks : List (List UInt8)) (h : cutL l = (toks, 0, 0)) : ∀ t ∈ toks, GoodTok t ∧ t.length ≤ 4000 := by
  unfold cutL at h
  split at h
  · simp at h
  · intro t ht
    rcases cutF_good _ _ _ _ _ h t ht with h1 | h1
    · cases h1
    · exact ⟨h1.1, by omega⟩

/-- What may stand between. -/
def Between (b : List UInt8) : Prop := b = [32] ∨ b = [10] ∨ b = [35, 120, 10] ∨ b = [9, 32]

theorem between_gap {b : List UInt8} (hb : Between b) (x : List UInt8) : gap false (b ++ x) = b.length + gap false x := by
  have e1 : blankB 32 = true := by decide
  have e2 : blankB 10 = true := by decide
  have e3 : blankB 35 = false := by decide
  have e4 : blankB 9 = true := by decide
  rcases hb with rfl | rfl | rfl | rfl
  · simp [gap, e1]
  · simp [gap, e2]
  · simp [gap, e3]; omega
  · simp [gap, e1, e4]; omega

theorem between_stops {b : List UInt8} (hb : Between b) (x : List UInt8) : Stops (b ++ x) := by
  rcases hb with rfl | rfl | rfl | rfl
  · exact Or.inr ⟨32, _, rfl, Or.inl (by decide)⟩
  · exact Or.inr ⟨10, _, rfl, Or.inl (by decide)⟩
  · exact Or.inr ⟨35, _, rfl, Or.inr rfl⟩
  · exact Or.inr ⟨9, _, rfl, Or.inl (by decide)⟩

def joinL (b : List UInt8) (toks : List (List UInt8)) : List UInt8 := toks.flatMap (fun t => t ++ b)

theorem cut_join {b : List UInt8} (hb : Between b) (toks : List (List UInt8)) : ∀ (n k : Nat) (acc : List (List UInt8)), toks.length < n → (∀ t ∈ toks, GoodTok t) → cutF n (joinL b toks) k acc = (acc ++ toks, 0, 0) := by
  induction toks with
  | nil =>
    intro n k acc _ _
    rw [cut_end _ _ _ _ (show joinL b [] = [] from rfl), List.append_nil]
  | cons t r ih =>
    intro n k acc hn hg
    have hlen : (t :: r).length = r.length + 1 := rfl
    obtain ⟨hne, ht⟩ := hg t (List.mem_cons_self ..)
    have e : joinL b (t :: r) = t ++ (b ++ joinL b r) := by simp [joinL]
    have hs := ht (b ++ joinL b r) (between_stops hb _)
    have hpos : t.length ≠ 0 := fun h => hne (List.length_eq_zero_iff.1 h)
    rw [e, cut_tok n _ k acc (by omega) (by simp [hne]) hs.2 (by rw [hs.1]; exact hpos), hs.1, List.drop_left, List.take_left,
      cut_gap (n - 1) (b ++ joinL b r) _ _ (by omega), between_gap hb, ← List.drop_drop, List.drop_left]
    have h3 := cut_gap (n - 1) (joinL b r) (k + t.length + b.length) (acc ++ [t]) (by omega)
    rw [← Nat.add_assoc, ← h3, ih (n - 1) _ _ (by omega) (fun x hx => hg x (List.mem_cons_of_mem _ hx)), List.append_assoc]
    rfl

theorem join_len {b : List UInt8} (hb : Between b) (toks : List (List UInt8)) : toks.length ≤ (joinL b toks).length := by
  have hb1 : 1 ≤ b.length := by rcases hb with rfl | rfl | rfl | rfl <;> decide
  induction toks with
  | nil => simp
  | cons t r ih =>
    have e : joinL b (t :: r) = t ++ (b ++ joinL b r) := by simp [joinL]
    rw [e]; simp; omega

theorem cutL_join {b : List UInt8} (hb : Between b) (toks : List (List UInt8)) (hg : ∀ t ∈ toks, GoodTok t) (hl : ¬ 4000 < (joinL b toks).length) : cutL (joinL b toks) = (toks, 0, 0) := by
  unfold cutL
  rw [if_neg hl, cut_join hb toks _ 0 [] (by have := join_len hb toks; omega) hg]
  rfl

theorem cutF_err (n : Nat) : ∀ (l : List UInt8) (k : Nat) (acc : List (List UInt8)), ((cutF n l k acc).2.2 = 0 ∧ (cutF n l k acc).2.1 = 0) ∨ ((cutF n l k acc).1 = [] ∧ (cutF n l k acc).2.2 = 2 ∧ (cutF n l k acc).2.1 < k + l.length) := by
  induction n with
  | zero => intro l k acc; exact Or.inl ⟨rfl, rfl⟩
  | succ n ih =>
    intro l k acc
    simp only [cutF]
    split
    · exact Or.inl ⟨rfl, rfl⟩
    · rename_i h0
      have hlt : gap false l < l.length := by
        by_cases h : gap false l < l.length
        · exact h
        · rw [List.drop_of_length_le (by omega)] at h0; exact absurd rfl h0
      split
      · exact Or.inr ⟨rfl, rfl, by show k + gap false l < _; omega⟩
      · have h3 := tokLen_le (l.drop (gap false l))
        rw [List.length_drop] at h3
        rcases ih ((l.drop (gap false l)).drop (tokLen (l.drop (gap false l)))) (k + gap false l + tokLen (l.drop (gap false l))) (acc ++ [(l.drop (gap false l)).take (tokLen (l.drop (gap false l)))]) with h | ⟨h4, h5, h6⟩
        · exact Or.inl h
        · refine Or.inr ⟨h4, h5, ?_⟩
          rw [List.length_drop, List.length_drop] at h6
          omega

theorem cutL_err (l : List UInt8) : ((cutL l).2.2 = 0 ∧ (cutL l).2.1 = 0) ∨ ((cutL l).1 = [] ∧ ((cutL l).2.2 = 1 ∧ (cutL l).2.1 = 0 ∨ (cutL l).2.2 = 2 ∧ (cutL l).2.1 < l.length)) := by
  unfold cutL
  split
  · exact Or.inr ⟨rfl, Or.inl ⟨rfl, rfl⟩⟩
  · rcases cutF_err (l.length + 1) l 0 [] with h | ⟨h1, h2, h3⟩
    · exact Or.inl h
    · exact Or.inr ⟨h1, Or.inr ⟨h2, by omega⟩⟩

end Go.Proofs.Ytnocnkblhjifjaa
