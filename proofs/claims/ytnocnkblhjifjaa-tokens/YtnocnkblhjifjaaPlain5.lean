/-
  Plain mathematics: the reference's way through a text: gap byte by gap byte.
-/
import Derived.Test.YtnocnkblhjifjaaPlain4
namespace Go.Proofs.Ytnocnkblhjifjaa
open Go.RowKit

/-- What the reference holds at the head of its loop. -/
def AtRef (l : List UInt8) (R : List (List UInt8) × Nat × Nat) (k : Nat) (toks : List (List UInt8)) : Prop :=
  ∃ n, l.length < n + k ∧ cutF n (l.drop k) k toks = R

theorem atRef_start (l : List UInt8) : AtRef l (cutF (l.length + 1) l 0 []) 0 [] := ⟨l.length + 1, by omega, by simp⟩

theorem atRef_end {l : List UInt8} {R : List (List UInt8) × Nat × Nat} {k : Nat} {toks : List (List UInt8)} (h : AtRef l R k toks) (hk : l.length ≤ k) : R = (toks, 0, 0) := by
  obtain ⟨n, _, h2⟩ := h
  rw [← h2]
  exact cut_end _ _ _ _ (List.drop_of_length_le hk)

theorem atRef_gap {l : List UInt8} {R : List (List UInt8) × Nat × Nat} {k j : Nat} {toks : List (List UInt8)} (h : AtRef l R k toks) (hkj : k ≤ j) (hg : gap false (l.drop k) = (j - k) + gap false (l.drop j)) (hk : k < l.length) : AtRef l R j toks := by
  obtain ⟨n, h1, h2⟩ := h
  refine ⟨n, by omega, ?_⟩
  rw [cut_gap n (l.drop k) k toks (by omega)] at h2
  by_cases h0 : n = 0
  · omega
  · rw [cut_gap n (l.drop j) j toks (by omega), ← h2, List.drop_drop, List.drop_drop]
    have e : k + gap false (l.drop k) = j + gap false (l.drop j) := by omega
    rw [e]

theorem atRef_head {l : List UInt8} {R : List (List UInt8) × Nat × Nat} {k : Nat} {toks : List (List UInt8)} (h : AtRef l R k toks) (hg : gap false (l.drop k) = 0) : AtHead l R k toks := by
  obtain ⟨n, h1, h2⟩ := h
  exact ⟨n, h1, h2, hg⟩

theorem atRef_tok {l : List UInt8} {R : List (List UInt8) × Nat × Nat} {k : Nat} {toks : List (List UInt8)} (h : AtRef l R k toks) (hg : gap false (l.drop k) = 0) (hk : k < l.length) (ht : tokLen (l.drop k) ≠ 0) :
    AtRef l R (k + tokLen (l.drop k)) (toks ++ [(l.drop k).take (tokLen (l.drop k))]) := by
  obtain ⟨n, h1, h2⟩ := h
  refine ⟨n - 1, by omega, ?_⟩
  rw [← h2, cut_tok n _ _ _ (by omega) (fun e => by have := congrArg List.length e; simp at this; omega) hg ht, List.drop_drop]

theorem kind_zero (l : List UInt8) : tokKind l = 0 ↔ tokLen l = 0 := by
  cases l with
  | nil => simp [tokKind, tokLen]
  | cons c t =>
    cases h1 : smallB c.toNat
    · cases h2 : greatB c.toNat
      · cases h3 : digitB c.toNat
        · by_cases h4 : c = 39
          · simp only [tokKind, tokLen, h1, h2, h3, cond_false]; rw [if_pos h4, if_pos h4]
            split <;> simp_all
          · simp only [tokKind, tokLen, h1, h2, h3, cond_false]; rw [if_neg h4, if_neg h4]
            split <;> simp_all
        · simp only [tokKind, tokLen, h1, h2, h3, cond_false, cond_true]
          split <;> simp_all
      · have : cnt conB (c :: t) = cnt conB t + 1 := by simp [cnt, conB, h2]
        simp only [tokKind, tokLen, h1, h2, cond_false, cond_true, this]; omega
    · have : nameLen (c :: t) = cnt nameB t + 1 := by simp [nameLen, h1, cnt, small_name _ h1]
      simp only [tokKind, tokLen, h1, cond_true, this]
      cases wordL ((c :: t).take (cnt nameB t + 1)) <;> simp

/-- A token's two cells, as the reference keeps it. -/
def tkV (t : List UInt8) : List Value := [.int .u8 (tokKind t), .string (bs t)]

theorem kind_self (l : List UInt8) (ht : tokLen l ≠ 0) : tokKind (l.take (tokLen l)) = tokKind l := by
  have := (tok_stop (r := []) (Or.inl rfl) l ht).2
  rwa [List.append_nil] at this

theorem flat_len (toks : List (List UInt8)) : (toks.flatMap tkV).length = toks.length * 2 := by
  induction toks with
  | nil => rfl
  | cons t r ih => rw [List.flatMap_cons, List.length_append, ih]; simp [tkV]; omega

theorem ownsRow_le {w : World} {base base' size n : Nat} {e : TypeId} {v : Value} {xs : List Value} (h : w.ownsRow base e size v n xs) (hb : base' ≤ base) : w.ownsRow base' e size v n xs := by
  obtain ⟨h1, h2⟩ := h
  refine ⟨h1, ?_⟩
  rcases h2 with h2 | ⟨g, cap, cur, hv, hg, r⟩
  · exact Or.inl h2
  · exact Or.inr ⟨g, cap, cur, hv, Nat.le_trans hb hg, r⟩

theorem ownsRow_forms {w : World} {base size n : Nat} {e : TypeId} {v : Value} {xs : List Value} (h : w.ownsRow base e size v n xs) : (v = .slice none 0 0 ∧ n = 0) ∨ ∃ g cap, v = .slice (some ⟨g, 0, none⟩) n cap := by
  rcases h.2 with h2 | ⟨g, cap, cur, hv, hg, r⟩
  · exact Or.inl h2
  · exact Or.inr ⟨g, cap, hv⟩

end Go.Proofs.Ytnocnkblhjifjaa
