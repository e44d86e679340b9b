/-
  Plain mathematics: how many tokens there may be, and how long they are.
-/
import Derived.Test.YtnocnkblhjifjaaPlain5
namespace Go.Proofs.Ytnocnkblhjifjaa
open Go.RowKit

theorem cutF_len (n : Nat) : ∀ (l : List UInt8) (k : Nat) (acc : List (List UInt8)), (cutF n l k acc).1.length ≤ acc.length + l.length := by
  induction n with
  | zero => intro l k acc; simp [cutF]
  | succ n ih =>
    intro l k acc
    simp only [cutF]
    split
    · simp
    · split
      · simp
      · rename_i h1 h2
        have := ih ((l.drop (gap false l)).drop (tokLen (l.drop (gap false l)))) (k + gap false l + tokLen (l.drop (gap false l))) (acc ++ [(l.drop (gap false l)).take (tokLen (l.drop (gap false l)))])
        have h3 := tokLen_le (l.drop (gap false l))
        simp only [List.length_append, List.length_drop, List.length_cons, List.length_nil] at this h3
        omega

theorem cutL_len (l : List UInt8) : (cutL l).1.length ≤ 4000 := by
  unfold cutL
  split
  · simp
  · have := cutF_len (l.length + 1) l 0 []
    simp at this; omega

theorem cutF_tok (n : Nat) : ∀ (l : List UInt8) (k : Nat) (acc : List (List UInt8)) (B : Nat), l.length ≤ B → (∀ t ∈ acc, t.length ≤ B) → ∀ t ∈ (cutF n l k acc).1, t.length ≤ B := by
  induction n with
  | zero => intro l k acc B _ h; simpa [cutF] using h
  | succ n ih =>
    intro l k acc B hl h
    simp only [cutF]
    split
    · exact h
    · split
      · simp
      · refine ih _ _ _ B (by simp; omega) ?_
        intro t ht
        rcases List.mem_append.1 ht with ht | ht
        · exact h t ht
        · simp at ht; subst ht; simp; omega

theorem cutL_tok (l : List UInt8) : ∀ t ∈ (cutL l).1, t.length ≤ 4000 := by
  unfold cutL
  split
  · simp
  · exact cutF_tok _ l 0 [] 4000 (by omega) (by simp)

end Go.Proofs.Ytnocnkblhjifjaa
