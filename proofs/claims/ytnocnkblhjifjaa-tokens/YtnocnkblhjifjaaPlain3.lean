/-
  Plain mathematics: the steps of cutting a text; strings as lists of bytes.
-/
import Derived.Test.YtnocnkblhjifjaaPlain2
namespace Go.Proofs.Ytnocnkblhjifjaa
open Go.RowKit

def bs (l : List UInt8) : ByteArray := ⟨l.toArray⟩
def strV (l : List UInt8) : Value := .string (bs l)

theorem bs_data (l : List UInt8) : (bs l).data.toList = l := by simp [bs]

theorem bs_extract (s : ByteArray) (a b : Nat) : s.extract a b = bs ((s.data.toList.drop a).take (b - a)) := by
  have := Lib.extract_data s a b
  rw [← this]
  rfl

theorem cut_end (n : Nat) (l : List UInt8) (k : Nat) (acc : List (List UInt8)) (h : l = []) : cutF n l k acc = (acc, 0, 0) := by
  subst h
  cases n <;> simp [cutF, gap]

theorem cut_bad (n : Nat) (l : List UInt8) (k : Nat) (acc : List (List UInt8)) (hn : 0 < n) (hl : l ≠ []) (hg : gap false l = 0) (ht : tokLen l = 0) : cutF n l k acc = ([], k, 2) := by
  obtain ⟨m, rfl⟩ : ∃ m, n = m + 1 := ⟨n - 1, by omega⟩
  have : l.isEmpty = false := by cases l <;> simp_all
  simp [cutF, hg, this, ht]

theorem cut_tok (n : Nat) (l : List UInt8) (k : Nat) (acc : List (List UInt8)) (hn : 0 < n) (hl : l ≠ []) (hg : gap false l = 0) (ht : tokLen l ≠ 0) :
    cutF n l k acc = cutF (n - 1) (l.drop (tokLen l)) (k + tokLen l) (acc ++ [l.take (tokLen l)]) := by
  obtain ⟨m, rfl⟩ : ∃ m, n = m + 1 := ⟨n - 1, by omega⟩
  have : l.isEmpty = false := by cases l <;> simp_all
  simp [cutF, hg, this, ht]

theorem cut_gap (n : Nat) (l : List UInt8) (k : Nat) (acc : List (List UInt8)) (hn : 0 < n) :
    cutF n l k acc = cutF n (l.drop (gap false l)) (k + gap false l) acc := by
  obtain ⟨m, rfl⟩ : ∃ m, n = m + 1 := ⟨n - 1, by omega⟩
  have h := gap_gap l false
  simp only [cutF, h, List.drop_zero, Nat.add_zero]

theorem ownsRow_below {w w' : World} {base : Nat} {e : TypeId} {size : Nat} {v : Value} {n : Nat} {xs : List Value} (h : w.ownsRow base e size v n xs) (hb : Below w.heap.size w w') : w'.ownsRow base e size v n xs := by
  obtain ⟨h1, h2⟩ := h
  refine ⟨h1, ?_⟩
  rcases h2 with h2 | ⟨g, cap, cur, hv, hg, hh, r⟩
  · exact Or.inl h2
  · refine Or.inr ⟨g, cap, cur, hv, hg, ?_, r⟩
    have hlt : g < w.heap.size := by
      by_cases h : g < w.heap.size
      · exact h
      · rw [Array.getElem?_eq_none (by omega)] at hh; cases hh
    rw [hb.block g hlt]; exact hh

/-- What the program holds at the head of its loop: at place k, with these tokens, the rest will give R. -/
def AtHead (l : List UInt8) (R : List (List UInt8) × Nat × Nat) (k : Nat) (toks : List (List UInt8)) : Prop :=
  ∃ n, l.length < n + k ∧ cutF n (l.drop k) k toks = R ∧ gap false (l.drop k) = 0

theorem atHead_start (l : List UInt8) : AtHead l (cutF (l.length + 1) l 0 []) (gap false l) [] := by
  refine ⟨l.length + 1, by omega, ?_, gap_gap l false⟩
  have := cut_gap (l.length + 1) l 0 [] (by omega)
  rw [Nat.zero_add] at this
  exact this.symm

theorem atHead_end {l : List UInt8} {R : List (List UInt8) × Nat × Nat} {k : Nat} {toks : List (List UInt8)} (h : AtHead l R k toks) (hk : l.length ≤ k) : R = (toks, 0, 0) := by
  obtain ⟨n, _, h2, _⟩ := h
  rw [← h2]
  exact cut_end _ _ _ _ (List.drop_of_length_le hk)

theorem atHead_bad {l : List UInt8} {R : List (List UInt8) × Nat × Nat} {k : Nat} {toks : List (List UInt8)} (h : AtHead l R k toks) (hk : k < l.length) (ht : tokLen (l.drop k) = 0) : R = ([], k, 2) := by
  obtain ⟨n, h1, h2, h3⟩ := h
  rw [← h2]
  refine cut_bad _ _ _ _ (by omega) (fun e => ?_) h3 ht
  have := congrArg List.length e
  simp at this; omega

theorem atHead_tok {l : List UInt8} {R : List (List UInt8) × Nat × Nat} {k : Nat} {toks : List (List UInt8)} (h : AtHead l R k toks) (hk : k < l.length) (ht : tokLen (l.drop k) ≠ 0) :
    AtHead l R (k + tokLen (l.drop k) + gap false (l.drop (k + tokLen (l.drop k)))) (toks ++ [(l.drop k).take (tokLen (l.drop k))]) := by
  obtain ⟨n, h1, h2, h3⟩ := h
  refine ⟨n - 1, by omega, ?_, ?_⟩
  · rw [← h2, cut_tok n _ _ _ (by omega) (fun e => by have := congrArg List.length e; simp at this; omega) h3 ht, List.drop_drop, cut_gap (n - 1) (l.drop (k + tokLen (l.drop k))) (k + tokLen (l.drop k)) _ (by omega), List.drop_drop]
  · have := gap_gap (l.drop (k + tokLen (l.drop k))) false
    rw [List.drop_drop] at this; exact this

theorem hide {p : Prop} (h : p) : Hid p := h

theorem bcell {W w1 : World} (hb : Below W.heap.size W w1) : (∀ b o, b < W.heap.size → w1.cell? ⟨b, o, none⟩ = W.cell? ⟨b, o, none⟩) ∧ (∀ b o, b < W.heap.size → w1.frozen? ⟨b, o, none⟩ = W.frozen? ⟨b, o, none⟩) :=
  ⟨fun b o h => hb.cell (p := ⟨b, o, none⟩) h, fun b o h => hb.frozen (p := ⟨b, o, none⟩) h⟩

end Go.Proofs.Ytnocnkblhjifjaa
