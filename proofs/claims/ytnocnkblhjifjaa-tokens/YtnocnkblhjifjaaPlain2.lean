/-
  Plain mathematics: gaps between tokens, and how a text is cut, said of lists of bytes.
-/
import Derived.Test.YtnocnkblhjifjaaPlain
namespace Go.Proofs.Ytnocnkblhjifjaa

theorem gap_true (l : List UInt8) : gap true l = cnt no10B l + gap false (l.drop (cnt no10B l)) := by
  induction l with
  | nil => simp [gap, cnt]
  | cons c r ih =>
    by_cases h : c = 10
    · subst h
      have e1 : no10B 10 = false := by decide
      have e2 : blankB 10 = true := by decide
      simp [gap, cnt, e1, e2]
    · have h2 : (c != 10) = true := by simpa using h
      simp only [gap, if_neg h, cnt, no10_iff, h2, cond_true, List.drop_succ_cons]
      omega

theorem gap_le (b : Bool) (l : List UInt8) : gap b l ≤ l.length := by
  induction l generalizing b with
  | nil => simp [gap]
  | cons c r ih =>
    have h1 := ih true
    have h2 := ih false
    cases b
    · simp only [gap, List.length_cons]
      cases blankB c.toNat
      · simp only [cond_false]; split <;> omega
      · simp only [cond_true]; omega
    · simp only [gap, List.length_cons]
      split <;> omega

theorem gap_end (l : List UInt8) (k : Nat) (hk : l.length ≤ k) : gap false (l.drop k) = 0 := by
  rw [List.drop_of_length_le hk]; rfl

theorem gap_blank (l : List UInt8) (k : Nat) (hk : k < l.length) (h : blankB (l[k]).toNat = true) : gap false (l.drop k) = 1 + gap false (l.drop (k + 1)) := by
  rw [List.drop_eq_getElem_cons hk]; simp [gap, h]

theorem gap_other (l : List UInt8) (k : Nat) (hk : k < l.length) (h : blankB (l[k]).toNat = false) (h' : l[k] ≠ 35) : gap false (l.drop k) = 0 := by
  rw [List.drop_eq_getElem_cons hk]; simp [gap, h, h']

theorem gap_remark (l : List UInt8) (k : Nat) (hk : k < l.length) (h : l[k] = 35) :
    gap false (l.drop k) = cnt no10B (l.drop k) + gap false (l.drop (k + cnt no10B (l.drop k))) ∧ 1 ≤ cnt no10B (l.drop k) := by
  have e1 : no10B 35 = true := by decide
  have e2 : blankB 35 = false := by decide
  have e3 : l.drop k = 35 :: l.drop (k + 1) := by rw [List.drop_eq_getElem_cons hk, h]
  have e4 : cnt no10B (l.drop k) = cnt no10B (l.drop (k + 1)) + 1 := by rw [e3]; simp [cnt, e1]
  have e5 : gap false (l.drop k) = 1 + gap true (l.drop (k + 1)) := by rw [e3]; simp [gap, e2]
  have e6 := gap_true (l.drop (k + 1))
  rw [List.drop_drop] at e6
  refine ⟨?_, by omega⟩
  rw [e5, e6, e4]
  have e7 : k + 1 + cnt no10B (l.drop (k + 1)) = k + (cnt no10B (l.drop (k + 1)) + 1) := by omega
  rw [e7]
  omega

/-- Behind a gap no gap begins. -/
theorem gap_gap (l : List UInt8) (b : Bool) : gap false (l.drop (gap b l)) = 0 := by
  induction l generalizing b with
  | nil => simp [gap]
  | cons c r ih =>
    cases b
    · cases h : blankB c.toNat
      · by_cases h2 : c = 35
        · have e2 : blankB (35 : UInt8).toNat = false := by decide
          have := ih true
          subst h2
          simp only [gap, e2, cond_false, if_true]
          rw [Nat.add_comm, List.drop_succ_cons]; exact this
        · simp [gap, h, h2]
      · have := ih false
        simp only [gap, h, cond_true]
        rw [Nat.add_comm, List.drop_succ_cons]; exact this
    · by_cases h2 : c = 10
      · have := ih false
        simp only [gap, h2, if_true]
        rw [Nat.add_comm, List.drop_succ_cons]; exact this
      · have := ih true
        simp only [gap, if_neg h2]
        rw [Nat.add_comm, List.drop_succ_cons]; exact this

theorem tokLen_le (l : List UInt8) : tokLen l ≤ l.length := by
  match l with
  | [] => simp [tokLen]
  | c :: r =>
    have h1 := nameLen_le (c :: r)
    have h2 := cnt_le conB (c :: r)
    have h3 := cnt_le digitB (c :: r)
    have h4 := nameLen_le r
    simp only [tokLen]
    cases smallB c.toNat
    · cases greatB c.toNat
      · cases digitB c.toNat
        · simp only [cond_false]
          split
          · simp only [letterLen, List.tail_cons]
            cases (nameLen r == 0 || wordL (List.take (nameLen r) r))
            · simp only [cond_false, List.length_cons]; omega
            · simp
          · simp only [signLen]
            split
            · rename_i h
              rcases h with h | h
              all_goals
                simp only [Lib.hasPrefix] at h
                have := List.IsPrefix.length_le (List.isPrefixOf_iff_prefix.1 h)
                simpa using this
            · split <;> simp
        · simp only [cond_false, cond_true, numLen]; split <;> omega
      · simpa using h2
    · simpa using h1

/-- A text's tokens: what is cut, the place, the error's number; with fuel. -/
def cutF : Nat → List UInt8 → Nat → List (List UInt8) → List (List UInt8) × Nat × Nat
  | 0, _, _, acc => (acc, 0, 0)
  | n + 1, l, at_, acc =>
    if (l.drop (gap false l)).isEmpty then (acc, 0, 0)
    else if tokLen (l.drop (gap false l)) = 0 then ([], at_ + gap false l, 2)
    else cutF n ((l.drop (gap false l)).drop (tokLen (l.drop (gap false l)))) (at_ + gap false l + tokLen (l.drop (gap false l))) (acc ++ [(l.drop (gap false l)).take (tokLen (l.drop (gap false l)))])

/-- P3. -/
def cutL (l : List UInt8) : List (List UInt8) × Nat × Nat :=
  if 4000 < l.length then ([], 0, 1) else cutF (l.length + 1) l 0 []

end Go.Proofs.Ytnocnkblhjifjaa
