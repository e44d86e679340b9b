/-
  kilnref.next at a sign, or at what is no token; then at every place.
-/
import Derived.Test.YtnocnkblhjifjaaRefLetter
namespace Go.Proofs.Ytnocnkblhjifjaa
open Go.RowKit

theorem sign_at_last (s : ByteArray) (i : Nat) (hi : i < s.size) (hl : ¬ i + 1 < s.size) : signLen (s.data.toList.drop i) = if s[i] ∈ signs then 1 else 0 := by
  rw [drop_cons s i hi, List.drop_of_length_le (show s.data.toList.length ≤ i + 1 by have : s.data.toList.length = s.size := rfl; omega)]
  simp [signLen, Lib.hasPrefix, List.isPrefixOf]

theorem sign_at_more (s : ByteArray) (i : Nat) (hi : i < s.size) (hl : i + 1 < s.size) :
    signLen (s.data.toList.drop i) = if ((s.extract i (i + 2)).toList == [58, 61]) = true ∨ ((s.extract i (i + 2)).toList == [45, 62]) = true then 2 else if s[i] ∈ signs then 1 else 0 := by
  have e : (s.extract i (i + 2)).toList = [s[i], s[i + 1]] := by
    rw [ByteArray.toList_eq, Lib.extract_data, Nat.add_sub_cancel_left, drop_cons s i hi, drop_cons s (i + 1) hl]; rfl
  rw [e, drop_cons s i hi, drop_cons s (i + 1) hl]
  generalize s[i] = a
  generalize s[i + 1] = b
  have h1 : ∀ x y : UInt8, Lib.hasPrefix (a :: b :: s.data.toList.drop (i + 1 + 1)) [x, y] = ([a, b] == [x, y]) := by
    intro x y
    simp only [Lib.hasPrefix, List.isPrefixOf, Bool.and_true, Bool.beq_comm (a := x), Bool.beq_comm (a := y)]
    rw [Bool.eq_iff_iff]; simp
  simp only [signLen, h1]

set_option maxHeartbeats 1000000 in
theorem next_sign (s : ByteArray) (i : Nat) (w : World) (hs : s.size ≤ maxLen) (hi : i < s.size) (h1 : smallB s[i].toNat = false) (h2 : greatB s[i].toNat = false) (h3 : digitB s[i].toNat = false) (h4 : ((s[i].toNat : Int) == 39) = false) : NextSaid s i w := by
  unfold NextSaid
  have hs' : s.size ≤ 9223372036854775807 := hs
  have hc1 := fun wx => in_at_smallK s[i] wx
  rw [h1] at hc1
  have hc2 := fun wx => in_at_greatK s[i] wx
  rw [h2] at hc2
  have hc3 := fun wx => in_at_digitK s[i] wx
  rw [h3] at hc3
  have hc4 := fun wx => in_at_signK s[i] wx
  have hc0 : ¬ s[i] = 39 := u8_ne (n := 39) (by omega) h4
  have hT : tokLen (s.data.toList.drop i) = signLen (s.data.toList.drop i) := by rw [drop_cons s i hi]; simp only [tokLen, h1, h2, h3, cond_false]; rw [if_neg hc0]
  have hK : tokKind (s.data.toList.drop i) = if signLen (s.data.toList.drop i) = 0 then 0 else 119 := by rw [drop_cons s i hi]; simp only [tokKind, h1, h2, h3, cond_false]; rw [if_neg hc0]
  have hx1 := bs_extract s i (i + 1)
  rw [Nat.add_sub_cancel_left] at hx1
  have hx2 := bs_extract s i (i + 2)
  rw [Nat.add_sub_cancel_left] at hx2
  by_cases hl : i + 1 < s.size
  · have hd : decide ((i : Int) + 1 < s.size) = true := by simp; omega
    have hg := sign_at_more s i hi hl
    cases hb1 : ((s.extract i (i + 2)).toList == [58, 61])
    · cases hb2 : ((s.extract i (i + 2)).toList == [45, 62])
      · rw [hb1, hb2] at hg
        simp only [Bool.false_eq_true, or_self, if_false] at hg
        by_cases hm : s[i] ∈ signs
        · rw [if_pos hm] at hg
          rw [hT, hK, hg, ← hx1]
          simp only [hm, decide_true] at hc4
          clear hx1 hx2 hT hK hg hm
          have HC1 := hide hc1
          have HC2 := hide hc2
          have HC3 := hide hc3
          have HC4 := hide hc4
          clear hc1 hc2 hc3 hc4 hc0
          go_enter Try.func29, Try.ntmps29
          go_wp2_with fail
          refine (HC1.out _).mono ?_; rintro e w' ⟨rfl, hw'⟩; subst w'
          go_wp2_with fail
          refine (HC2.out _).mono ?_; rintro e w' ⟨rfl, hw'⟩; subst w'
          go_wp2_with fail
          refine (HC3.out _).mono ?_; rintro e w' ⟨rfl, hw'⟩; subst w'
          go_wp2_with fail
          refine (HC4.out _).mono ?_; rintro e w' ⟨rfl, hw'⟩; subst w'
          go_wp2_with fail
          exact bodyPost_ret (v := .agg #[.int .u8 119, .string (s.extract i (i + 1))]) (by simp [results, Try.results29, go_sem]) rfl ⟨rfl, (Below.refl _ _).alloc (Nat.le_refl _) _⟩
        · rw [if_neg hm] at hg
          rw [hT, hK, hg]
          simp only [hm, decide_false] at hc4
          clear hx1 hx2 hT hK hg hm
          have HC1 := hide hc1
          have HC2 := hide hc2
          have HC3 := hide hc3
          have HC4 := hide hc4
          clear hc1 hc2 hc3 hc4 hc0
          go_enter Try.func29, Try.ntmps29
          go_wp2_with fail
          refine (HC1.out _).mono ?_; rintro e w' ⟨rfl, hw'⟩; subst w'
          go_wp2_with fail
          refine (HC2.out _).mono ?_; rintro e w' ⟨rfl, hw'⟩; subst w'
          go_wp2_with fail
          refine (HC3.out _).mono ?_; rintro e w' ⟨rfl, hw'⟩; subst w'
          go_wp2_with fail
          refine (HC4.out _).mono ?_; rintro e w' ⟨rfl, hw'⟩; subst w'
          go_wp2_with fail
          exact bodyPost_ret (v := .agg #[.int .u8 0, .string ⟨#[]⟩]) (by simp [results, Try.results29, go_sem]) rfl ⟨rfl, (Below.refl _ _).alloc (Nat.le_refl _) _⟩
      · rw [hb2] at hg
        simp only [or_true, if_true] at hg
        rw [hT, hK, hg, ← hx2]
        clear hx1 hx2 hT hK hg
        have HC1 := hide hc1
        have HC2 := hide hc2
        have HC3 := hide hc3
        have HC4 := hide hc4
        clear hc1 hc2 hc3 hc4 hc0
        go_enter Try.func29, Try.ntmps29
        go_wp2_with fail
        refine (HC1.out _).mono ?_; rintro e w' ⟨rfl, hw'⟩; subst w'
        go_wp2_with fail
        refine (HC2.out _).mono ?_; rintro e w' ⟨rfl, hw'⟩; subst w'
        go_wp2_with fail
        refine (HC3.out _).mono ?_; rintro e w' ⟨rfl, hw'⟩; subst w'
        go_wp2_with fail
        exact bodyPost_ret (v := .agg #[.int .u8 119, .string (s.extract i (i + 2))]) (by simp [results, Try.results29, go_sem]) rfl ⟨rfl, (Below.refl _ _).alloc (Nat.le_refl _) _⟩
    · rw [hb1] at hg
      simp only [true_or, if_true] at hg
      rw [hT, hK, hg, ← hx2]
      clear hx1 hx2 hT hK hg
      have HC1 := hide hc1
      have HC2 := hide hc2
      have HC3 := hide hc3
      have HC4 := hide hc4
      clear hc1 hc2 hc3 hc4 hc0
      go_enter Try.func29, Try.ntmps29
      go_wp2_with fail
      refine (HC1.out _).mono ?_; rintro e w' ⟨rfl, hw'⟩; subst w'
      go_wp2_with fail
      refine (HC2.out _).mono ?_; rintro e w' ⟨rfl, hw'⟩; subst w'
      go_wp2_with fail
      refine (HC3.out _).mono ?_; rintro e w' ⟨rfl, hw'⟩; subst w'
      go_wp2_with fail
      exact bodyPost_ret (v := .agg #[.int .u8 119, .string (s.extract i (i + 2))]) (by simp [results, Try.results29, go_sem]) rfl ⟨rfl, (Below.refl _ _).alloc (Nat.le_refl _) _⟩
  · have hd : decide ((i : Int) + 1 < s.size) = false := by simp; omega
    have hg := sign_at_last s i hi hl
    by_cases hm : s[i] ∈ signs
    · rw [if_pos hm] at hg
      rw [hT, hK, hg, ← hx1]
      simp only [hm, decide_true] at hc4
      clear hx1 hx2 hT hK hg hm
      have HC1 := hide hc1
      have HC2 := hide hc2
      have HC3 := hide hc3
      have HC4 := hide hc4
      clear hc1 hc2 hc3 hc4 hc0
      go_enter Try.func29, Try.ntmps29
      go_wp2_with fail
      refine (HC1.out _).mono ?_; rintro e w' ⟨rfl, hw'⟩; subst w'
      go_wp2_with fail
      refine (HC2.out _).mono ?_; rintro e w' ⟨rfl, hw'⟩; subst w'
      go_wp2_with fail
      refine (HC3.out _).mono ?_; rintro e w' ⟨rfl, hw'⟩; subst w'
      go_wp2_with fail
      refine (HC4.out _).mono ?_; rintro e w' ⟨rfl, hw'⟩; subst w'
      go_wp2_with fail
      exact bodyPost_ret (v := .agg #[.int .u8 119, .string (s.extract i (i + 1))]) (by simp [results, Try.results29, go_sem]) rfl ⟨rfl, (Below.refl _ _).alloc (Nat.le_refl _) _⟩
    · rw [if_neg hm] at hg
      rw [hT, hK, hg]
      simp only [hm, decide_false] at hc4
      clear hx1 hx2 hT hK hg hm
      have HC1 := hide hc1
      have HC2 := hide hc2
      have HC3 := hide hc3
      have HC4 := hide hc4
      clear hc1 hc2 hc3 hc4 hc0
      go_enter Try.func29, Try.ntmps29
      go_wp2_with fail
      refine (HC1.out _).mono ?_; rintro e w' ⟨rfl, hw'⟩; subst w'
      go_wp2_with fail
      refine (HC2.out _).mono ?_; rintro e w' ⟨rfl, hw'⟩; subst w'
      go_wp2_with fail
      refine (HC3.out _).mono ?_; rintro e w' ⟨rfl, hw'⟩; subst w'
      go_wp2_with fail
      refine (HC4.out _).mono ?_; rintro e w' ⟨rfl, hw'⟩; subst w'
      go_wp2_with fail
      exact bodyPost_ret (v := .agg #[.int .u8 0, .string ⟨#[]⟩]) (by simp [results, Try.results29, go_sem]) rfl ⟨rfl, (Below.refl _ _).alloc (Nat.le_refl _) _⟩

theorem next_any (s : ByteArray) (i : Nat) (w : World) (hs : s.size ≤ maxLen) (hi : i < s.size) : NextSaid s i w := by
  cases h1 : smallB s[i].toNat
  · cases h2 : greatB s[i].toNat
    · cases h3 : digitB s[i].toNat
      · cases h4 : ((s[i].toNat : Int) == 39)
        · exact next_sign s i w hs hi h1 h2 h3 h4
        · exact next_letter s i w hs hi h1 h2 h3 h4
      · exact next_digit s i w hs hi h1 h2 h3
    · exact next_great s i w hs hi h1 h2
  · exact next_small s i w hs hi h1

end Go.Proofs.Ytnocnkblhjifjaa
