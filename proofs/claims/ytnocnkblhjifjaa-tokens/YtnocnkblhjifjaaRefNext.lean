/-
  kilnref.next by its contract: the kind and the text of the token at a place; kind 0 and the empty text where there is none.
-/
import Derived.Test.YtnocnkblhjifjaaRefKinds
import Derived.Test.YtnocnkblhjifjaaPlain4
namespace Go.Proofs.Ytnocnkblhjifjaa
open Go.RowKit


theorem drop_cons (s : ByteArray) (i : Nat) (hi : i < s.size) : s.data.toList.drop i = s[i] :: s.data.toList.drop (i + 1) := List.drop_eq_getElem_cons (show i < s.data.toList.length from hi)

def NextSaid (s : ByteArray) (i : Nat) (w : World) : Prop :=
  Calls Try.prog 29 #[.string s, .int .i64 i] w fun e w' => e = .returned (.agg #[.int .u8 (tokKind (s.data.toList.drop i)), .string (bs ((s.data.toList.drop i).take (tokLen (s.data.toList.drop i))))]) ∧ Below w.heap.size w w'

set_option maxHeartbeats 1000000 in
theorem next_small (s : ByteArray) (i : Nat) (w : World) (hs : s.size ≤ maxLen) (hi : i < s.size) (h1 : smallB s[i].toNat = true) : NextSaid s i w := by
  unfold NextSaid
  have hs' : s.size ≤ 9223372036854775807 := hs
  have hc1 := fun wx => in_at_smallK s[i] wx
  rw [h1] at hc1
  have hc2 := fun wx => span_at_nameK s i wx hs (by omega)
  have hn : nameLen (s.data.toList.drop i) = cnt nameB (s.data.toList.drop i) := by rw [drop_cons s i hi]; simp [nameLen, h1]
  have hT : tokLen (s.data.toList.drop i) = cnt nameB (s.data.toList.drop i) := by rw [← hn]; rw [drop_cons s i hi]; simp [tokLen, h1]
  have hK : tokKind (s.data.toList.drop i) = bif wordL ((s.data.toList.drop i).take (cnt nameB (s.data.toList.drop i))) then 119 else 110 := by rw [← hn]; rw [drop_cons s i hi]; simp [tokKind, h1]
  have hle := cnt_le nameB (s.data.toList.drop i)
  rw [List.length_drop, show s.data.toList.length = s.size from rfl] at hle
  have hx := bs_extract s i (i + cnt nameB (s.data.toList.drop i))
  rw [Nat.add_sub_cancel_left] at hx
  have hc3 := fun wx => word_any (s.extract i (i + cnt nameB (s.data.toList.drop i))) wx
  rw [hT, hK, ← hx]
  rw [show (s.extract i (i + cnt nameB (s.data.toList.drop i))).data.toList = _ from by rw [hx, bs_data]] at hc3
  clear hx hn hT hK
  generalize wordL ((s.data.toList.drop i).take (cnt nameB (s.data.toList.drop i))) = b at *
  generalize cnt nameB (s.data.toList.drop i) = n at *
  have HC1 := hide hc1
  have HC2 := hide hc2
  have HC3 := hide hc3
  clear hc1 hc2 hc3
  cases b
  all_goals
    go_enter Try.func29, Try.ntmps29
    go_wp2_with fail
    refine (HC1.out _).mono ?_; rintro e w' ⟨rfl, hw'⟩; subst w'
    go_wp2_with fail
    refine (HC2.out _).mono ?_; rintro e w' ⟨rfl, hw'⟩; subst w'
    go_wp2_with fail
    refine (HC3.out _).mono ?_; rintro e w1 ⟨rfl, hb1⟩
    obtain ⟨hc, hf⟩ := bcell hb1
    have hz : w.heap.size < w1.heap.size := by have := hb1.size; simp at this; omega
    go_wp2_with fail
    first
      | exact bodyPost_ret (v := .agg #[.int .u8 110, .string (s.extract i (i + n))]) (by simp [results, Try.results29, go_sem, hc]) rfl ⟨rfl, ((((Below.refl _ _).alloc (Nat.le_refl _) _).trans (hb1.mono (by simp))).setCell (by simp) _).setCell (by simp) _⟩
      | exact bodyPost_ret (v := .agg #[.int .u8 119, .string (s.extract i (i + n))]) (by simp [results, Try.results29, go_sem, hc]) rfl ⟨rfl, ((((Below.refl _ _).alloc (Nat.le_refl _) _).trans (hb1.mono (by simp))).setCell (by simp) _).setCell (by simp) _⟩

set_option maxHeartbeats 1000000 in
theorem next_great (s : ByteArray) (i : Nat) (w : World) (hs : s.size ≤ maxLen) (hi : i < s.size) (h1 : smallB s[i].toNat = false) (h2 : greatB s[i].toNat = true) : NextSaid s i w := by
  unfold NextSaid
  have hs' : s.size ≤ 9223372036854775807 := hs
  have hc1 := fun wx => in_at_smallK s[i] wx
  rw [h1] at hc1
  have hc2 := fun wx => in_at_greatK s[i] wx
  rw [h2] at hc2
  have hc3 := fun wx => span_at_conK s i wx hs (by omega)
  have hT : tokLen (s.data.toList.drop i) = cnt conB (s.data.toList.drop i) := by rw [drop_cons s i hi]; simp [tokLen, h1, h2]
  have hK : tokKind (s.data.toList.drop i) = 99 := by rw [drop_cons s i hi]; simp [tokKind, h1, h2]
  have hle := cnt_le conB (s.data.toList.drop i)
  rw [List.length_drop, show s.data.toList.length = s.size from rfl] at hle
  have hx := bs_extract s i (i + cnt conB (s.data.toList.drop i))
  rw [Nat.add_sub_cancel_left] at hx
  rw [hT, hK, ← hx]
  clear hx hT hK
  generalize cnt conB (s.data.toList.drop i) = n at *
  have HC1 := hide hc1
  have HC2 := hide hc2
  have HC3 := hide hc3
  clear hc1 hc2 hc3
  go_enter Try.func29, Try.ntmps29
  go_wp2_with fail
  refine (HC1.out _).mono ?_; rintro e w' ⟨rfl, hw'⟩; subst w'
  go_wp2_with fail
  refine (HC2.out _).mono ?_; rintro e w' ⟨rfl, hw'⟩; subst w'
  go_wp2_with fail
  refine (HC3.out _).mono ?_; rintro e w' ⟨rfl, hw'⟩; subst w'
  go_wp2_with fail
  exact bodyPost_ret (v := .agg #[.int .u8 99, .string (s.extract i (i + n))]) (by simp [results, Try.results29, go_sem]) rfl ⟨rfl, (Below.refl _ _).alloc (Nat.le_refl _) _⟩

set_option maxHeartbeats 1000000 in
theorem next_digit (s : ByteArray) (i : Nat) (w : World) (hs : s.size ≤ maxLen) (hi : i < s.size) (h1 : smallB s[i].toNat = false) (h2 : greatB s[i].toNat = false) (h3 : digitB s[i].toNat = true) : NextSaid s i w := by
  unfold NextSaid
  have hs' : s.size ≤ 9223372036854775807 := hs
  have hc1 := fun wx => in_at_smallK s[i] wx
  rw [h1] at hc1
  have hc2 := fun wx => in_at_greatK s[i] wx
  rw [h2] at hc2
  have hc3 := fun wx => in_at_digitK s[i] wx
  rw [h3] at hc3
  have hc4 := fun wx => span_at_digitK s i wx hs (by omega)
  have hT : tokLen (s.data.toList.drop i) = if 18 < cnt digitB (s.data.toList.drop i) then 0 else cnt digitB (s.data.toList.drop i) := by
    rw [drop_cons s i hi]; simp [tokLen, h1, h2, h3, numLen]
  have hpos : 0 < cnt digitB (s.data.toList.drop i) := by rw [drop_cons s i hi]; simp [cnt, h3]
  have hK : tokKind (s.data.toList.drop i) = if 18 < cnt digitB (s.data.toList.drop i) then 0 else 100 := by
    have : tokKind (s.data.toList.drop i) = if numLen (s.data.toList.drop i) = 0 then 0 else 100 := by rw [drop_cons s i hi]; simp [tokKind, h1, h2, h3]
    rw [this]; unfold numLen
    split
    · simp
    · rw [if_neg (by omega)]
  have hle := cnt_le digitB (s.data.toList.drop i)
  rw [List.length_drop, show s.data.toList.length = s.size from rfl] at hle
  have hx := bs_extract s i (i + cnt digitB (s.data.toList.drop i))
  rw [Nat.add_sub_cancel_left] at hx
  by_cases h18 : 18 < cnt digitB (s.data.toList.drop i)
  · rw [hT, hK, if_pos h18, if_pos h18]
    clear hx hT hK
    generalize cnt digitB (s.data.toList.drop i) = n at *
    have HC1 := hide hc1
    have HC2 := hide hc2
    have HC3 := hide hc3
    have HC4 := hide hc4
    clear hc1 hc2 hc3 hc4
    go_enter Try.func29, Try.ntmps29
    go_wp2_with fail
    refine (HC1.out _).mono ?_; rintro e w' ⟨rfl, hw'⟩; subst w'
    go_wp2_with fail
    refine (HC2.out _).mono ?_; rintro e w' ⟨rfl, hw'⟩; subst w'
    go_wp2_with fail
    refine (HC3.out _).mono ?_; rintro e w' ⟨rfl, hw'⟩; subst w'
    go_wp2_with fail
    refine (HC4.out _).mono ?_; rintro e w' ⟨rfl, hw'⟩; subst w'
    go_wp2_with fail
    exact bodyPost_ret (v := .agg #[.int .u8 0, .string ⟨#[]⟩]) (by simp [results, Try.results29, go_sem]) rfl ⟨rfl, (Below.refl _ _).alloc (Nat.le_refl _) _⟩
  · rw [hT, hK, if_neg h18, if_neg h18, ← hx]
    clear hx hT hK
    generalize cnt digitB (s.data.toList.drop i) = n at *
    have HC1 := hide hc1
    have HC2 := hide hc2
    have HC3 := hide hc3
    have HC4 := hide hc4
    clear hc1 hc2 hc3 hc4
    go_enter Try.func29, Try.ntmps29
    go_wp2_with fail
    refine (HC1.out _).mono ?_; rintro e w' ⟨rfl, hw'⟩; subst w'
    go_wp2_with fail
    refine (HC2.out _).mono ?_; rintro e w' ⟨rfl, hw'⟩; subst w'
    go_wp2_with fail
    refine (HC3.out _).mono ?_; rintro e w' ⟨rfl, hw'⟩; subst w'
    go_wp2_with fail
    refine (HC4.out _).mono ?_; rintro e w' ⟨rfl, hw'⟩; subst w'
    go_wp2_with fail
    exact bodyPost_ret (v := .agg #[.int .u8 100, .string (s.extract i (i + n))]) (by simp [results, Try.results29, go_sem]) rfl ⟨rfl, (Below.refl _ _).alloc (Nat.le_refl _) _⟩

end Go.Proofs.Ytnocnkblhjifjaa
