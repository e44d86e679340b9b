/-
  lex.countWhile, at each of the three tests that the program hands it: it returns how many bytes at the head are of the kind, in the world as it was.
-/
import Derived.Test.YtnocnkblhjifjaaBytes
namespace Go.Proofs.Ytnocnkblhjifjaa
open Go.RowKit

theorem ret_int {k : IntKind} {a b : Int} (h : a = b) : Ending.returned (.int k a) = .returned (.int k b) := by rw [h]

set_option maxHeartbeats 400000 in
theorem countWhile_isNameByte (s : ByteArray) (w : World) (hs : s.size ≤ maxLen) :
    Calls Try.prog 21 #[.string s, .func (.func 31) #[] #[]] w fun e w' => e = .returned (.int .i64 (cnt nameB s.data.toList)) ∧ w' = w := by
  unfold maxLen at hs
  go_enter Try.func21, Try.ntmps21
  go_wp2
  go_loop [8] (fun i => ∃ k : Nat, k ≤ s.size ∧ i = .int .i64 k ∧ Hid (cnt nameB s.data.toList = k + cnt nameB (s.data.toList.drop k))) (fun i => s.size - (intOf i).toNat)
  case atStart => exact ⟨0, Nat.zero_le _, rfl, show cnt _ _ = _ by simp⟩
  case round =>
    obtain ⟨k, hk, rfl, H⟩ := hrel
    by_cases hlt : k < s.size
    · cases hb : nameB s[k].toNat
      · go_wp2_with (go_at_call 31; refine (isNameByte_any _ _).mono ?_; rintro e w' ⟨rfl, rfl⟩)
        go_ret
        exact ⟨ret_int (by have := H.out; rw [cntS_no _ _ _ hlt hb] at this; omega), rfl⟩
      · go_wp2_with (go_at_call 31; refine (isNameByte_any _ _).mono ?_; rintro e w' ⟨rfl, rfl⟩)
        go_round
        case rel => exact ⟨k + 1, by omega, by go_num, show cnt _ _ = _ by have := H.out; rw [cntS_yes _ _ _ hlt hb] at this; omega⟩
        case measure => simp [intOf]; omega
    · go_wp2
      go_ret
      exact ⟨ret_int (by have := H.out; rw [cntS_end _ _ _ (by omega)] at this; omega), rfl⟩

set_option maxHeartbeats 400000 in
theorem countWhile_isConstructorByte (s : ByteArray) (w : World) (hs : s.size ≤ maxLen) :
    Calls Try.prog 21 #[.string s, .func (.func 22) #[] #[]] w fun e w' => e = .returned (.int .i64 (cnt conB s.data.toList)) ∧ w' = w := by
  unfold maxLen at hs
  go_enter Try.func21, Try.ntmps21
  go_wp2
  go_loop [8] (fun i => ∃ k : Nat, k ≤ s.size ∧ i = .int .i64 k ∧ Hid (cnt conB s.data.toList = k + cnt conB (s.data.toList.drop k))) (fun i => s.size - (intOf i).toNat)
  case atStart => exact ⟨0, Nat.zero_le _, rfl, show cnt _ _ = _ by simp⟩
  case round =>
    obtain ⟨k, hk, rfl, H⟩ := hrel
    by_cases hlt : k < s.size
    · cases hb : conB s[k].toNat
      · go_wp2_with (go_at_call 22; refine (isConstructorByte_any _ _).mono ?_; rintro e w' ⟨rfl, rfl⟩)
        go_ret
        exact ⟨ret_int (by have := H.out; rw [cntS_no _ _ _ hlt hb] at this; omega), rfl⟩
      · go_wp2_with (go_at_call 22; refine (isConstructorByte_any _ _).mono ?_; rintro e w' ⟨rfl, rfl⟩)
        go_round
        case rel => exact ⟨k + 1, by omega, by go_num, show cnt _ _ = _ by have := H.out; rw [cntS_yes _ _ _ hlt hb] at this; omega⟩
        case measure => simp [intOf]; omega
    · go_wp2
      go_ret
      exact ⟨ret_int (by have := H.out; rw [cntS_end _ _ _ (by omega)] at this; omega), rfl⟩

set_option maxHeartbeats 400000 in
theorem countWhile_isDigit (s : ByteArray) (w : World) (hs : s.size ≤ maxLen) :
    Calls Try.prog 21 #[.string s, .func (.func 23) #[] #[]] w fun e w' => e = .returned (.int .i64 (cnt digitB s.data.toList)) ∧ w' = w := by
  unfold maxLen at hs
  go_enter Try.func21, Try.ntmps21
  go_wp2
  go_loop [8] (fun i => ∃ k : Nat, k ≤ s.size ∧ i = .int .i64 k ∧ Hid (cnt digitB s.data.toList = k + cnt digitB (s.data.toList.drop k))) (fun i => s.size - (intOf i).toNat)
  case atStart => exact ⟨0, Nat.zero_le _, rfl, show cnt _ _ = _ by simp⟩
  case round =>
    obtain ⟨k, hk, rfl, H⟩ := hrel
    by_cases hlt : k < s.size
    · cases hb : digitB s[k].toNat
      · go_wp2_with (go_at_call 23; refine (isDigit_any _ _).mono ?_; rintro e w' ⟨rfl, rfl⟩)
        go_ret
        exact ⟨ret_int (by have := H.out; rw [cntS_no _ _ _ hlt hb] at this; omega), rfl⟩
      · go_wp2_with (go_at_call 23; refine (isDigit_any _ _).mono ?_; rintro e w' ⟨rfl, rfl⟩)
        go_round
        case rel => exact ⟨k + 1, by omega, by go_num, show cnt _ _ = _ by have := H.out; rw [cntS_yes _ _ _ hlt hb] at this; omega⟩
        case measure => simp [intOf]; omega
    · go_wp2
      go_ret
      exact ⟨ret_int (by have := H.out; rw [cntS_end _ _ _ (by omega)] at this; omega), rfl⟩


end Go.Proofs.Ytnocnkblhjifjaa
