import Derived.Test.YtnocnkblhjifjaaGreatDoorRows
import Derived.WalkKit
import Derived.WalkSpells
import Derived.WalkLawsBesides
import Derived.Test.YtnocnkblhjifjaaGreatDoorMPlain
/-
  The small tests on one byte of package lex, each by its contract: each returns what the plain test says, in the world as it was.
-/
namespace Go.Proofs.YtnocnkblhjifjaaGreatDoor
open Go.RowKit

theorem ret_bool {a b : Bool} (h : a = b) : Ending.returned (.bool a) = .returned (.bool b) := by rw [h]

set_option maxHeartbeats 400000 in
theorem isSmall_any (c : Int) (w : World) :
    Calls Tryz.prog 130 #[.int .u8 c] w fun e w' => e = .returned (.bool (smallB c)) ∧ w' = w := by
  by_cases h1 : 97 ≤ c
  · by_cases h2 : c ≤ 122
    · go_enter Tryz.func130, Tryz.ntmps130
      go_wp2
      go_ret
      exact ⟨ret_bool (by simp [smallB, h1, h2]), rfl⟩
    · go_enter Tryz.func130, Tryz.ntmps130
      go_wp2
      go_ret
      exact ⟨ret_bool (by simp [smallB, h2]), rfl⟩
  · go_enter Tryz.func130, Tryz.ntmps130
    go_wp2
    go_ret
    exact ⟨ret_bool (by simp [smallB]; omega), rfl⟩

set_option maxHeartbeats 400000 in
theorem isGreat_any (c : Int) (w : World) :
    Calls Tryz.prog 132 #[.int .u8 c] w fun e w' => e = .returned (.bool (greatB c)) ∧ w' = w := by
  by_cases h1 : 65 ≤ c
  · by_cases h2 : c ≤ 90
    · go_enter Tryz.func132, Tryz.ntmps132
      go_wp2
      go_ret
      exact ⟨ret_bool (by simp [greatB, h1, h2]), rfl⟩
    · go_enter Tryz.func132, Tryz.ntmps132
      go_wp2
      go_ret
      exact ⟨ret_bool (by simp [greatB, h2]), rfl⟩
  · go_enter Tryz.func132, Tryz.ntmps132
    go_wp2
    go_ret
    exact ⟨ret_bool (by simp [greatB]; omega), rfl⟩

set_option maxHeartbeats 400000 in
theorem isDigit_any (c : Int) (w : World) :
    Calls Tryz.prog 135 #[.int .u8 c] w fun e w' => e = .returned (.bool (digitB c)) ∧ w' = w := by
  by_cases h1 : 48 ≤ c
  · by_cases h2 : c ≤ 57
    · go_enter Tryz.func135, Tryz.ntmps135
      go_wp2
      go_ret
      exact ⟨ret_bool (by simp [digitB, h1, h2]), rfl⟩
    · go_enter Tryz.func135, Tryz.ntmps135
      go_wp2
      go_ret
      exact ⟨ret_bool (by simp [digitB, h2]), rfl⟩
  · go_enter Tryz.func135, Tryz.ntmps135
    go_wp2
    go_ret
    exact ⟨ret_bool (by simp [digitB]; omega), rfl⟩

set_option maxHeartbeats 400000 in
theorem isNameByte_any (c : Int) (w : World) :
    Calls Tryz.prog 195 #[.int .u8 c] w fun e w' => e = .returned (.bool (nameB c)) ∧ w' = w := by
  cases h1 : smallB c
  · cases h2 : digitB c
    · go_enter Tryz.func195, Tryz.ntmps195
      go_wp2_with (first | (go_at_call 130; refine (isSmall_any _ _).mono ?_; rintro e w' ⟨rfl, rfl⟩) | (go_at_call 135; refine (isDigit_any _ _).mono ?_; rintro e w' ⟨rfl, rfl⟩))
      go_ret
      exact ⟨ret_bool (by simp [nameB, h1, h2]), rfl⟩
    · go_enter Tryz.func195, Tryz.ntmps195
      go_wp2_with (first | (go_at_call 130; refine (isSmall_any _ _).mono ?_; rintro e w' ⟨rfl, rfl⟩) | (go_at_call 135; refine (isDigit_any _ _).mono ?_; rintro e w' ⟨rfl, rfl⟩))
      go_ret
      exact ⟨ret_bool (by simp [nameB, h2]), rfl⟩
  · go_enter Tryz.func195, Tryz.ntmps195
    go_wp2_with (first | (go_at_call 130; refine (isSmall_any _ _).mono ?_; rintro e w' ⟨rfl, rfl⟩) | (go_at_call 135; refine (isDigit_any _ _).mono ?_; rintro e w' ⟨rfl, rfl⟩))
    go_ret
    exact ⟨ret_bool (by simp [nameB, h1]), rfl⟩

set_option maxHeartbeats 400000 in
theorem isConstructorByte_any (c : Int) (w : World) :
    Calls Tryz.prog 134 #[.int .u8 c] w fun e w' => e = .returned (.bool (conB c)) ∧ w' = w := by
  cases h1 : nameB c
  · go_enter Tryz.func134, Tryz.ntmps134
    go_wp2_with (first | (go_at_call 195; refine (isNameByte_any _ _).mono ?_; rintro e w' ⟨rfl, rfl⟩) | (go_at_call 132; refine (isGreat_any _ _).mono ?_; rintro e w' ⟨rfl, rfl⟩))
    go_ret
    exact ⟨ret_bool (by simp [conB, h1]), rfl⟩
  · go_enter Tryz.func134, Tryz.ntmps134
    go_wp2_with (first | (go_at_call 195; refine (isNameByte_any _ _).mono ?_; rintro e w' ⟨rfl, rfl⟩) | (go_at_call 132; refine (isGreat_any _ _).mono ?_; rintro e w' ⟨rfl, rfl⟩))
    go_ret
    exact ⟨ret_bool (by simp [conB, h1]), rfl⟩

end Go.Proofs.YtnocnkblhjifjaaGreatDoor
/-
  lex.countWhile, at each of the three tests that the program hands it: it returns how many bytes at the head are of the kind, in the world as it was.
-/
namespace Go.Proofs.YtnocnkblhjifjaaGreatDoor
open Go.RowKit

theorem ret_int {k : IntKind} {a b : Int} (h : a = b) : Ending.returned (.int k a) = .returned (.int k b) := by rw [h]

set_option maxHeartbeats 400000 in
theorem countWhile_isNameByte (s : ByteArray) (w : World) (hs : s.size ≤ maxLen) :
    Calls Tryz.prog 133 #[.string s, .func (.func 195) #[] #[]] w fun e w' => e = .returned (.int .i64 (cnt nameB s.data.toList)) ∧ w' = w := by
  unfold maxLen at hs
  go_enter Tryz.func133, Tryz.ntmps133
  go_wp2
  go_loop [8] (fun i => ∃ k : Nat, k ≤ s.size ∧ i = .int .i64 k ∧ Hid (cnt nameB s.data.toList = k + cnt nameB (s.data.toList.drop k))) (fun i => s.size - (intOf i).toNat)
  case atStart => exact ⟨0, Nat.zero_le _, rfl, show cnt _ _ = _ by simp⟩
  case round =>
    obtain ⟨k, hk, rfl, H⟩ := hrel
    by_cases hlt : k < s.size
    · cases hb : nameB s[k].toNat
      · go_wp2_with (go_at_call 195; refine (isNameByte_any _ _).mono ?_; rintro e w' ⟨rfl, rfl⟩)
        go_ret
        exact ⟨ret_int (by have := H.out; rw [cntS_no _ _ _ hlt hb] at this; omega), rfl⟩
      · go_wp2_with (go_at_call 195; refine (isNameByte_any _ _).mono ?_; rintro e w' ⟨rfl, rfl⟩)
        go_round
        case rel => exact ⟨k + 1, by omega, by go_num, show cnt _ _ = _ by have := H.out; rw [cntS_yes _ _ _ hlt hb] at this; omega⟩
        case measure => simp [intOf]; omega
    · go_wp2
      go_ret
      exact ⟨ret_int (by have := H.out; rw [cntS_end _ _ _ (by omega)] at this; omega), rfl⟩

set_option maxHeartbeats 400000 in
theorem countWhile_isConstructorByte (s : ByteArray) (w : World) (hs : s.size ≤ maxLen) :
    Calls Tryz.prog 133 #[.string s, .func (.func 134) #[] #[]] w fun e w' => e = .returned (.int .i64 (cnt conB s.data.toList)) ∧ w' = w := by
  unfold maxLen at hs
  go_enter Tryz.func133, Tryz.ntmps133
  go_wp2
  go_loop [8] (fun i => ∃ k : Nat, k ≤ s.size ∧ i = .int .i64 k ∧ Hid (cnt conB s.data.toList = k + cnt conB (s.data.toList.drop k))) (fun i => s.size - (intOf i).toNat)
  case atStart => exact ⟨0, Nat.zero_le _, rfl, show cnt _ _ = _ by simp⟩
  case round =>
    obtain ⟨k, hk, rfl, H⟩ := hrel
    by_cases hlt : k < s.size
    · cases hb : conB s[k].toNat
      · go_wp2_with (go_at_call 134; refine (isConstructorByte_any _ _).mono ?_; rintro e w' ⟨rfl, rfl⟩)
        go_ret
        exact ⟨ret_int (by have := H.out; rw [cntS_no _ _ _ hlt hb] at this; omega), rfl⟩
      · go_wp2_with (go_at_call 134; refine (isConstructorByte_any _ _).mono ?_; rintro e w' ⟨rfl, rfl⟩)
        go_round
        case rel => exact ⟨k + 1, by omega, by go_num, show cnt _ _ = _ by have := H.out; rw [cntS_yes _ _ _ hlt hb] at this; omega⟩
        case measure => simp [intOf]; omega
    · go_wp2
      go_ret
      exact ⟨ret_int (by have := H.out; rw [cntS_end _ _ _ (by omega)] at this; omega), rfl⟩

set_option maxHeartbeats 400000 in
theorem countWhile_isDigit (s : ByteArray) (w : World) (hs : s.size ≤ maxLen) :
    Calls Tryz.prog 133 #[.string s, .func (.func 135) #[] #[]] w fun e w' => e = .returned (.int .i64 (cnt digitB s.data.toList)) ∧ w' = w := by
  unfold maxLen at hs
  go_enter Tryz.func133, Tryz.ntmps133
  go_wp2
  go_loop [8] (fun i => ∃ k : Nat, k ≤ s.size ∧ i = .int .i64 k ∧ Hid (cnt digitB s.data.toList = k + cnt digitB (s.data.toList.drop k))) (fun i => s.size - (intOf i).toNat)
  case atStart => exact ⟨0, Nat.zero_le _, rfl, show cnt _ _ = _ by simp⟩
  case round =>
    obtain ⟨k, hk, rfl, H⟩ := hrel
    by_cases hlt : k < s.size
    · cases hb : digitB s[k].toNat
      · go_wp2_with (go_at_call 135; refine (isDigit_any _ _).mono ?_; rintro e w' ⟨rfl, rfl⟩)
        go_ret
        exact ⟨ret_int (by have := H.out; rw [cntS_no _ _ _ hlt hb] at this; omega), rfl⟩
      · go_wp2_with (go_at_call 135; refine (isDigit_any _ _).mono ?_; rintro e w' ⟨rfl, rfl⟩)
        go_round
        case rel => exact ⟨k + 1, by omega, by go_num, show cnt _ _ = _ by have := H.out; rw [cntS_yes _ _ _ hlt hb] at this; omega⟩
        case measure => simp [intOf]; omega
    · go_wp2
      go_ret
      exact ⟨ret_int (by have := H.out; rw [cntS_end _ _ _ (by omega)] at this; omega), rfl⟩


end Go.Proofs.YtnocnkblhjifjaaGreatDoor
