/-
  The lengths of names, numbers, letters and signs (package lex), each by its contract.
-/
import Derived.Test.YtnocnkblhjifjaaCount
import Derived.Test.YtnocnkblhjifjaaShelf
import Derived.Lib.Strings
import Derived.Lib.IndexBytes
namespace Go.Proofs.Ytnocnkblhjifjaa
open Go.RowKit

theorem head_cons (s : ByteArray) (hp : 0 < s.size) : s.data.toList = s[0] :: s.data.toList.tail := by
  obtain ⟨⟨l⟩⟩ := s
  match l, hp with
  | c :: r, _ => rfl

theorem nil_of_size (s : ByteArray) (h : s.size = 0) : s.data.toList = [] := by
  obtain ⟨⟨l⟩⟩ := s
  match l, h with
  | [], _ => rfl

set_option maxHeartbeats 400000 in
theorem isWord_any (s : ByteArray) (w : World) :
    Calls Try.prog 32 #[.string s] w fun e w' => e = .returned (.bool (wordL s.data.toList)) ∧ w' = w := by
  go_enter Try.func32, Try.ntmps32
  go_wp2
  all_goals
    go_ret
    refine ⟨ret_bool ?_, rfl⟩
    rw [wordL, ← ByteArray.toList_eq]
    simp [*] at *

set_option maxHeartbeats 400000 in
theorem nameLength_any (s : ByteArray) (w : World) (hs : s.size ≤ maxLen) :
    Calls Try.prog 19 #[.string s] w fun e w' => e = .returned (.int .i64 (nameLen s.data.toList)) ∧ w' = w := by
  have hs' : s.size ≤ 9223372036854775807 := hs
  by_cases h0 : s.size = 0
  · have he : s.toList.isEmpty = true := by rw [ByteArray.toList_eq, nil_of_size s h0]; rfl
    go_enter Try.func19, Try.ntmps19
    go_wp2
    go_ret
    exact ⟨ret_int (by rw [nil_of_size s h0]; rfl), rfl⟩
  · have hp : 0 < s.size := by omega
    have he : s.toList.isEmpty = false := by rw [ByteArray.toList_eq, head_cons s hp]; rfl
    cases hb : smallB s[0].toNat
    · go_enter Try.func19, Try.ntmps19
      go_wp2_with (first | (go_at_call 18; refine (isSmall_any _ _).mono ?_; rintro e w' ⟨rfl, rfl⟩) | (go_at_call 21; refine (countWhile_isNameByte _ _ hs).mono ?_; rintro e w' ⟨rfl, rfl⟩))
      go_ret
      exact ⟨ret_int (by rw [head_cons s hp]; simp [nameLen, hb]), rfl⟩
    · go_enter Try.func19, Try.ntmps19
      go_wp2_with (first | (go_at_call 18; refine (isSmall_any _ _).mono ?_; rintro e w' ⟨rfl, rfl⟩) | (go_at_call 21; refine (countWhile_isNameByte _ _ hs).mono ?_; rintro e w' ⟨rfl, rfl⟩))
      go_ret
      exact ⟨ret_int (by rw [head_cons s hp]; simp [nameLen, hb]), rfl⟩

set_option maxHeartbeats 400000 in
theorem numberLength_any (s : ByteArray) (w : World) (hs : s.size ≤ maxLen) :
    Calls Try.prog 24 #[.string s] w fun e w' => e = .returned (.int .i64 (numLen s.data.toList)) ∧ w' = w := by
  by_cases h : 18 < cnt digitB s.data.toList
  · have h' : (18 : Int) < (cnt digitB s.data.toList : Int) := by omega
    go_enter Try.func24, Try.ntmps24
    go_wp2_with (go_at_call 21; refine (countWhile_isDigit _ _ hs).mono ?_; rintro e w' ⟨rfl, rfl⟩)
    go_ret
    exact ⟨ret_int (by simp [numLen, h]), rfl⟩
  · have h' : ¬ (18 : Int) < (cnt digitB s.data.toList : Int) := by omega
    go_enter Try.func24, Try.ntmps24
    go_wp2_with (go_at_call 21; refine (countWhile_isDigit _ _ hs).mono ?_; rintro e w' ⟨rfl, rfl⟩)
    go_ret
    exact ⟨ret_int (by simp [numLen, h]), rfl⟩

end Go.Proofs.Ytnocnkblhjifjaa
