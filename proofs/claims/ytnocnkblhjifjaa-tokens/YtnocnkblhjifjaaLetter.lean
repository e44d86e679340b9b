/-
  The lengths of letters and signs, of remarks and gaps, and of a token (package lex), each by its contract.
-/
import Derived.Test.YtnocnkblhjifjaaLens
namespace Go.Proofs.Ytnocnkblhjifjaa
open Go.RowKit

theorem tail_extract (s : ByteArray) : (s.extract 1 s.size).data.toList = s.data.toList.tail := by
  rw [Lib.extract_to_end]; simp

set_option maxHeartbeats 400000 in
theorem letterLength_any (s : ByteArray) (w : World) (hs : s.size ≤ maxLen) (hp : 0 < s.size) :
    Calls Try.prog 25 #[.string s] w fun e w' => e = .returned (.int .i64 (letterLen s.data.toList)) ∧ w' = w := by
  have hs' : s.size ≤ 9223372036854775807 := hs
  have hz : (s.extract 1 s.size).size ≤ maxLen := by simp; omega
  have hle := nameLen_le s.data.toList.tail
  have hc : ∀ wx, Calls Try.prog 19 #[.string (s.extract 1 s.size)] wx fun e w' => e = .returned (.int .i64 (nameLen s.data.toList.tail)) ∧ w' = wx := fun wx => by
    have := nameLength_any _ wx hz; rw [tail_extract] at this; exact this
  have hx : ((s.extract 1 s.size).extract 0 (nameLen s.data.toList.tail)).data.toList = s.data.toList.tail.take (nameLen s.data.toList.tail) := by
    rw [Lib.extract_data, tail_extract]; simp
  have hd : ∀ wx, Calls Try.prog 32 #[.string ((s.extract 1 s.size).extract 0 (nameLen s.data.toList.tail))] wx fun e w' => e = .returned (.bool (wordL (s.data.toList.tail.take (nameLen s.data.toList.tail)))) ∧ w' = wx := fun wx => by
    have := isWord_any ((s.extract 1 s.size).extract 0 (nameLen s.data.toList.tail)) wx; rw [hx] at this; exact this
  have hsz : nameLen s.data.toList.tail ≤ s.size - 1 := by simpa using hle
  clear hx hle
  have hfin : letterLen s.data.toList = bif nameLen s.data.toList.tail == 0 || wordL (s.data.toList.tail.take (nameLen s.data.toList.tail)) then 0 else 1 + nameLen s.data.toList.tail := rfl
  generalize wordL (s.data.toList.tail.take (nameLen s.data.toList.tail)) = b at *
  generalize nameLen s.data.toList.tail = n at *
  generalize letterLen s.data.toList = R at *
  have HC : Hid (∀ wx, Calls Try.prog 19 #[.string (s.extract 1 s.size)] wx fun e w' => e = .returned (.int .i64 n) ∧ w' = wx) := hc
  have HD : Hid (∀ wx, Calls Try.prog 32 #[.string ((s.extract 1 s.size).extract 0 n)] wx fun e w' => e = .returned (.bool b) ∧ w' = wx) := hd
  have HF : Hid (R = bif n == 0 || b then 0 else 1 + n) := hfin
  clear hc hd hfin
  by_cases hn : n = 0
  · subst hn
    go_enter Try.func25, Try.ntmps25
    go_wp2_with (go_at_call 19; refine (HC.out _).mono ?_; rintro e w' ⟨rfl, rfl⟩)
    go_ret
    exact ⟨ret_int (by rw [HF.out]; simp), rfl⟩
  · have hb : ((n : Int) == 0) = false := by simp [hn]
    have hsl := fun wx => run_slice_of_slice (P := Try.prog) 9 Try.underlying9 s 1 s.size 0 n (by omega) (by omega) wx
    cases b
    · go_enter Try.func25, Try.ntmps25
      go_wp2_with (first | (go_at_call 19; refine (HC.out _).mono ?_; rintro e w' ⟨rfl, rfl⟩) | (go_at_call 32; refine (HD.out _).mono ?_; rintro e w' ⟨rfl, rfl⟩))
      go_ret
      exact ⟨ret_int (by have h3 : (n == 0) = false := by simpa using hn
                         rw [HF.out]; simp [h3]), rfl⟩
    · go_enter Try.func25, Try.ntmps25
      go_wp2_with (first | (go_at_call 19; refine (HC.out _).mono ?_; rintro e w' ⟨rfl, rfl⟩) | (go_at_call 32; refine (HD.out _).mono ?_; rintro e w' ⟨rfl, rfl⟩))
      go_ret
      exact ⟨ret_int (by rw [HF.out]; simp), rfl⟩

set_option maxHeartbeats 400000 in
theorem remarkLength_any (s : ByteArray) (w : World) :
    Calls Try.prog 17 #[.string s] w fun e w' => e = .returned (.int .i64 (cnt no10B s.data.toList)) ∧ w' = w := by
  have hc : ∀ wx, Calls Try.prog 30 #[.string s, .int .u8 10] wx fun e w' => e = .returned (.int .i64 (Lib.indexByte s.data.toList 10)) ∧ w' = wx := fun wx => Try.strings_IndexByte s 10 wx
  have hr := remark_len s.data.toList
  have hlen : s.data.toList.length = s.size := rfl
  rw [hlen] at hr
  clear hlen
  generalize Lib.indexByte s.data.toList 10 = i at *
  generalize cnt no10B s.data.toList = n at *
  have HC : Hid (∀ wx, Calls Try.prog 30 #[.string s, .int .u8 10] wx fun e w' => e = .returned (.int .i64 i) ∧ w' = wx) := hc
  have HR : Hid ((n : Int) = if 0 ≤ i then i else s.size) := hr
  clear hc hr
  by_cases h : 0 ≤ i
  · go_enter Try.func17, Try.ntmps17
    go_wp2_with (go_at_call 30; refine (HC.out _).mono ?_; rintro e w' ⟨rfl, rfl⟩)
    go_ret
    exact ⟨ret_int (by rw [HR.out, if_pos h]), rfl⟩
  · go_enter Try.func17, Try.ntmps17
    go_wp2_with (go_at_call 30; refine (HC.out _).mono ?_; rintro e w' ⟨rfl, rfl⟩)
    go_ret
    exact ⟨ret_int (by rw [HR.out, if_neg (by omega)]), rfl⟩

theorem sign_of (s : ByteArray) (hp : 0 < s.size) :
    (signLen s.data.toList : Int) = if Lib.hasPrefix s.data.toList [58, 61] = true ∨ Lib.hasPrefix s.data.toList [45, 62] = true then 2 else if 0 ≤ Lib.indexByte signs s[0] then 1 else 0 := by
  have h0 : (0 ≤ Lib.indexByte signs s[0]) = (s[0] ∈ signs) := propext (indexByte_mem _ _)
  simp only [h0]
  have e := head_cons s hp
  simp only [signLen]
  split
  · rfl
  · rw [e]; dsimp only; split <;> rfl

set_option maxHeartbeats 400000 in
theorem signLength_any (s : ByteArray) (w : World) (hp : 0 < s.size) :
    Calls Try.prog 26 #[.string s] w fun e w' => e = .returned (.int .i64 (signLen s.data.toList)) ∧ w' = w := by
  have hc1 : ∀ wx, Calls Try.prog 33 #[.string s, .string ⟨#[58, 61]⟩] wx fun e w' => e = .returned (.bool (Lib.hasPrefix s.data.toList [58, 61])) ∧ w' = wx := fun wx => Try.strings_HasPrefix s ⟨#[58, 61]⟩ wx
  have hc2 : ∀ wx, Calls Try.prog 33 #[.string s, .string ⟨#[45, 62]⟩] wx fun e w' => e = .returned (.bool (Lib.hasPrefix s.data.toList [45, 62])) ∧ w' = wx := fun wx => Try.strings_HasPrefix s ⟨#[45, 62]⟩ wx
  have hc3 : ∀ wx, Calls Try.prog 30 #[.string ⟨#[40, 41, 61, 60, 43, 45, 42, 47, 59, 124, 33, 46, 95]⟩, .int .u8 s[0].toNat] wx fun e w' => e = .returned (.int .i64 (Lib.indexByte signs s[0])) ∧ w' = wx := fun wx => by
    have := Try.strings_IndexByte ⟨#[40, 41, 61, 60, 43, 45, 42, 47, 59, 124, 33, 46, 95]⟩ s[0].toNat wx
    simp only [Int.toNat_natCast, UInt8.ofNat_toNat, Nat.toUInt8_eq] at this
    exact this
  have hr := sign_of s hp
  generalize Lib.hasPrefix s.data.toList [58, 61] = b1 at *
  generalize Lib.hasPrefix s.data.toList [45, 62] = b2 at *
  generalize Lib.indexByte signs s[0] = i at *
  generalize signLen s.data.toList = n at *
  have HC1 : Hid (∀ wx, Calls Try.prog 33 #[.string s, .string ⟨#[58, 61]⟩] wx fun e w' => e = .returned (.bool b1) ∧ w' = wx) := hc1
  have HC2 : Hid (∀ wx, Calls Try.prog 33 #[.string s, .string ⟨#[45, 62]⟩] wx fun e w' => e = .returned (.bool b2) ∧ w' = wx) := hc2
  have HC3 : Hid (∀ wx, Calls Try.prog 30 #[.string ⟨#[40, 41, 61, 60, 43, 45, 42, 47, 59, 124, 33, 46, 95]⟩, .int .u8 s[0].toNat] wx fun e w' => e = .returned (.int .i64 i) ∧ w' = wx) := hc3
  have HR : Hid ((n : Int) = if b1 = true ∨ b2 = true then 2 else if 0 ≤ i then 1 else 0) := hr
  clear hc1 hc2 hc3 hr
  cases b1
  · cases b2
    · by_cases h : 0 ≤ i
      all_goals
        go_enter Try.func26, Try.ntmps26
        go_wp2_with fail
        refine (HC1.out _).mono ?_; rintro e w' ⟨rfl, rfl⟩
        go_wp2_with fail
        refine (HC2.out _).mono ?_; rintro e w' ⟨rfl, rfl⟩
        go_wp2_with fail
        refine (HC3.out _).mono ?_; rintro e w' ⟨rfl, rfl⟩
        go_wp2_with fail
        go_ret
        exact ⟨ret_int (by rw [HR.out]; simp [h]), rfl⟩
    · go_enter Try.func26, Try.ntmps26
      go_wp2_with fail
      refine (HC1.out _).mono ?_; rintro e w' ⟨rfl, rfl⟩
      go_wp2_with fail
      refine (HC2.out _).mono ?_; rintro e w' ⟨rfl, rfl⟩
      go_wp2_with fail
      go_ret
      exact ⟨ret_int (by rw [HR.out]; simp), rfl⟩
  · go_enter Try.func26, Try.ntmps26
    go_wp2_with fail
    refine (HC1.out _).mono ?_; rintro e w' ⟨rfl, rfl⟩
    go_wp2_with fail
    go_ret
    exact ⟨ret_int (by rw [HR.out]; simp), rfl⟩

end Go.Proofs.Ytnocnkblhjifjaa
