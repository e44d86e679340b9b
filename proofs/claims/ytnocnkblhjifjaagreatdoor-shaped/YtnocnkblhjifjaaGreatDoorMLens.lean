import Derived.Test.YtnocnkblhjifjaaGreatDoorMBytes
import Derived.Test.YtnocnkblhjifjaaGreatDoorShelf
import Derived.Lib.Strings
import Derived.Lib.IndexBytes
import Derived.Test.YtnocnkblhjifjaaGreatDoorMPlain
/-
  The lengths of names, numbers, letters and signs (package lex), each by its contract.
-/
namespace Go.Proofs.YtnocnkblhjifjaaGreatDoor
open Go.RowKit

theorem head_cons (s : ByteArray) (hp : 0 < s.size) : s.data.toList = s[0] :: s.data.toList.tail := by
  obtain ⟨⟨l⟩⟩ := s
  match l, hp with
  | c :: r, _ => rfl

theorem nil_of_size (s : ByteArray) (h : s.size = 0) : s.data.toList = [] := by
  obtain ⟨⟨l⟩⟩ := s
  match l, h with
  | [], _ => rfl

set_option maxHeartbeats 400000 in
theorem isWord_any (s : ByteArray) (w : World) :
    Calls Tryz.prog 196 #[.string s] w fun e w' => e = .returned (.bool (wordL s.data.toList)) ∧ w' = w := by
  go_enter Tryz.func196, Tryz.ntmps196
  go_wp2
  all_goals
    go_ret
    refine ⟨ret_bool ?_, rfl⟩
    rw [wordL, ← ByteArray.toList_eq]
    simp [*] at *

set_option maxHeartbeats 400000 in
theorem nameLength_any (s : ByteArray) (w : World) (hs : s.size ≤ maxLen) :
    Calls Tryz.prog 131 #[.string s] w fun e w' => e = .returned (.int .i64 (nameLen s.data.toList)) ∧ w' = w := by
  have hs' : s.size ≤ 9223372036854775807 := hs
  by_cases h0 : s.size = 0
  · have he : s.toList.isEmpty = true := by rw [ByteArray.toList_eq, nil_of_size s h0]; rfl
    go_enter Tryz.func131, Tryz.ntmps131
    go_wp2
    go_ret
    exact ⟨ret_int (by rw [nil_of_size s h0]; rfl), rfl⟩
  · have hp : 0 < s.size := by omega
    have he : s.toList.isEmpty = false := by rw [ByteArray.toList_eq, head_cons s hp]; rfl
    cases hb : smallB s[0].toNat
    · go_enter Tryz.func131, Tryz.ntmps131
      go_wp2_with (first | (go_at_call 130; refine (isSmall_any _ _).mono ?_; rintro e w' ⟨rfl, rfl⟩) | (go_at_call 133; refine (countWhile_isNameByte _ _ hs).mono ?_; rintro e w' ⟨rfl, rfl⟩))
      go_ret
      exact ⟨ret_int (by rw [head_cons s hp]; simp [nameLen, hb]), rfl⟩
    · go_enter Tryz.func131, Tryz.ntmps131
      go_wp2_with (first | (go_at_call 130; refine (isSmall_any _ _).mono ?_; rintro e w' ⟨rfl, rfl⟩) | (go_at_call 133; refine (countWhile_isNameByte _ _ hs).mono ?_; rintro e w' ⟨rfl, rfl⟩))
      go_ret
      exact ⟨ret_int (by rw [head_cons s hp]; simp [nameLen, hb]), rfl⟩

set_option maxHeartbeats 400000 in
theorem numberLength_any (s : ByteArray) (w : World) (hs : s.size ≤ maxLen) :
    Calls Tryz.prog 136 #[.string s] w fun e w' => e = .returned (.int .i64 (numLen s.data.toList)) ∧ w' = w := by
  by_cases h : 18 < cnt digitB s.data.toList
  · have h' : (18 : Int) < (cnt digitB s.data.toList : Int) := by omega
    go_enter Tryz.func136, Tryz.ntmps136
    go_wp2_with (go_at_call 133; refine (countWhile_isDigit _ _ hs).mono ?_; rintro e w' ⟨rfl, rfl⟩)
    go_ret
    exact ⟨ret_int (by simp [numLen, h]), rfl⟩
  · have h' : ¬ (18 : Int) < (cnt digitB s.data.toList : Int) := by omega
    go_enter Tryz.func136, Tryz.ntmps136
    go_wp2_with (go_at_call 133; refine (countWhile_isDigit _ _ hs).mono ?_; rintro e w' ⟨rfl, rfl⟩)
    go_ret
    exact ⟨ret_int (by simp [numLen, h]), rfl⟩

end Go.Proofs.YtnocnkblhjifjaaGreatDoor
/-
  The lengths of letters and signs, of remarks and gaps, and of a token (package lex), each by its contract.
-/
namespace Go.Proofs.YtnocnkblhjifjaaGreatDoor
open Go.RowKit

theorem tail_extract (s : ByteArray) : (s.extract 1 s.size).data.toList = s.data.toList.tail := by
  rw [Lib.extract_to_end]; simp

set_option maxHeartbeats 400000 in
theorem letterLength_any (s : ByteArray) (w : World) (hs : s.size ≤ maxLen) (hp : 0 < s.size) :
    Calls Tryz.prog 137 #[.string s] w fun e w' => e = .returned (.int .i64 (letterLen s.data.toList)) ∧ w' = w := by
  have hs' : s.size ≤ 9223372036854775807 := hs
  have hz : (s.extract 1 s.size).size ≤ maxLen := by simp; omega
  have hle := nameLen_le s.data.toList.tail
  have hc : ∀ wx, Calls Tryz.prog 131 #[.string (s.extract 1 s.size)] wx fun e w' => e = .returned (.int .i64 (nameLen s.data.toList.tail)) ∧ w' = wx := fun wx => by
    have := nameLength_any _ wx hz; rw [tail_extract] at this; exact this
  have hx : ((s.extract 1 s.size).extract 0 (nameLen s.data.toList.tail)).data.toList = s.data.toList.tail.take (nameLen s.data.toList.tail) := by
    rw [Lib.extract_data, tail_extract]; simp
  have hd : ∀ wx, Calls Tryz.prog 196 #[.string ((s.extract 1 s.size).extract 0 (nameLen s.data.toList.tail))] wx fun e w' => e = .returned (.bool (wordL (s.data.toList.tail.take (nameLen s.data.toList.tail)))) ∧ w' = wx := fun wx => by
    have := isWord_any ((s.extract 1 s.size).extract 0 (nameLen s.data.toList.tail)) wx; rw [hx] at this; exact this
  have hsz : nameLen s.data.toList.tail ≤ s.size - 1 := by simpa using hle
  clear hx hle
  have hfin : letterLen s.data.toList = bif nameLen s.data.toList.tail == 0 || wordL (s.data.toList.tail.take (nameLen s.data.toList.tail)) then 0 else 1 + nameLen s.data.toList.tail := rfl
  generalize wordL (s.data.toList.tail.take (nameLen s.data.toList.tail)) = b at *
  generalize nameLen s.data.toList.tail = n at *
  generalize letterLen s.data.toList = R at *
  have HC : Hid (∀ wx, Calls Tryz.prog 131 #[.string (s.extract 1 s.size)] wx fun e w' => e = .returned (.int .i64 n) ∧ w' = wx) := hc
  have HD : Hid (∀ wx, Calls Tryz.prog 196 #[.string ((s.extract 1 s.size).extract 0 n)] wx fun e w' => e = .returned (.bool b) ∧ w' = wx) := hd
  have HF : Hid (R = bif n == 0 || b then 0 else 1 + n) := hfin
  clear hc hd hfin
  by_cases hn : n = 0
  · subst hn
    go_enter Tryz.func137, Tryz.ntmps137
    go_wp2_with (go_at_call 131; refine (HC.out _).mono ?_; rintro e w' ⟨rfl, rfl⟩)
    go_ret
    exact ⟨ret_int (by rw [HF.out]; simp), rfl⟩
  · have hb : ((n : Int) == 0) = false := by simp [hn]
    have hsl := fun wx => run_slice_of_slice (P := Tryz.prog) 9 Tryz.underlying9 s 1 s.size 0 n (by omega) (by omega) wx
    cases b
    · go_enter Tryz.func137, Tryz.ntmps137
      go_wp2_with (first | (go_at_call 131; refine (HC.out _).mono ?_; rintro e w' ⟨rfl, rfl⟩) | (go_at_call 196; refine (HD.out _).mono ?_; rintro e w' ⟨rfl, rfl⟩))
      go_ret
      exact ⟨ret_int (by have h3 : (n == 0) = false := by simpa using hn
                         rw [HF.out]; simp [h3]), rfl⟩
    · go_enter Tryz.func137, Tryz.ntmps137
      go_wp2_with (first | (go_at_call 131; refine (HC.out _).mono ?_; rintro e w' ⟨rfl, rfl⟩) | (go_at_call 196; refine (HD.out _).mono ?_; rintro e w' ⟨rfl, rfl⟩))
      go_ret
      exact ⟨ret_int (by rw [HF.out]; simp), rfl⟩

set_option maxHeartbeats 400000 in
theorem remarkLength_any (s : ByteArray) (w : World) :
    Calls Tryz.prog 129 #[.string s] w fun e w' => e = .returned (.int .i64 (cnt no10B s.data.toList)) ∧ w' = w := by
  have hc : ∀ wx, Calls Tryz.prog 194 #[.string s, .int .u8 10] wx fun e w' => e = .returned (.int .i64 (Lib.indexByte s.data.toList 10)) ∧ w' = wx := fun wx => Tryz.strings_IndexByte s 10 wx
  have hr := remark_len s.data.toList
  have hlen : s.data.toList.length = s.size := rfl
  rw [hlen] at hr
  clear hlen
  generalize Lib.indexByte s.data.toList 10 = i at *
  generalize cnt no10B s.data.toList = n at *
  have HC : Hid (∀ wx, Calls Tryz.prog 194 #[.string s, .int .u8 10] wx fun e w' => e = .returned (.int .i64 i) ∧ w' = wx) := hc
  have HR : Hid ((n : Int) = if 0 ≤ i then i else s.size) := hr
  clear hc hr
  by_cases h : 0 ≤ i
  · go_enter Tryz.func129, Tryz.ntmps129
    go_wp2_with (go_at_call 194; refine (HC.out _).mono ?_; rintro e w' ⟨rfl, rfl⟩)
    go_ret
    exact ⟨ret_int (by rw [HR.out, if_pos h]), rfl⟩
  · go_enter Tryz.func129, Tryz.ntmps129
    go_wp2_with (go_at_call 194; refine (HC.out _).mono ?_; rintro e w' ⟨rfl, rfl⟩)
    go_ret
    exact ⟨ret_int (by rw [HR.out, if_neg (by omega)]), rfl⟩

theorem sign_of (s : ByteArray) (hp : 0 < s.size) :
    (signLen s.data.toList : Int) = if Lib.hasPrefix s.data.toList [58, 61] = true ∨ Lib.hasPrefix s.data.toList [45, 62] = true then 2 else if 0 ≤ Lib.indexByte signs s[0] then 1 else 0 := by
  have h0 : (0 ≤ Lib.indexByte signs s[0]) = (s[0] ∈ signs) := propext (indexByte_mem _ _)
  simp only [h0]
  have e := head_cons s hp
  simp only [signLen]
  split
  · rfl
  · rw [e]; dsimp only; split <;> rfl

set_option maxHeartbeats 400000 in
theorem signLength_any (s : ByteArray) (w : World) (hp : 0 < s.size) :
    Calls Tryz.prog 138 #[.string s] w fun e w' => e = .returned (.int .i64 (signLen s.data.toList)) ∧ w' = w := by
  have hc1 : ∀ wx, Calls Tryz.prog 197 #[.string s, .string ⟨#[58, 61]⟩] wx fun e w' => e = .returned (.bool (Lib.hasPrefix s.data.toList [58, 61])) ∧ w' = wx := fun wx => Tryz.strings_HasPrefix s ⟨#[58, 61]⟩ wx
  have hc2 : ∀ wx, Calls Tryz.prog 197 #[.string s, .string ⟨#[45, 62]⟩] wx fun e w' => e = .returned (.bool (Lib.hasPrefix s.data.toList [45, 62])) ∧ w' = wx := fun wx => Tryz.strings_HasPrefix s ⟨#[45, 62]⟩ wx
  have hc3 : ∀ wx, Calls Tryz.prog 194 #[.string ⟨#[40, 41, 61, 60, 43, 45, 42, 47, 59, 124, 33, 46, 95]⟩, .int .u8 s[0].toNat] wx fun e w' => e = .returned (.int .i64 (Lib.indexByte signs s[0])) ∧ w' = wx := fun wx => by
    have := Tryz.strings_IndexByte ⟨#[40, 41, 61, 60, 43, 45, 42, 47, 59, 124, 33, 46, 95]⟩ s[0].toNat wx
    simp only [Int.toNat_natCast, UInt8.ofNat_toNat, Nat.toUInt8_eq] at this
    exact this
  have hr := sign_of s hp
  generalize Lib.hasPrefix s.data.toList [58, 61] = b1 at *
  generalize Lib.hasPrefix s.data.toList [45, 62] = b2 at *
  generalize Lib.indexByte signs s[0] = i at *
  generalize signLen s.data.toList = n at *
  have HC1 : Hid (∀ wx, Calls Tryz.prog 197 #[.string s, .string ⟨#[58, 61]⟩] wx fun e w' => e = .returned (.bool b1) ∧ w' = wx) := hc1
  have HC2 : Hid (∀ wx, Calls Tryz.prog 197 #[.string s, .string ⟨#[45, 62]⟩] wx fun e w' => e = .returned (.bool b2) ∧ w' = wx) := hc2
  have HC3 : Hid (∀ wx, Calls Tryz.prog 194 #[.string ⟨#[40, 41, 61, 60, 43, 45, 42, 47, 59, 124, 33, 46, 95]⟩, .int .u8 s[0].toNat] wx fun e w' => e = .returned (.int .i64 i) ∧ w' = wx) := hc3
  have HR : Hid ((n : Int) = if b1 = true ∨ b2 = true then 2 else if 0 ≤ i then 1 else 0) := hr
  clear hc1 hc2 hc3 hr
  cases b1
  · cases b2
    · by_cases h : 0 ≤ i
      all_goals
        go_enter Tryz.func138, Tryz.ntmps138
        go_wp2_with fail
        refine (HC1.out _).mono ?_; rintro e w' ⟨rfl, rfl⟩
        go_wp2_with fail
        refine (HC2.out _).mono ?_; rintro e w' ⟨rfl, rfl⟩
        go_wp2_with fail
        refine (HC3.out _).mono ?_; rintro e w' ⟨rfl, rfl⟩
        go_wp2_with fail
        go_ret
        exact ⟨ret_int (by rw [HR.out]; simp [h]), rfl⟩
    · go_enter Tryz.func138, Tryz.ntmps138
      go_wp2_with fail
      refine (HC1.out _).mono ?_; rintro e w' ⟨rfl, rfl⟩
      go_wp2_with fail
      refine (HC2.out _).mono ?_; rintro e w' ⟨rfl, rfl⟩
      go_wp2_with fail
      go_ret
      exact ⟨ret_int (by rw [HR.out]; simp), rfl⟩
  · go_enter Tryz.func138, Tryz.ntmps138
    go_wp2_with fail
    refine (HC1.out _).mono ?_; rintro e w' ⟨rfl, rfl⟩
    go_wp2_with fail
    go_ret
    exact ⟨ret_int (by rw [HR.out]; simp), rfl⟩

end Go.Proofs.YtnocnkblhjifjaaGreatDoor
/-
  lex.gapLength and lex.tokenLength by their contracts.
-/
namespace Go.Proofs.YtnocnkblhjifjaaGreatDoor
open Go.RowKit

theorem u8_ne {c : UInt8} {n : Nat} (hn : n < 256) (h : ((c.toNat : Int) == (n : Int)) = false) : c ≠ UInt8.ofNat n := by
  intro e; subst e
  simp at h; omega

set_option maxHeartbeats 1000000 in
theorem gapLength_any (s : ByteArray) (w : World) (hs : s.size ≤ maxLen) :
    Calls Tryz.prog 75 #[.string s] w fun e w' => e = .returned (.int .i64 (gap false s.data.toList)) ∧ w' = w := by
  unfold maxLen at hs
  go_enter Tryz.func75, Tryz.ntmps75
  go_wp2
  go_loop [3] (fun i => ∃ k : Nat, k ≤ s.size ∧ i = .int .i64 k ∧ Hid (gap false s.data.toList = k + gap false (s.data.toList.drop k))) (fun i => s.size - (intOf i).toNat)
  case atStart => exact ⟨0, Nat.zero_le _, rfl, show gap _ _ = _ by simp⟩
  case round =>
    obtain ⟨k, hk, rfl, H⟩ := hrel
    by_cases hlt : k < s.size
    · have hl : s.data.toList.length = s.size := rfl
      have hg : s.data.toList[k] = s[k] := rfl
      cases hb : blankB s[k].toNat
      · have hb' : ((s[k].toNat : Int) == 32) = false ∧ ((s[k].toNat : Int) == 9) = false ∧ ((s[k].toNat : Int) == 10) = false := by
          simp only [blankB, Bool.or_eq_false_iff] at hb; exact ⟨hb.1.1, hb.1.2, hb.2⟩
        obtain ⟨h32, h9, h10⟩ := hb'
        cases h35 : ((s[k].toNat : Int) == 35)
        · have HO : Hid (gap false (s.data.toList.drop k) = 0) := gap_other s.data.toList k hlt hb (u8_ne (n := 35) (by omega) h35)
          clear hl hg hb
          go_wp2
          go_ret
          exact ⟨ret_int (by rw [H.out, HO.out]; simp), rfl⟩
        · have hc35 : s[k] = 35 := by
            rw [beq_iff_eq] at h35
            exact UInt8.toNat_inj.1 (by rw [show (35 : UInt8).toNat = 35 from rfl]; omega)
          have hr := gap_remark s.data.toList k hlt hc35
          have hle := cnt_le no10B (s.data.toList.drop k)
          rw [List.length_drop, hl] at hle
          have hc : ∀ wx, Calls Tryz.prog 129 #[.string (s.extract k s.size)] wx fun e w' => e = .returned (.int .i64 (cnt no10B (s.data.toList.drop k))) ∧ w' = wx := fun wx => by
            have := remarkLength_any (s.extract k s.size) wx; rw [Lib.extract_to_end] at this; exact this
          clear hc35 hg hl hb
          generalize cnt no10B (s.data.toList.drop k) = n at *
          have HR : Hid (gap false (s.data.toList.drop k) = n + gap false (s.data.toList.drop (k + n))) := hr.1
          have hn1 := hr.2
          have HC : Hid (∀ wx, Calls Tryz.prog 129 #[.string (s.extract k s.size)] wx fun e w' => e = .returned (.int .i64 n) ∧ w' = wx) := hc
          clear hc hr
          go_wp2_with (go_at_call 129; refine (HC.out _).mono ?_; rintro e w' ⟨rfl, rfl⟩)
          go_round
          case rel => exact ⟨k + n, by omega, by go_num, show gap _ _ = _ by rw [H.out, HR.out]; omega⟩
          case measure => simp [intOf]; omega
      · have HB : Hid (gap false (s.data.toList.drop k) = 1 + gap false (s.data.toList.drop (k + 1))) := gap_blank s.data.toList k hlt hb
        have hb' : ((s[k].toNat : Int) == 32) = true ∨ (((s[k].toNat : Int) == 32) = false ∧ ((s[k].toNat : Int) == 9) = true) ∨ (((s[k].toNat : Int) == 32) = false ∧ ((s[k].toNat : Int) == 9) = false ∧ ((s[k].toNat : Int) == 10) = true) := by
          simp only [blankB] at hb
          revert hb
          cases ((s[k].toNat : Int) == 32) <;> cases ((s[k].toNat : Int) == 9) <;> cases ((s[k].toNat : Int) == 10) <;> simp
        clear hl hg hb
        rcases hb' with h32 | ⟨h32, h9⟩ | ⟨h32, h9, h10⟩
        all_goals
          go_wp2
          go_round
          case rel => exact ⟨k + 1, by omega, by go_num, show gap _ _ = _ by rw [H.out, HB.out]; omega⟩
          case measure => simp [intOf]; omega
    · go_wp2
      go_ret
      exact ⟨ret_int (by rw [H.out, gap_end _ _ (show s.size ≤ k by omega)]; simp), rfl⟩

set_option maxHeartbeats 400000 in
theorem tokenLength_any (s : ByteArray) (w : World) (hs : s.size ≤ maxLen) (hp : 0 < s.size) :
    Calls Tryz.prog 76 #[.string s] w fun e w' => e = .returned (.int .i64 (tokLen s.data.toList)) ∧ w' = w := by
  have ht : tokLen s.data.toList = bif smallB s[0].toNat then nameLen s.data.toList else bif greatB s[0].toNat then cnt conB s.data.toList else bif digitB s[0].toNat then numLen s.data.toList else if s[0] = 39 then letterLen s.data.toList else signLen s.data.toList := by
    obtain ⟨r, e⟩ : ∃ r, s.data.toList = s[0] :: r := ⟨_, head_cons s hp⟩
    rw [e]; rfl
  generalize tokLen s.data.toList = R at *
  have HT : Hid (R = bif smallB s[0].toNat then nameLen s.data.toList else bif greatB s[0].toNat then cnt conB s.data.toList else bif digitB s[0].toNat then numLen s.data.toList else if s[0] = 39 then letterLen s.data.toList else signLen s.data.toList) := ht
  clear ht
  cases h1 : smallB s[0].toNat
  · cases h2 : greatB s[0].toNat
    · cases h3 : digitB s[0].toNat
      · cases h4 : ((s[0].toNat : Int) == 39)
        · go_enter Tryz.func76, Tryz.ntmps76
          go_wp2_with (first | (go_at_call 130; refine (isSmall_any _ _).mono ?_; rintro e w' ⟨rfl, rfl⟩) | (go_at_call 132; refine (isGreat_any _ _).mono ?_; rintro e w' ⟨rfl, rfl⟩) | (go_at_call 135; refine (isDigit_any _ _).mono ?_; rintro e w' ⟨rfl, rfl⟩) | (go_at_call 138; refine (signLength_any _ _ hp).mono ?_; rintro e w' ⟨rfl, rfl⟩))
          go_ret
          exact ⟨ret_int (by rw [HT.out, h1, h2, h3]; simp [if_neg (show ¬ s[0] = 39 from u8_ne (n := 39) (by omega) h4)]), rfl⟩
        · have h5 : s[0] = 39 := by
            rw [beq_iff_eq] at h4
            exact UInt8.toNat_inj.1 (by rw [show (39 : UInt8).toNat = 39 from rfl]; omega)
          have H5 : Hid (s[0] = 39) := h5
          clear h5
          go_enter Tryz.func76, Tryz.ntmps76
          go_wp2_with (first | (go_at_call 130; refine (isSmall_any _ _).mono ?_; rintro e w' ⟨rfl, rfl⟩) | (go_at_call 132; refine (isGreat_any _ _).mono ?_; rintro e w' ⟨rfl, rfl⟩) | (go_at_call 135; refine (isDigit_any _ _).mono ?_; rintro e w' ⟨rfl, rfl⟩) | (go_at_call 137; refine (letterLength_any _ _ hs hp).mono ?_; rintro e w' ⟨rfl, rfl⟩))
          go_ret
          exact ⟨ret_int (by rw [HT.out, h1, h2, h3]; simp [H5.out]), rfl⟩
      · go_enter Tryz.func76, Tryz.ntmps76
        go_wp2_with (first | (go_at_call 130; refine (isSmall_any _ _).mono ?_; rintro e w' ⟨rfl, rfl⟩) | (go_at_call 132; refine (isGreat_any _ _).mono ?_; rintro e w' ⟨rfl, rfl⟩) | (go_at_call 135; refine (isDigit_any _ _).mono ?_; rintro e w' ⟨rfl, rfl⟩) | (go_at_call 136; refine (numberLength_any _ _ hs).mono ?_; rintro e w' ⟨rfl, rfl⟩))
        go_ret
        exact ⟨ret_int (by rw [HT.out, h1, h2, h3]; simp), rfl⟩
    · go_enter Tryz.func76, Tryz.ntmps76
      go_wp2_with (first | (go_at_call 130; refine (isSmall_any _ _).mono ?_; rintro e w' ⟨rfl, rfl⟩) | (go_at_call 132; refine (isGreat_any _ _).mono ?_; rintro e w' ⟨rfl, rfl⟩) | (go_at_call 133; refine (countWhile_isConstructorByte _ _ hs).mono ?_; rintro e w' ⟨rfl, rfl⟩))
      go_ret
      exact ⟨ret_int (by rw [HT.out, h1, h2]; simp), rfl⟩
  · go_enter Tryz.func76, Tryz.ntmps76
    go_wp2_with (first | (go_at_call 130; refine (isSmall_any _ _).mono ?_; rintro e w' ⟨rfl, rfl⟩) | (go_at_call 131; refine (nameLength_any _ _ hs).mono ?_; rintro e w' ⟨rfl, rfl⟩))
    go_ret
    exact ⟨ret_int (by rw [HT.out, h1]; simp), rfl⟩

end Go.Proofs.YtnocnkblhjifjaaGreatDoor
/-
  lex.Cut by its contract: what it answers is what the plain function cutL says; the tokens lie in memory of their own; of what was there nothing has turned.
-/
namespace Go.Proofs.YtnocnkblhjifjaaGreatDoor
open Go.RowKit

theorem Tryz.infoStr : (Tryz.prog.info? 9).map (fun i => (i.zero, i.size, i.bytes)) = some (some (.string ByteArray.empty), 1, 16) := by kernel_rfl

set_option maxHeartbeats 400000 in
theorem Clone_any (s : ByteArray) (w : World) (hs : s.size ≤ 281474976710656) :
    Calls Tryz.prog 77 #[.string s] w fun e w' => e = .returned (.string s) ∧ Below w.heap.size w w' := by
  go_enter Tryz.func77, Tryz.ntmps77
  go_wp2_with (go_at_call 139; refine (Tryz.stringslite_Clone _ _ hs).mono ?_; rintro e w' ⟨rfl, hb⟩)
  go_ret
  exact ⟨rfl, hb⟩

set_option maxHeartbeats 1000000 in
theorem Cut_any (s : ByteArray) (w : World) (hs : s.size ≤ maxLen) :
    Calls Tryz.prog 49 #[.string s] w fun e w' => ∃ v, e = .returned (.tuple #[v, .int .i64 (cutL s.data.toList).2.1, .int .i64 (cutL s.data.toList).2.2]) ∧
      w'.ownsRow w.heap.size 9 1 v (cutL s.data.toList).1.length ((cutL s.data.toList).1.map strV) ∧ Below w.heap.size w w' := by
  have hs' : s.size ≤ 9223372036854775807 := hs
  by_cases hbig : 4000 < s.size
  · have hR : cutL s.data.toList = ([], 0, 1) := by
      unfold cutL; rw [if_pos (show 4000 < s.data.toList.length from hbig)]
    rw [hR]
    go_enter Tryz.func49, Tryz.ntmps49
    go_wp2
    go_ret3
    exact ⟨_, rfl, World.ownsRow_nil _ _ _ _, Below.refl _ _⟩
  · have hR : cutL s.data.toList = cutF (s.data.toList.length + 1) s.data.toList 0 [] := by
      unfold cutL; rw [if_neg (show ¬ 4000 < s.data.toList.length from hbig)]
    have hst := atHead_start s.data.toList
    rw [← hR] at hst
    have hgl := gap_le false s.data.toList
    have hc0 : ∀ wx, Calls Tryz.prog 75 #[.string s] wx fun e w' => e = .returned (.int .i64 (gap false s.data.toList)) ∧ w' = wx := fun wx => gapLength_any s wx hs
    have hgl' : gap false s.data.toList ≤ s.size := hgl
    clear hgl hR
    generalize cutL s.data.toList = R at *
    generalize gap false s.data.toList = G0 at *
    have HC0 : Hid (∀ wx, Calls Tryz.prog 75 #[.string s] wx fun e w' => e = .returned (.int .i64 G0) ∧ w' = wx) := hc0
    have HST : Hid (AtHead s.data.toList R G0 []) := hst
    clear hc0 hst
    obtain ⟨i0, hi, hz0, hz1, hz2⟩ := info_parts Tryz.infoStr
    have hb4 : decide ((4000 : Int) < s.size) = false := by simp; omega
    go_enter Tryz.func49, Tryz.ntmps49
    go_wp2_with (go_at_call 75; refine (HC0.out _).mono ?_; rintro e w' ⟨rfl, hw'⟩; subst w')
    go_loopw [5, 6] (fun v i wr => ∃ (k : Nat) (toks : List (List UInt8)), k ≤ s.size ∧ i = .int .i64 k ∧ toks.length ≤ k ∧ wr.ownsRow w.heap.size 9 1 v toks.length (toks.map strV) ∧ Below w.heap.size w wr ∧ Hid (AtHead s.data.toList R k toks))
      (fun _ i _ => s.size - (intOf i).toNat)
    case atStart => exact ⟨G0, [], hgl', rfl, Nat.zero_le _, World.ownsRow_nil _ _ _ _, Below.refl _ _, HST⟩
    case round =>
      obtain ⟨k, toks, hk, rfl, htl, hown, hbel, H⟩ := hrel
      by_cases hlt : k < s.size
      · have hlt' : k < s.data.toList.length := hlt
        have hc1 : ∀ wx, Calls Tryz.prog 76 #[.string (s.extract k s.size)] wx fun e w' => e = .returned (.int .i64 (tokLen (s.data.toList.drop k))) ∧ w' = wx := fun wx => by
          have := tokenLength_any (s.extract k s.size) wx (by simp; omega) (by simp; omega)
          rw [Lib.extract_to_end] at this; exact this
        have hT := tokLen_le (s.data.toList.drop k)
        have hTs : tokLen (s.data.toList.drop k) ≤ s.size - k := by simpa using hT
        clear hT
        by_cases ht : tokLen (s.data.toList.drop k) = 0
        · have hR := atHead_bad H.out hlt' ht
          rw [ht] at hc1
          have HC1 : Hid (∀ wx, Calls Tryz.prog 76 #[.string (s.extract k s.size)] wx fun e w' => e = .returned (.int .i64 0) ∧ w' = wx) := hc1
          have HR : Hid (R = ([], k, 2)) := hR
          clear hc1 hR hlt' ht hTs
          go_wp2_with (go_at_call 76; refine (HC1.out _).mono ?_; rintro e w' ⟨rfl, hw'⟩; subst w')
          go_ret3
          rw [HR.out]
          exact ⟨_, rfl, World.ownsRow_nil _ _ _ _, hbel⟩
        · have hA := atHead_tok H.out hlt' ht
          have hc3 : ∀ wx, Calls Tryz.prog 75 #[.string (s.extract (k + tokLen (s.data.toList.drop k)) s.size)] wx fun e w' => e = .returned (.int .i64 (gap false (s.data.toList.drop (k + tokLen (s.data.toList.drop k))))) ∧ w' = wx := fun wx => by
            have := gapLength_any (s.extract (k + tokLen (s.data.toList.drop k)) s.size) wx (by simp; omega)
            rw [Lib.extract_to_end] at this; exact this
          have hG := gap_le false (s.data.toList.drop (k + tokLen (s.data.toList.drop k)))
          rw [List.length_drop, show s.data.toList.length = s.size from rfl] at hG
          have hst := bs_extract s k (k + tokLen (s.data.toList.drop k))
          rw [Nat.add_sub_cancel_left] at hst
          generalize gap false (s.data.toList.drop (k + tokLen (s.data.toList.drop k))) = G at *
          generalize (s.data.toList.drop k).take (tokLen (s.data.toList.drop k)) = tk at *
          generalize tokLen (s.data.toList.drop k) = T at *
          have HC1 : Hid (∀ wx, Calls Tryz.prog 76 #[.string (s.extract k s.size)] wx fun e w' => e = .returned (.int .i64 T) ∧ w' = wx) := hc1
          have HC3 : Hid (∀ wx, Calls Tryz.prog 75 #[.string (s.extract (k + T) s.size)] wx fun e w' => e = .returned (.int .i64 G) ∧ w' = wx) := hc3
          have HA : Hid (AtHead s.data.toList R (k + T + G) (toks ++ [tk])) := hA
          have HS : Hid (s.extract k (k + T) = bs tk) := hst
          have hcl : (s.extract k (k + T)).size ≤ 281474976710656 := by simp; omega
          have hb0 : ((T : Int) == 0) = false := by simp [ht]
          clear hc1 hc3 hA hst hlt'
          go_wp2_with fail
          refine (HC1.out _).mono ?_; rintro e w' ⟨rfl, hw'⟩; subst w'
          go_wp2_with fail
          refine (Clone_any _ _ hcl).mono ?_; rintro e w1 ⟨rfl, hb1⟩
          have hown1 := ownsRow_below hown hb1
          have hbel1 : Below w.heap.size w w1 := hbel.trans (hb1.mono hbel.size)
          clear hown hbel hb1
          go_wp2_with (at_builtin; refine wpList_append_own _ rfl _ _ 22 rfl w.heap.size 9 i0 (.string ByteArray.empty) 1 16 Tryz.underlying22 hi hz0 hz1 hz2 rfl (by decide) _ _ _ rfl (hown1.alloc _) ⟨w1.heap.size, 0, none⟩ 1 1 [.string (s.extract k (k + T))] rfl rfl ?c1 ?c2 ?c3 ?c4 ?c5 ?_)
          case c1 => exact cell_one_new _ _ _
          case c2 => intro u hu; simp at hu; subst hu; rfl
          case c3 => unfold maxLen; omega
          case c4 => omega
          case c5 => have := hbel1.size; simp; omega
          · intro v' w2 hown' hgrow _
            have hbel2 : Below w.heap.size w w2 := (hbel1.alloc hbel1.size _).grown hgrow (by have := hbel1.size; simp; omega) (fun g hg => (hown1.lt g hg).1)
            have hown2 : w2.ownsRow w.heap.size 9 1 v' (toks ++ [tk]).length ((toks ++ [tk]).map strV) := by
              rw [List.length_append, List.map_append]
              rw [HS.out] at hown'
              exact hown'
            clear hown' hgrow hown1 hbel1
            go_wp2_with (go_at_call 75; refine (HC3.out _).mono ?_; rintro e w' ⟨rfl, hw'⟩; subst w')
            go_roundw
            case rel => exact ⟨k + T + G, toks ++ [tk], by omega, by go_num, by simp; omega, hown2, hbel2, HA⟩
            case measure => simp [intOf]; omega
      · have hR := atHead_end H.out (show s.size ≤ k by omega)
        have HR : Hid (R = (toks, 0, 0)) := hR
        clear hR
        go_wp2
        go_ret3
        rw [HR.out]
        exact ⟨_, rfl, hown, hbel⟩

end Go.Proofs.YtnocnkblhjifjaaGreatDoor
