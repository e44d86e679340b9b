/-
  lex.gapLength and lex.tokenLength by their contracts.
-/
import Derived.Test.YtnocnkblhjifjaaLetter
import Derived.Test.YtnocnkblhjifjaaPlain2
namespace Go.Proofs.Ytnocnkblhjifjaa
open Go.RowKit

theorem u8_ne {c : UInt8} {n : Nat} (hn : n < 256) (h : ((c.toNat : Int) == (n : Int)) = false) : c ≠ UInt8.ofNat n := by
  intro e; subst e
  simp at h; omega

set_option maxHeartbeats 1000000 in
theorem gapLength_any (s : ByteArray) (w : World) (hs : s.size ≤ maxLen) :
    Calls Try.prog 13 #[.string s] w fun e w' => e = .returned (.int .i64 (gap false s.data.toList)) ∧ w' = w := by
  unfold maxLen at hs
  go_enter Try.func13, Try.ntmps13
  go_wp2
  go_loop [3] (fun i => ∃ k : Nat, k ≤ s.size ∧ i = .int .i64 k ∧ Hid (gap false s.data.toList = k + gap false (s.data.toList.drop k))) (fun i => s.size - (intOf i).toNat)
  case atStart => exact ⟨0, Nat.zero_le _, rfl, show gap _ _ = _ by simp⟩
  case round =>
    obtain ⟨k, hk, rfl, H⟩ := hrel
    by_cases hlt : k < s.size
    · have hl : s.data.toList.length = s.size := rfl
      have hg : s.data.toList[k] = s[k] := rfl
      cases hb : blankB s[k].toNat
      · have hb' : ((s[k].toNat : Int) == 32) = false ∧ ((s[k].toNat : Int) == 9) = false ∧ ((s[k].toNat : Int) == 10) = false := by
          simp only [blankB, Bool.or_eq_false_iff] at hb; exact ⟨hb.1.1, hb.1.2, hb.2⟩
        obtain ⟨h32, h9, h10⟩ := hb'
        cases h35 : ((s[k].toNat : Int) == 35)
        · have HO : Hid (gap false (s.data.toList.drop k) = 0) := gap_other s.data.toList k hlt hb (u8_ne (n := 35) (by omega) h35)
          clear hl hg hb
          go_wp2
          go_ret
          exact ⟨ret_int (by rw [H.out, HO.out]; simp), rfl⟩
        · have hc35 : s[k] = 35 := by
            rw [beq_iff_eq] at h35
            exact UInt8.toNat_inj.1 (by rw [show (35 : UInt8).toNat = 35 from rfl]; omega)
          have hr := gap_remark s.data.toList k hlt hc35
          have hle := cnt_le no10B (s.data.toList.drop k)
          rw [List.length_drop, hl] at hle
          have hc : ∀ wx, Calls Try.prog 17 #[.string (s.extract k s.size)] wx fun e w' => e = .returned (.int .i64 (cnt no10B (s.data.toList.drop k))) ∧ w' = wx := fun wx => by
            have := remarkLength_any (s.extract k s.size) wx; rw [Lib.extract_to_end] at this; exact this
          clear hc35 hg hl hb
          generalize cnt no10B (s.data.toList.drop k) = n at *
          have HR : Hid (gap false (s.data.toList.drop k) = n + gap false (s.data.toList.drop (k + n))) := hr.1
          have hn1 := hr.2
          have HC : Hid (∀ wx, Calls Try.prog 17 #[.string (s.extract k s.size)] wx fun e w' => e = .returned (.int .i64 n) ∧ w' = wx) := hc
          clear hc hr
          go_wp2_with (go_at_call 17; refine (HC.out _).mono ?_; rintro e w' ⟨rfl, rfl⟩)
          go_round
          case rel => exact ⟨k + n, by omega, by go_num, show gap _ _ = _ by rw [H.out, HR.out]; omega⟩
          case measure => simp [intOf]; omega
      · have HB : Hid (gap false (s.data.toList.drop k) = 1 + gap false (s.data.toList.drop (k + 1))) := gap_blank s.data.toList k hlt hb
        have hb' : ((s[k].toNat : Int) == 32) = true ∨ (((s[k].toNat : Int) == 32) = false ∧ ((s[k].toNat : Int) == 9) = true) ∨ (((s[k].toNat : Int) == 32) = false ∧ ((s[k].toNat : Int) == 9) = false ∧ ((s[k].toNat : Int) == 10) = true) := by
          simp only [blankB] at hb
          revert hb
          cases ((s[k].toNat : Int) == 32) <;> cases ((s[k].toNat : Int) == 9) <;> cases ((s[k].toNat : Int) == 10) <;> simp
        clear hl hg hb
        rcases hb' with h32 | ⟨h32, h9⟩ | ⟨h32, h9, h10⟩
        all_goals
          go_wp2
          go_round
          case rel => exact ⟨k + 1, by omega, by go_num, show gap _ _ = _ by rw [H.out, HB.out]; omega⟩
          case measure => simp [intOf]; omega
    · go_wp2
      go_ret
      exact ⟨ret_int (by rw [H.out, gap_end _ _ (show s.size ≤ k by omega)]; simp), rfl⟩

set_option maxHeartbeats 400000 in
theorem tokenLength_any (s : ByteArray) (w : World) (hs : s.size ≤ maxLen) (hp : 0 < s.size) :
    Calls Try.prog 14 #[.string s] w fun e w' => e = .returned (.int .i64 (tokLen s.data.toList)) ∧ w' = w := by
  have ht : tokLen s.data.toList = bif smallB s[0].toNat then nameLen s.data.toList else bif greatB s[0].toNat then cnt conB s.data.toList else bif digitB s[0].toNat then numLen s.data.toList else if s[0] = 39 then letterLen s.data.toList else signLen s.data.toList := by
    obtain ⟨r, e⟩ : ∃ r, s.data.toList = s[0] :: r := ⟨_, head_cons s hp⟩
    rw [e]; rfl
  generalize tokLen s.data.toList = R at *
  have HT : Hid (R = bif smallB s[0].toNat then nameLen s.data.toList else bif greatB s[0].toNat then cnt conB s.data.toList else bif digitB s[0].toNat then numLen s.data.toList else if s[0] = 39 then letterLen s.data.toList else signLen s.data.toList) := ht
  clear ht
  cases h1 : smallB s[0].toNat
  · cases h2 : greatB s[0].toNat
    · cases h3 : digitB s[0].toNat
      · cases h4 : ((s[0].toNat : Int) == 39)
        · go_enter Try.func14, Try.ntmps14
          go_wp2_with (first | (go_at_call 18; refine (isSmall_any _ _).mono ?_; rintro e w' ⟨rfl, rfl⟩) | (go_at_call 20; refine (isGreat_any _ _).mono ?_; rintro e w' ⟨rfl, rfl⟩) | (go_at_call 23; refine (isDigit_any _ _).mono ?_; rintro e w' ⟨rfl, rfl⟩) | (go_at_call 26; refine (signLength_any _ _ hp).mono ?_; rintro e w' ⟨rfl, rfl⟩))
          go_ret
          exact ⟨ret_int (by rw [HT.out, h1, h2, h3]; simp [if_neg (show ¬ s[0] = 39 from u8_ne (n := 39) (by omega) h4)]), rfl⟩
        · have h5 : s[0] = 39 := by
            rw [beq_iff_eq] at h4
            exact UInt8.toNat_inj.1 (by rw [show (39 : UInt8).toNat = 39 from rfl]; omega)
          have H5 : Hid (s[0] = 39) := h5
          clear h5
          go_enter Try.func14, Try.ntmps14
          go_wp2_with (first | (go_at_call 18; refine (isSmall_any _ _).mono ?_; rintro e w' ⟨rfl, rfl⟩) | (go_at_call 20; refine (isGreat_any _ _).mono ?_; rintro e w' ⟨rfl, rfl⟩) | (go_at_call 23; refine (isDigit_any _ _).mono ?_; rintro e w' ⟨rfl, rfl⟩) | (go_at_call 25; refine (letterLength_any _ _ hs hp).mono ?_; rintro e w' ⟨rfl, rfl⟩))
          go_ret
          exact ⟨ret_int (by rw [HT.out, h1, h2, h3]; simp [H5.out]), rfl⟩
      · go_enter Try.func14, Try.ntmps14
        go_wp2_with (first | (go_at_call 18; refine (isSmall_any _ _).mono ?_; rintro e w' ⟨rfl, rfl⟩) | (go_at_call 20; refine (isGreat_any _ _).mono ?_; rintro e w' ⟨rfl, rfl⟩) | (go_at_call 23; refine (isDigit_any _ _).mono ?_; rintro e w' ⟨rfl, rfl⟩) | (go_at_call 24; refine (numberLength_any _ _ hs).mono ?_; rintro e w' ⟨rfl, rfl⟩))
        go_ret
        exact ⟨ret_int (by rw [HT.out, h1, h2, h3]; simp), rfl⟩
    · go_enter Try.func14, Try.ntmps14
      go_wp2_with (first | (go_at_call 18; refine (isSmall_any _ _).mono ?_; rintro e w' ⟨rfl, rfl⟩) | (go_at_call 20; refine (isGreat_any _ _).mono ?_; rintro e w' ⟨rfl, rfl⟩) | (go_at_call 21; refine (countWhile_isConstructorByte _ _ hs).mono ?_; rintro e w' ⟨rfl, rfl⟩))
      go_ret
      exact ⟨ret_int (by rw [HT.out, h1, h2]; simp), rfl⟩
  · go_enter Try.func14, Try.ntmps14
    go_wp2_with (first | (go_at_call 18; refine (isSmall_any _ _).mono ?_; rintro e w' ⟨rfl, rfl⟩) | (go_at_call 19; refine (nameLength_any _ _ hs).mono ?_; rintro e w' ⟨rfl, rfl⟩))
    go_ret
    exact ⟨ret_int (by rw [HT.out, h1]; simp), rfl⟩

end Go.Proofs.Ytnocnkblhjifjaa
