/-
  kilnref.next at a letter.
-/
import Derived.Test.YtnocnkblhjifjaaRefNext
namespace Go.Proofs.Ytnocnkblhjifjaa
open Go.RowKit

theorem c39 {c : UInt8} (h : ((c.toNat : Int) == 39) = true) : c = 39 := by
  rw [beq_iff_eq] at h
  exact UInt8.toNat_inj.1 (by rw [show (39 : UInt8).toNat = 39 from rfl]; omega)

theorem quote_bs (tk : List UInt8) : (⟨#[39]⟩ : ByteArray) ++ bs tk = bs (39 :: tk) := by
  apply ByteArray.ext
  simp [bs]

set_option maxHeartbeats 1000000 in
theorem next_letter (s : ByteArray) (i : Nat) (w : World) (hs : s.size ≤ maxLen) (hi : i < s.size) (h1 : smallB s[i].toNat = false) (h2 : greatB s[i].toNat = false) (h3 : digitB s[i].toNat = false) (h4 : ((s[i].toNat : Int) == 39) = true) : NextSaid s i w := by
  unfold NextSaid
  have hs' : s.size ≤ 9223372036854775807 := hs
  have hc1 := fun wx => in_at_smallK s[i] wx
  rw [h1] at hc1
  have hc2 := fun wx => in_at_greatK s[i] wx
  rw [h2] at hc2
  have hc3 := fun wx => in_at_digitK s[i] wx
  rw [h3] at hc3
  have hc4 : ∀ wx, Calls Try.prog 34 #[.string s, .int .i64 ((i : Int) + 1), .string ⟨#[97, 98, 99, 100, 101, 102, 103, 104, 105, 106, 107, 108, 109, 110, 111, 112, 113, 114, 115, 116, 117, 118, 119, 120, 121, 122, 48, 49, 50, 51, 52, 53, 54, 55, 56, 57, 95]⟩] wx fun e w' => e = .returned (.int .i64 ((i : Int) + 1 + (cnt nameB (s.data.toList.drop (i + 1)) : Int))) ∧ w' = wx := fun wx => by
    have := span_at_nameK s (i + 1) wx hs (by omega)
    simp only [Int.natCast_add] at this; exact this
  have hc0 := c39 h4
  have hT : tokLen (s.data.toList.drop i) = letterLen (s.data.toList.drop i) := by rw [drop_cons s i hi]; simp only [tokLen, h1, h2, h3, cond_false]; rw [if_pos hc0]
  have hK : tokKind (s.data.toList.drop i) = if letterLen (s.data.toList.drop i) = 0 then 0 else 108 := by rw [drop_cons s i hi]; simp only [tokKind, h1, h2, h3, cond_false]; rw [if_pos hc0]
  have hL : letterLen (s.data.toList.drop i) = bif nameLen (s.data.toList.drop (i + 1)) == 0 || wordL ((s.data.toList.drop (i + 1)).take (nameLen (s.data.toList.drop (i + 1)))) then 0 else 1 + nameLen (s.data.toList.drop (i + 1)) := by
    rw [drop_cons s i hi]; rfl
  have hle := cnt_le nameB (s.data.toList.drop (i + 1))
  rw [List.length_drop, show s.data.toList.length = s.size from rfl] at hle
  clear hc0
  by_cases hm : cnt nameB (s.data.toList.drop (i + 1)) = 0
  · have hn : nameLen (s.data.toList.drop (i + 1)) = 0 := by
      revert hm
      generalize s.data.toList.drop (i + 1) = r
      intro hm
      cases r with
      | nil => rfl
      | cons c t => simp only [nameLen, hm]; cases smallB c.toNat <;> rfl
    rw [hT, hK, hL, hn]
    clear hL hT hK hn
    rw [hm] at hc4
    have he : (s.extract (i + 1) (i + 1)).toList.isEmpty = true := by rw [ByteArray.toList_eq, Lib.extract_data]; simp
    have HC1 := hide hc1
    have HC2 := hide hc2
    have HC3 := hide hc3
    have HC4 := hide hc4
    clear hc1 hc2 hc3 hc4 hm hle
    go_enter Try.func29, Try.ntmps29
    go_wp2_with fail
    refine (HC1.out _).mono ?_; rintro e w' ⟨rfl, hw'⟩; subst w'
    go_wp2_with fail
    refine (HC2.out _).mono ?_; rintro e w' ⟨rfl, hw'⟩; subst w'
    go_wp2_with fail
    refine (HC3.out _).mono ?_; rintro e w' ⟨rfl, hw'⟩; subst w'
    go_wp2_with fail
    refine (HC4.out _).mono ?_; rintro e w' ⟨rfl, hw'⟩; subst w'
    go_wp2_with fail
    exact bodyPost_ret (v := .agg #[.int .u8 0, .string ⟨#[]⟩]) (by simp [results, Try.results29, go_sem]) rfl ⟨rfl, (Below.refl _ _).alloc (Nat.le_refl _) _⟩
  · have hi1 : i + 1 < s.size := by omega
    have hx := bs_extract s (i + 1) (i + 1 + cnt nameB (s.data.toList.drop (i + 1)))
    rw [Nat.add_sub_cancel_left] at hx
    have hpz : 0 < (s.extract (i + 1) (i + 1 + cnt nameB (s.data.toList.drop (i + 1)))).size := by simp; omega
    have he0 : (s.extract (i + 1) (i + 1 + cnt nameB (s.data.toList.drop (i + 1))))[0] = s[i + 1] := by
      simp [ByteArray.getElem_extract]
    have hc5 : ∀ wx, Calls Try.prog 28 #[.string ⟨#[97, 98, 99, 100, 101, 102, 103, 104, 105, 106, 107, 108, 109, 110, 111, 112, 113, 114, 115, 116, 117, 118, 119, 120, 121, 122]⟩, .int .u8 (s.extract (i + 1) (i + 1 + cnt nameB (s.data.toList.drop (i + 1))))[0].toNat] wx fun e w' => e = .returned (.bool (smallB s[i + 1].toNat)) ∧ w' = wx := fun wx => by rw [he0]; exact in_at_smallK s[i + 1] wx
    have hne : (s.extract (i + 1) (i + 1 + cnt nameB (s.data.toList.drop (i + 1)))).toList.isEmpty = false := by
      rw [ByteArray.toList_eq, head_cons _ hpz]; rfl
    clear he0
    have hn : nameLen (s.data.toList.drop (i + 1)) = bif smallB s[i + 1].toNat then cnt nameB (s.data.toList.drop (i + 1)) else 0 := by
      conv => lhs; rw [drop_cons s (i + 1) hi1]
      simp only [nameLen]
      rw [← drop_cons s (i + 1) hi1]
    rw [hn] at hL
    have hc6 := fun wx => word_any (s.extract (i + 1) (i + 1 + cnt nameB (s.data.toList.drop (i + 1)))) wx
    rw [show (s.extract (i + 1) (i + 1 + cnt nameB (s.data.toList.drop (i + 1)))).data.toList = _ from by rw [hx, bs_data]] at hc6
    clear hn
    generalize smallB s[i + 1].toNat = b at *
    cases b
    · have hL0 : letterLen (s.data.toList.drop i) = 0 := by rw [hL]; rfl
      rw [hT, hK, hL0]
      clear hL hL0 hT hK
      generalize cnt nameB (s.data.toList.drop (i + 1)) = m at *
      have HC1 := hide hc1
      have HC2 := hide hc2
      have HC3 := hide hc3
      have HC4 := hide hc4
      have HC5 := hide hc5
      clear hc1 hc2 hc3 hc4 hc5 hc6 hx
      go_enter Try.func29, Try.ntmps29
      go_wp2_with fail
      refine (HC1.out _).mono ?_; rintro e w' ⟨rfl, hw'⟩; subst w'
      go_wp2_with fail
      refine (HC2.out _).mono ?_; rintro e w' ⟨rfl, hw'⟩; subst w'
      go_wp2_with fail
      refine (HC3.out _).mono ?_; rintro e w' ⟨rfl, hw'⟩; subst w'
      go_wp2_with fail
      refine (HC4.out _).mono ?_; rintro e w' ⟨rfl, hw'⟩; subst w'
      go_wp2_with fail
      refine (HC5.out _).mono ?_; rintro e w' ⟨rfl, hw'⟩; subst w'
      go_wp2_with fail
      exact bodyPost_ret (v := .agg #[.int .u8 0, .string ⟨#[]⟩]) (by simp [results, Try.results29, go_sem]) rfl ⟨rfl, (Below.refl _ _).alloc (Nat.le_refl _) _⟩
    · simp only [cond_true] at hL
      have htx : (s.data.toList.drop i).take (1 + cnt nameB (s.data.toList.drop (i + 1))) = 39 :: (s.data.toList.drop (i + 1)).take (cnt nameB (s.data.toList.drop (i + 1))) := by
        rw [drop_cons s i hi, Nat.add_comm, List.take_succ_cons, c39 h4]
      have hm0 : (cnt nameB (s.data.toList.drop (i + 1)) == 0) = false := by simpa using hm
      rw [hm0] at hL
      clear hm0
      generalize wordL ((s.data.toList.drop (i + 1)).take (cnt nameB (s.data.toList.drop (i + 1)))) = d at *
      generalize (s.data.toList.drop (i + 1)).take (cnt nameB (s.data.toList.drop (i + 1))) = tk at *
      generalize cnt nameB (s.data.toList.drop (i + 1)) = m at *
      have HC1 := hide hc1
      have HC2 := hide hc2
      have HC3 := hide hc3
      have HC4 := hide hc4
      have HC5 := hide hc5
      have HC6 := hide hc6
      have HX := hide hx
      clear hc1 hc2 hc3 hc4 hc5 hc6 hx
      cases d
      · have hL1 : letterLen (s.data.toList.drop i) = 1 + m := by rw [hL]; rfl
        rw [hT, hK, hL1, if_neg (by omega), htx]
        clear htx hL hL1 hT hK
        go_enter Try.func29, Try.ntmps29
        go_wp2_with fail
        refine (HC1.out _).mono ?_; rintro e w' ⟨rfl, hw'⟩; subst w'
        go_wp2_with fail
        refine (HC2.out _).mono ?_; rintro e w' ⟨rfl, hw'⟩; subst w'
        go_wp2_with fail
        refine (HC3.out _).mono ?_; rintro e w' ⟨rfl, hw'⟩; subst w'
        go_wp2_with fail
        refine (HC4.out _).mono ?_; rintro e w' ⟨rfl, hw'⟩; subst w'
        go_wp2_with fail
        refine (HC5.out _).mono ?_; rintro e w' ⟨rfl, hw'⟩; subst w'
        go_wp2_with fail
        refine (HC6.out _).mono ?_; rintro e w1 ⟨rfl, hb1⟩
        obtain ⟨hc, hf⟩ := bcell hb1
        have hz : w.heap.size < w1.heap.size := by have := hb1.size; simp at this; omega
        go_wp2_with fail
        exact bodyPost_ret (v := .agg #[.int .u8 108, .string (⟨#[39]⟩ ++ s.extract (i + 1) (i + 1 + m))]) (by simp [results, Try.results29, go_sem, hc]) rfl ⟨by rw [HX.out, quote_bs], ((((Below.refl _ _).alloc (Nat.le_refl _) _).trans (hb1.mono (by simp))).setCell (by simp) _).setCell (by simp) _⟩
      · have hL0 : letterLen (s.data.toList.drop i) = 0 := by rw [hL]; rfl
        rw [hT, hK, hL0]
        clear htx hL hL0 hT hK
        go_enter Try.func29, Try.ntmps29
        go_wp2_with fail
        refine (HC1.out _).mono ?_; rintro e w' ⟨rfl, hw'⟩; subst w'
        go_wp2_with fail
        refine (HC2.out _).mono ?_; rintro e w' ⟨rfl, hw'⟩; subst w'
        go_wp2_with fail
        refine (HC3.out _).mono ?_; rintro e w' ⟨rfl, hw'⟩; subst w'
        go_wp2_with fail
        refine (HC4.out _).mono ?_; rintro e w' ⟨rfl, hw'⟩; subst w'
        go_wp2_with fail
        refine (HC5.out _).mono ?_; rintro e w' ⟨rfl, hw'⟩; subst w'
        go_wp2_with fail
        refine (HC6.out _).mono ?_; rintro e w1 ⟨rfl, hb1⟩
        obtain ⟨hc, hf⟩ := bcell hb1
        have hz : w.heap.size < w1.heap.size := by have := hb1.size; simp at this; omega
        go_wp2_with fail
        exact bodyPost_ret (v := .agg #[.int .u8 0, .string ⟨#[]⟩]) (by simp [results, Try.results29, go_sem, hc]) rfl ⟨rfl, ((((Below.refl _ _).alloc (Nat.le_refl _) _).trans (hb1.mono (by simp))).setCell (by simp) _).setCell (by simp) _⟩

end Go.Proofs.Ytnocnkblhjifjaa
