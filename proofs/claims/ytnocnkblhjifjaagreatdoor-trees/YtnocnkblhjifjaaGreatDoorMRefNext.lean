import Derived.Test.YtnocnkblhjifjaaGreatDoorMRefSmall
import Derived.Test.YtnocnkblhjifjaaGreatDoorMPlain
/-
  kilnref.next by its contract: the kind and the text of the token at a place; kind 0 and the empty text where there is none.
-/
namespace Go.Proofs.YtnocnkblhjifjaaGreatDoor
open Go.RowKit


theorem drop_cons (s : ByteArray) (i : Nat) (hi : i < s.size) : s.data.toList.drop i = s[i] :: s.data.toList.drop (i + 1) := List.drop_eq_getElem_cons (show i < s.data.toList.length from hi)

def NextSaid (s : ByteArray) (i : Nat) (w : World) : Prop :=
  Calls Tryz.prog 148 #[.string s, .int .i64 i] w fun e w' => e = .returned (.agg #[.int .u8 (tokKind (s.data.toList.drop i)), .string (bs ((s.data.toList.drop i).take (tokLen (s.data.toList.drop i))))]) ∧ Below w.heap.size w w'

set_option maxHeartbeats 1000000 in
theorem next_small (s : ByteArray) (i : Nat) (w : World) (hs : s.size ≤ maxLen) (hi : i < s.size) (h1 : smallB s[i].toNat = true) : NextSaid s i w := by
  unfold NextSaid
  have hs' : s.size ≤ 9223372036854775807 := hs
  have hc1 := fun wx => in_at_smallK s[i] wx
  rw [h1] at hc1
  have hc2 := fun wx => span_at_nameK s i wx hs (by omega)
  have hn : nameLen (s.data.toList.drop i) = cnt nameB (s.data.toList.drop i) := by rw [drop_cons s i hi]; simp [nameLen, h1]
  have hT : tokLen (s.data.toList.drop i) = cnt nameB (s.data.toList.drop i) := by rw [← hn]; rw [drop_cons s i hi]; simp [tokLen, h1]
  have hK : tokKind (s.data.toList.drop i) = bif wordL ((s.data.toList.drop i).take (cnt nameB (s.data.toList.drop i))) then 119 else 110 := by rw [← hn]; rw [drop_cons s i hi]; simp [tokKind, h1]
  have hle := cnt_le nameB (s.data.toList.drop i)
  rw [List.length_drop, show s.data.toList.length = s.size from rfl] at hle
  have hx := bs_extract s i (i + cnt nameB (s.data.toList.drop i))
  rw [Nat.add_sub_cancel_left] at hx
  have hc3 := fun wx => word_any (s.extract i (i + cnt nameB (s.data.toList.drop i))) wx
  rw [hT, hK, ← hx]
  rw [show (s.extract i (i + cnt nameB (s.data.toList.drop i))).data.toList = _ from by rw [hx, bs_data]] at hc3
  clear hx hn hT hK
  generalize wordL ((s.data.toList.drop i).take (cnt nameB (s.data.toList.drop i))) = b at *
  generalize cnt nameB (s.data.toList.drop i) = n at *
  have HC1 := hide hc1
  have HC2 := hide hc2
  have HC3 := hide hc3
  clear hc1 hc2 hc3
  cases b
  all_goals
    go_enter Tryz.func148, Tryz.ntmps148
    go_wp2_with fail
    refine (HC1.out _).mono ?_; rintro e w' ⟨rfl, hw'⟩; subst w'
    go_wp2_with fail
    refine (HC2.out _).mono ?_; rintro e w' ⟨rfl, hw'⟩; subst w'
    go_wp2_with fail
    refine (HC3.out _).mono ?_; rintro e w1 ⟨rfl, hb1⟩
    obtain ⟨hc, hf⟩ := bcell hb1
    have hz : w.heap.size < w1.heap.size := by have := hb1.size; simp at this; omega
    go_wp2_with fail
    first
      | exact bodyPost_ret (v := .agg #[.int .u8 110, .string (s.extract i (i + n))]) (by simp [results, Tryz.results148, go_sem, hc]) rfl ⟨rfl, ((((Below.refl _ _).alloc (Nat.le_refl _) _).trans (hb1.mono (by simp))).setCell (by simp) _).setCell (by simp) _⟩
      | exact bodyPost_ret (v := .agg #[.int .u8 119, .string (s.extract i (i + n))]) (by simp [results, Tryz.results148, go_sem, hc]) rfl ⟨rfl, ((((Below.refl _ _).alloc (Nat.le_refl _) _).trans (hb1.mono (by simp))).setCell (by simp) _).setCell (by simp) _⟩

set_option maxHeartbeats 1000000 in
theorem next_great (s : ByteArray) (i : Nat) (w : World) (hs : s.size ≤ maxLen) (hi : i < s.size) (h1 : smallB s[i].toNat = false) (h2 : greatB s[i].toNat = true) : NextSaid s i w := by
  unfold NextSaid
  have hs' : s.size ≤ 9223372036854775807 := hs
  have hc1 := fun wx => in_at_smallK s[i] wx
  rw [h1] at hc1
  have hc2 := fun wx => in_at_greatK s[i] wx
  rw [h2] at hc2
  have hc3 := fun wx => span_at_conK s i wx hs (by omega)
  have hT : tokLen (s.data.toList.drop i) = cnt conB (s.data.toList.drop i) := by rw [drop_cons s i hi]; simp [tokLen, h1, h2]
  have hK : tokKind (s.data.toList.drop i) = 99 := by rw [drop_cons s i hi]; simp [tokKind, h1, h2]
  have hle := cnt_le conB (s.data.toList.drop i)
  rw [List.length_drop, show s.data.toList.length = s.size from rfl] at hle
  have hx := bs_extract s i (i + cnt conB (s.data.toList.drop i))
  rw [Nat.add_sub_cancel_left] at hx
  rw [hT, hK, ← hx]
  clear hx hT hK
  generalize cnt conB (s.data.toList.drop i) = n at *
  have HC1 := hide hc1
  have HC2 := hide hc2
  have HC3 := hide hc3
  clear hc1 hc2 hc3
  go_enter Tryz.func148, Tryz.ntmps148
  go_wp2_with fail
  refine (HC1.out _).mono ?_; rintro e w' ⟨rfl, hw'⟩; subst w'
  go_wp2_with fail
  refine (HC2.out _).mono ?_; rintro e w' ⟨rfl, hw'⟩; subst w'
  go_wp2_with fail
  refine (HC3.out _).mono ?_; rintro e w' ⟨rfl, hw'⟩; subst w'
  go_wp2_with fail
  exact bodyPost_ret (v := .agg #[.int .u8 99, .string (s.extract i (i + n))]) (by simp [results, Tryz.results148, go_sem]) rfl ⟨rfl, (Below.refl _ _).alloc (Nat.le_refl _) _⟩

set_option maxHeartbeats 1000000 in
theorem next_digit (s : ByteArray) (i : Nat) (w : World) (hs : s.size ≤ maxLen) (hi : i < s.size) (h1 : smallB s[i].toNat = false) (h2 : greatB s[i].toNat = false) (h3 : digitB s[i].toNat = true) : NextSaid s i w := by
  unfold NextSaid
  have hs' : s.size ≤ 9223372036854775807 := hs
  have hc1 := fun wx => in_at_smallK s[i] wx
  rw [h1] at hc1
  have hc2 := fun wx => in_at_greatK s[i] wx
  rw [h2] at hc2
  have hc3 := fun wx => in_at_digitK s[i] wx
  rw [h3] at hc3
  have hc4 := fun wx => span_at_digitK s i wx hs (by omega)
  have hT : tokLen (s.data.toList.drop i) = if 18 < cnt digitB (s.data.toList.drop i) then 0 else cnt digitB (s.data.toList.drop i) := by
    rw [drop_cons s i hi]; simp [tokLen, h1, h2, h3, numLen]
  have hpos : 0 < cnt digitB (s.data.toList.drop i) := by rw [drop_cons s i hi]; simp [cnt, h3]
  have hK : tokKind (s.data.toList.drop i) = if 18 < cnt digitB (s.data.toList.drop i) then 0 else 100 := by
    have : tokKind (s.data.toList.drop i) = if numLen (s.data.toList.drop i) = 0 then 0 else 100 := by rw [drop_cons s i hi]; simp [tokKind, h1, h2, h3]
    rw [this]; unfold numLen
    split
    · simp
    · rw [if_neg (by omega)]
  have hle := cnt_le digitB (s.data.toList.drop i)
  rw [List.length_drop, show s.data.toList.length = s.size from rfl] at hle
  have hx := bs_extract s i (i + cnt digitB (s.data.toList.drop i))
  rw [Nat.add_sub_cancel_left] at hx
  by_cases h18 : 18 < cnt digitB (s.data.toList.drop i)
  · rw [hT, hK, if_pos h18, if_pos h18]
    clear hx hT hK
    generalize cnt digitB (s.data.toList.drop i) = n at *
    have HC1 := hide hc1
    have HC2 := hide hc2
    have HC3 := hide hc3
    have HC4 := hide hc4
    clear hc1 hc2 hc3 hc4
    go_enter Tryz.func148, Tryz.ntmps148
    go_wp2_with fail
    refine (HC1.out _).mono ?_; rintro e w' ⟨rfl, hw'⟩; subst w'
    go_wp2_with fail
    refine (HC2.out _).mono ?_; rintro e w' ⟨rfl, hw'⟩; subst w'
    go_wp2_with fail
    refine (HC3.out _).mono ?_; rintro e w' ⟨rfl, hw'⟩; subst w'
    go_wp2_with fail
    refine (HC4.out _).mono ?_; rintro e w' ⟨rfl, hw'⟩; subst w'
    go_wp2_with fail
    exact bodyPost_ret (v := .agg #[.int .u8 0, .string ⟨#[]⟩]) (by simp [results, Tryz.results148, go_sem]) rfl ⟨rfl, (Below.refl _ _).alloc (Nat.le_refl _) _⟩
  · rw [hT, hK, if_neg h18, if_neg h18, ← hx]
    clear hx hT hK
    generalize cnt digitB (s.data.toList.drop i) = n at *
    have HC1 := hide hc1
    have HC2 := hide hc2
    have HC3 := hide hc3
    have HC4 := hide hc4
    clear hc1 hc2 hc3 hc4
    go_enter Tryz.func148, Tryz.ntmps148
    go_wp2_with fail
    refine (HC1.out _).mono ?_; rintro e w' ⟨rfl, hw'⟩; subst w'
    go_wp2_with fail
    refine (HC2.out _).mono ?_; rintro e w' ⟨rfl, hw'⟩; subst w'
    go_wp2_with fail
    refine (HC3.out _).mono ?_; rintro e w' ⟨rfl, hw'⟩; subst w'
    go_wp2_with fail
    refine (HC4.out _).mono ?_; rintro e w' ⟨rfl, hw'⟩; subst w'
    go_wp2_with fail
    exact bodyPost_ret (v := .agg #[.int .u8 100, .string (s.extract i (i + n))]) (by simp [results, Tryz.results148, go_sem]) rfl ⟨rfl, (Below.refl _ _).alloc (Nat.le_refl _) _⟩

end Go.Proofs.YtnocnkblhjifjaaGreatDoor
/-
  kilnref.next at a letter.
-/
namespace Go.Proofs.YtnocnkblhjifjaaGreatDoor
open Go.RowKit

theorem c39 {c : UInt8} (h : ((c.toNat : Int) == 39) = true) : c = 39 := by
  rw [beq_iff_eq] at h
  exact UInt8.toNat_inj.1 (by rw [show (39 : UInt8).toNat = 39 from rfl]; omega)

theorem quote_bs (tk : List UInt8) : (⟨#[39]⟩ : ByteArray) ++ bs tk = bs (39 :: tk) := by
  apply ByteArray.ext
  simp [bs]

set_option maxHeartbeats 1000000 in
theorem next_letter (s : ByteArray) (i : Nat) (w : World) (hs : s.size ≤ maxLen) (hi : i < s.size) (h1 : smallB s[i].toNat = false) (h2 : greatB s[i].toNat = false) (h3 : digitB s[i].toNat = false) (h4 : ((s[i].toNat : Int) == 39) = true) : NextSaid s i w := by
  unfold NextSaid
  have hs' : s.size ≤ 9223372036854775807 := hs
  have hc1 := fun wx => in_at_smallK s[i] wx
  rw [h1] at hc1
  have hc2 := fun wx => in_at_greatK s[i] wx
  rw [h2] at hc2
  have hc3 := fun wx => in_at_digitK s[i] wx
  rw [h3] at hc3
  have hc4 : ∀ wx, Calls Tryz.prog 210 #[.string s, .int .i64 ((i : Int) + 1), .string ⟨#[97, 98, 99, 100, 101, 102, 103, 104, 105, 106, 107, 108, 109, 110, 111, 112, 113, 114, 115, 116, 117, 118, 119, 120, 121, 122, 48, 49, 50, 51, 52, 53, 54, 55, 56, 57, 95]⟩] wx fun e w' => e = .returned (.int .i64 ((i : Int) + 1 + (cnt nameB (s.data.toList.drop (i + 1)) : Int))) ∧ w' = wx := fun wx => by
    have := span_at_nameK s (i + 1) wx hs (by omega)
    simp only [Int.natCast_add] at this; exact this
  have hc0 := c39 h4
  have hT : tokLen (s.data.toList.drop i) = letterLen (s.data.toList.drop i) := by rw [drop_cons s i hi]; simp only [tokLen, h1, h2, h3, cond_false]; rw [if_pos hc0]
  have hK : tokKind (s.data.toList.drop i) = if letterLen (s.data.toList.drop i) = 0 then 0 else 108 := by rw [drop_cons s i hi]; simp only [tokKind, h1, h2, h3, cond_false]; rw [if_pos hc0]
  have hL : letterLen (s.data.toList.drop i) = bif nameLen (s.data.toList.drop (i + 1)) == 0 || wordL ((s.data.toList.drop (i + 1)).take (nameLen (s.data.toList.drop (i + 1)))) then 0 else 1 + nameLen (s.data.toList.drop (i + 1)) := by
    rw [drop_cons s i hi]; rfl
  have hle := cnt_le nameB (s.data.toList.drop (i + 1))
  rw [List.length_drop, show s.data.toList.length = s.size from rfl] at hle
  clear hc0
  by_cases hm : cnt nameB (s.data.toList.drop (i + 1)) = 0
  · have hn : nameLen (s.data.toList.drop (i + 1)) = 0 := by
      revert hm
      generalize s.data.toList.drop (i + 1) = r
      intro hm
      cases r with
      | nil => rfl
      | cons c t => simp only [nameLen, hm]; cases smallB c.toNat <;> rfl
    rw [hT, hK, hL, hn]
    clear hL hT hK hn
    rw [hm] at hc4
    have he : (s.extract (i + 1) (i + 1)).toList.isEmpty = true := by rw [ByteArray.toList_eq, Lib.extract_data]; simp
    have HC1 := hide hc1
    have HC2 := hide hc2
    have HC3 := hide hc3
    have HC4 := hide hc4
    clear hc1 hc2 hc3 hc4 hm hle
    go_enter Tryz.func148, Tryz.ntmps148
    go_wp2_with fail
    refine (HC1.out _).mono ?_; rintro e w' ⟨rfl, hw'⟩; subst w'
    go_wp2_with fail
    refine (HC2.out _).mono ?_; rintro e w' ⟨rfl, hw'⟩; subst w'
    go_wp2_with fail
    refine (HC3.out _).mono ?_; rintro e w' ⟨rfl, hw'⟩; subst w'
    go_wp2_with fail
    refine (HC4.out _).mono ?_; rintro e w' ⟨rfl, hw'⟩; subst w'
    go_wp2_with fail
    exact bodyPost_ret (v := .agg #[.int .u8 0, .string ⟨#[]⟩]) (by simp [results, Tryz.results148, go_sem]) rfl ⟨rfl, (Below.refl _ _).alloc (Nat.le_refl _) _⟩
  · have hi1 : i + 1 < s.size := by omega
    have hx := bs_extract s (i + 1) (i + 1 + cnt nameB (s.data.toList.drop (i + 1)))
    rw [Nat.add_sub_cancel_left] at hx
    have hpz : 0 < (s.extract (i + 1) (i + 1 + cnt nameB (s.data.toList.drop (i + 1)))).size := by simp; omega
    have he0 : (s.extract (i + 1) (i + 1 + cnt nameB (s.data.toList.drop (i + 1))))[0] = s[i + 1] := by
      simp [ByteArray.getElem_extract]
    have hc5 : ∀ wx, Calls Tryz.prog 147 #[.string ⟨#[97, 98, 99, 100, 101, 102, 103, 104, 105, 106, 107, 108, 109, 110, 111, 112, 113, 114, 115, 116, 117, 118, 119, 120, 121, 122]⟩, .int .u8 (s.extract (i + 1) (i + 1 + cnt nameB (s.data.toList.drop (i + 1))))[0].toNat] wx fun e w' => e = .returned (.bool (smallB s[i + 1].toNat)) ∧ w' = wx := fun wx => by rw [he0]; exact in_at_smallK s[i + 1] wx
    have hne : (s.extract (i + 1) (i + 1 + cnt nameB (s.data.toList.drop (i + 1)))).toList.isEmpty = false := by
      rw [ByteArray.toList_eq, head_cons _ hpz]; rfl
    clear he0
    have hn : nameLen (s.data.toList.drop (i + 1)) = bif smallB s[i + 1].toNat then cnt nameB (s.data.toList.drop (i + 1)) else 0 := by
      conv => lhs; rw [drop_cons s (i + 1) hi1]
      simp only [nameLen]
      rw [← drop_cons s (i + 1) hi1]
    rw [hn] at hL
    have hc6 := fun wx => word_any (s.extract (i + 1) (i + 1 + cnt nameB (s.data.toList.drop (i + 1)))) wx
    rw [show (s.extract (i + 1) (i + 1 + cnt nameB (s.data.toList.drop (i + 1)))).data.toList = _ from by rw [hx, bs_data]] at hc6
    clear hn
    generalize smallB s[i + 1].toNat = b at *
    cases b
    · have hL0 : letterLen (s.data.toList.drop i) = 0 := by rw [hL]; rfl
      rw [hT, hK, hL0]
      clear hL hL0 hT hK
      generalize cnt nameB (s.data.toList.drop (i + 1)) = m at *
      have HC1 := hide hc1
      have HC2 := hide hc2
      have HC3 := hide hc3
      have HC4 := hide hc4
      have HC5 := hide hc5
      clear hc1 hc2 hc3 hc4 hc5 hc6 hx
      go_enter Tryz.func148, Tryz.ntmps148
      go_wp2_with fail
      refine (HC1.out _).mono ?_; rintro e w' ⟨rfl, hw'⟩; subst w'
      go_wp2_with fail
      refine (HC2.out _).mono ?_; rintro e w' ⟨rfl, hw'⟩; subst w'
      go_wp2_with fail
      refine (HC3.out _).mono ?_; rintro e w' ⟨rfl, hw'⟩; subst w'
      go_wp2_with fail
      refine (HC4.out _).mono ?_; rintro e w' ⟨rfl, hw'⟩; subst w'
      go_wp2_with fail
      refine (HC5.out _).mono ?_; rintro e w' ⟨rfl, hw'⟩; subst w'
      go_wp2_with fail
      exact bodyPost_ret (v := .agg #[.int .u8 0, .string ⟨#[]⟩]) (by simp [results, Tryz.results148, go_sem]) rfl ⟨rfl, (Below.refl _ _).alloc (Nat.le_refl _) _⟩
    · simp only [cond_true] at hL
      have htx : (s.data.toList.drop i).take (1 + cnt nameB (s.data.toList.drop (i + 1))) = 39 :: (s.data.toList.drop (i + 1)).take (cnt nameB (s.data.toList.drop (i + 1))) := by
        rw [drop_cons s i hi, Nat.add_comm, List.take_succ_cons, c39 h4]
      have hm0 : (cnt nameB (s.data.toList.drop (i + 1)) == 0) = false := by simpa using hm
      rw [hm0] at hL
      clear hm0
      generalize wordL ((s.data.toList.drop (i + 1)).take (cnt nameB (s.data.toList.drop (i + 1)))) = d at *
      generalize (s.data.toList.drop (i + 1)).take (cnt nameB (s.data.toList.drop (i + 1))) = tk at *
      generalize cnt nameB (s.data.toList.drop (i + 1)) = m at *
      have HC1 := hide hc1
      have HC2 := hide hc2
      have HC3 := hide hc3
      have HC4 := hide hc4
      have HC5 := hide hc5
      have HC6 := hide hc6
      have HX := hide hx
      clear hc1 hc2 hc3 hc4 hc5 hc6 hx
      cases d
      · have hL1 : letterLen (s.data.toList.drop i) = 1 + m := by rw [hL]; rfl
        rw [hT, hK, hL1, if_neg (by omega), htx]
        clear htx hL hL1 hT hK
        go_enter Tryz.func148, Tryz.ntmps148
        go_wp2_with fail
        refine (HC1.out _).mono ?_; rintro e w' ⟨rfl, hw'⟩; subst w'
        go_wp2_with fail
        refine (HC2.out _).mono ?_; rintro e w' ⟨rfl, hw'⟩; subst w'
        go_wp2_with fail
        refine (HC3.out _).mono ?_; rintro e w' ⟨rfl, hw'⟩; subst w'
        go_wp2_with fail
        refine (HC4.out _).mono ?_; rintro e w' ⟨rfl, hw'⟩; subst w'
        go_wp2_with fail
        refine (HC5.out _).mono ?_; rintro e w' ⟨rfl, hw'⟩; subst w'
        go_wp2_with fail
        refine (HC6.out _).mono ?_; rintro e w1 ⟨rfl, hb1⟩
        obtain ⟨hc, hf⟩ := bcell hb1
        have hz : w.heap.size < w1.heap.size := by have := hb1.size; simp at this; omega
        go_wp2_with fail
        exact bodyPost_ret (v := .agg #[.int .u8 108, .string (⟨#[39]⟩ ++ s.extract (i + 1) (i + 1 + m))]) (by simp [results, Tryz.results148, go_sem, hc]) rfl ⟨by rw [HX.out, quote_bs], ((((Below.refl _ _).alloc (Nat.le_refl _) _).trans (hb1.mono (by simp))).setCell (by simp) _).setCell (by simp) _⟩
      · have hL0 : letterLen (s.data.toList.drop i) = 0 := by rw [hL]; rfl
        rw [hT, hK, hL0]
        clear htx hL hL0 hT hK
        go_enter Tryz.func148, Tryz.ntmps148
        go_wp2_with fail
        refine (HC1.out _).mono ?_; rintro e w' ⟨rfl, hw'⟩; subst w'
        go_wp2_with fail
        refine (HC2.out _).mono ?_; rintro e w' ⟨rfl, hw'⟩; subst w'
        go_wp2_with fail
        refine (HC3.out _).mono ?_; rintro e w' ⟨rfl, hw'⟩; subst w'
        go_wp2_with fail
        refine (HC4.out _).mono ?_; rintro e w' ⟨rfl, hw'⟩; subst w'
        go_wp2_with fail
        refine (HC5.out _).mono ?_; rintro e w' ⟨rfl, hw'⟩; subst w'
        go_wp2_with fail
        refine (HC6.out _).mono ?_; rintro e w1 ⟨rfl, hb1⟩
        obtain ⟨hc, hf⟩ := bcell hb1
        have hz : w.heap.size < w1.heap.size := by have := hb1.size; simp at this; omega
        go_wp2_with fail
        exact bodyPost_ret (v := .agg #[.int .u8 0, .string ⟨#[]⟩]) (by simp [results, Tryz.results148, go_sem, hc]) rfl ⟨rfl, ((((Below.refl _ _).alloc (Nat.le_refl _) _).trans (hb1.mono (by simp))).setCell (by simp) _).setCell (by simp) _⟩

end Go.Proofs.YtnocnkblhjifjaaGreatDoor
/-
  kilnref.next at a sign, or at what is no token; then at every place.
-/
namespace Go.Proofs.YtnocnkblhjifjaaGreatDoor
open Go.RowKit

theorem sign_at_last (s : ByteArray) (i : Nat) (hi : i < s.size) (hl : ¬ i + 1 < s.size) : signLen (s.data.toList.drop i) = if s[i] ∈ signs then 1 else 0 := by
  rw [drop_cons s i hi, List.drop_of_length_le (show s.data.toList.length ≤ i + 1 by have : s.data.toList.length = s.size := rfl; omega)]
  simp [signLen, Lib.hasPrefix, List.isPrefixOf]

theorem sign_at_more (s : ByteArray) (i : Nat) (hi : i < s.size) (hl : i + 1 < s.size) :
    signLen (s.data.toList.drop i) = if ((s.extract i (i + 2)).toList == [58, 61]) = true ∨ ((s.extract i (i + 2)).toList == [45, 62]) = true then 2 else if s[i] ∈ signs then 1 else 0 := by
  have e : (s.extract i (i + 2)).toList = [s[i], s[i + 1]] := by
    rw [ByteArray.toList_eq, Lib.extract_data, Nat.add_sub_cancel_left, drop_cons s i hi, drop_cons s (i + 1) hl]; rfl
  rw [e, drop_cons s i hi, drop_cons s (i + 1) hl]
  generalize s[i] = a
  generalize s[i + 1] = b
  have h1 : ∀ x y : UInt8, Lib.hasPrefix (a :: b :: s.data.toList.drop (i + 1 + 1)) [x, y] = ([a, b] == [x, y]) := by
    intro x y
    simp only [Lib.hasPrefix, List.isPrefixOf, Bool.and_true, Bool.beq_comm (a := x), Bool.beq_comm (a := y)]
    rw [Bool.eq_iff_iff]; simp
  simp only [signLen, h1]

set_option maxHeartbeats 1000000 in
theorem next_sign (s : ByteArray) (i : Nat) (w : World) (hs : s.size ≤ maxLen) (hi : i < s.size) (h1 : smallB s[i].toNat = false) (h2 : greatB s[i].toNat = false) (h3 : digitB s[i].toNat = false) (h4 : ((s[i].toNat : Int) == 39) = false) : NextSaid s i w := by
  unfold NextSaid
  have hs' : s.size ≤ 9223372036854775807 := hs
  have hc1 := fun wx => in_at_smallK s[i] wx
  rw [h1] at hc1
  have hc2 := fun wx => in_at_greatK s[i] wx
  rw [h2] at hc2
  have hc3 := fun wx => in_at_digitK s[i] wx
  rw [h3] at hc3
  have hc4 := fun wx => in_at_signK s[i] wx
  have hc0 : ¬ s[i] = 39 := u8_ne (n := 39) (by omega) h4
  have hT : tokLen (s.data.toList.drop i) = signLen (s.data.toList.drop i) := by rw [drop_cons s i hi]; simp only [tokLen, h1, h2, h3, cond_false]; rw [if_neg hc0]
  have hK : tokKind (s.data.toList.drop i) = if signLen (s.data.toList.drop i) = 0 then 0 else 119 := by rw [drop_cons s i hi]; simp only [tokKind, h1, h2, h3, cond_false]; rw [if_neg hc0]
  have hx1 := bs_extract s i (i + 1)
  rw [Nat.add_sub_cancel_left] at hx1
  have hx2 := bs_extract s i (i + 2)
  rw [Nat.add_sub_cancel_left] at hx2
  by_cases hl : i + 1 < s.size
  · have hd : decide ((i : Int) + 1 < s.size) = true := by simp; omega
    have hg := sign_at_more s i hi hl
    cases hb1 : ((s.extract i (i + 2)).toList == [58, 61])
    · cases hb2 : ((s.extract i (i + 2)).toList == [45, 62])
      · rw [hb1, hb2] at hg
        simp only [Bool.false_eq_true, or_self, if_false] at hg
        by_cases hm : s[i] ∈ signs
        · rw [if_pos hm] at hg
          rw [hT, hK, hg, ← hx1]
          simp only [hm, decide_true] at hc4
          clear hx1 hx2 hT hK hg hm
          have HC1 := hide hc1
          have HC2 := hide hc2
          have HC3 := hide hc3
          have HC4 := hide hc4
          clear hc1 hc2 hc3 hc4 hc0
          go_enter Tryz.func148, Tryz.ntmps148
          go_wp2_with fail
          refine (HC1.out _).mono ?_; rintro e w' ⟨rfl, hw'⟩; subst w'
          go_wp2_with fail
          refine (HC2.out _).mono ?_; rintro e w' ⟨rfl, hw'⟩; subst w'
          go_wp2_with fail
          refine (HC3.out _).mono ?_; rintro e w' ⟨rfl, hw'⟩; subst w'
          go_wp2_with fail
          refine (HC4.out _).mono ?_; rintro e w' ⟨rfl, hw'⟩; subst w'
          go_wp2_with fail
          exact bodyPost_ret (v := .agg #[.int .u8 119, .string (s.extract i (i + 1))]) (by simp [results, Tryz.results148, go_sem]) rfl ⟨rfl, (Below.refl _ _).alloc (Nat.le_refl _) _⟩
        · rw [if_neg hm] at hg
          rw [hT, hK, hg]
          simp only [hm, decide_false] at hc4
          clear hx1 hx2 hT hK hg hm
          have HC1 := hide hc1
          have HC2 := hide hc2
          have HC3 := hide hc3
          have HC4 := hide hc4
          clear hc1 hc2 hc3 hc4 hc0
          go_enter Tryz.func148, Tryz.ntmps148
          go_wp2_with fail
          refine (HC1.out _).mono ?_; rintro e w' ⟨rfl, hw'⟩; subst w'
          go_wp2_with fail
          refine (HC2.out _).mono ?_; rintro e w' ⟨rfl, hw'⟩; subst w'
          go_wp2_with fail
          refine (HC3.out _).mono ?_; rintro e w' ⟨rfl, hw'⟩; subst w'
          go_wp2_with fail
          refine (HC4.out _).mono ?_; rintro e w' ⟨rfl, hw'⟩; subst w'
          go_wp2_with fail
          exact bodyPost_ret (v := .agg #[.int .u8 0, .string ⟨#[]⟩]) (by simp [results, Tryz.results148, go_sem]) rfl ⟨rfl, (Below.refl _ _).alloc (Nat.le_refl _) _⟩
      · rw [hb2] at hg
        simp only [or_true, if_true] at hg
        rw [hT, hK, hg, ← hx2]
        clear hx1 hx2 hT hK hg
        have HC1 := hide hc1
        have HC2 := hide hc2
        have HC3 := hide hc3
        have HC4 := hide hc4
        clear hc1 hc2 hc3 hc4 hc0
        go_enter Tryz.func148, Tryz.ntmps148
        go_wp2_with fail
        refine (HC1.out _).mono ?_; rintro e w' ⟨rfl, hw'⟩; subst w'
        go_wp2_with fail
        refine (HC2.out _).mono ?_; rintro e w' ⟨rfl, hw'⟩; subst w'
        go_wp2_with fail
        refine (HC3.out _).mono ?_; rintro e w' ⟨rfl, hw'⟩; subst w'
        go_wp2_with fail
        exact bodyPost_ret (v := .agg #[.int .u8 119, .string (s.extract i (i + 2))]) (by simp [results, Tryz.results148, go_sem]) rfl ⟨rfl, (Below.refl _ _).alloc (Nat.le_refl _) _⟩
    · rw [hb1] at hg
      simp only [true_or, if_true] at hg
      rw [hT, hK, hg, ← hx2]
      clear hx1 hx2 hT hK hg
      have HC1 := hide hc1
      have HC2 := hide hc2
      have HC3 := hide hc3
      have HC4 := hide hc4
      clear hc1 hc2 hc3 hc4 hc0
      go_enter Tryz.func148, Tryz.ntmps148
      go_wp2_with fail
      refine (HC1.out _).mono ?_; rintro e w' ⟨rfl, hw'⟩; subst w'
      go_wp2_with fail
      refine (HC2.out _).mono ?_; rintro e w' ⟨rfl, hw'⟩; subst w'
      go_wp2_with fail
      refine (HC3.out _).mono ?_; rintro e w' ⟨rfl, hw'⟩; subst w'
      go_wp2_with fail
      exact bodyPost_ret (v := .agg #[.int .u8 119, .string (s.extract i (i + 2))]) (by simp [results, Tryz.results148, go_sem]) rfl ⟨rfl, (Below.refl _ _).alloc (Nat.le_refl _) _⟩
  · have hd : decide ((i : Int) + 1 < s.size) = false := by simp; omega
    have hg := sign_at_last s i hi hl
    by_cases hm : s[i] ∈ signs
    · rw [if_pos hm] at hg
      rw [hT, hK, hg, ← hx1]
      simp only [hm, decide_true] at hc4
      clear hx1 hx2 hT hK hg hm
      have HC1 := hide hc1
      have HC2 := hide hc2
      have HC3 := hide hc3
      have HC4 := hide hc4
      clear hc1 hc2 hc3 hc4 hc0
      go_enter Tryz.func148, Tryz.ntmps148
      go_wp2_with fail
      refine (HC1.out _).mono ?_; rintro e w' ⟨rfl, hw'⟩; subst w'
      go_wp2_with fail
      refine (HC2.out _).mono ?_; rintro e w' ⟨rfl, hw'⟩; subst w'
      go_wp2_with fail
      refine (HC3.out _).mono ?_; rintro e w' ⟨rfl, hw'⟩; subst w'
      go_wp2_with fail
      refine (HC4.out _).mono ?_; rintro e w' ⟨rfl, hw'⟩; subst w'
      go_wp2_with fail
      exact bodyPost_ret (v := .agg #[.int .u8 119, .string (s.extract i (i + 1))]) (by simp [results, Tryz.results148, go_sem]) rfl ⟨rfl, (Below.refl _ _).alloc (Nat.le_refl _) _⟩
    · rw [if_neg hm] at hg
      rw [hT, hK, hg]
      simp only [hm, decide_false] at hc4
      clear hx1 hx2 hT hK hg hm
      have HC1 := hide hc1
      have HC2 := hide hc2
      have HC3 := hide hc3
      have HC4 := hide hc4
      clear hc1 hc2 hc3 hc4 hc0
      go_enter Tryz.func148, Tryz.ntmps148
      go_wp2_with fail
      refine (HC1.out _).mono ?_; rintro e w' ⟨rfl, hw'⟩; subst w'
      go_wp2_with fail
      refine (HC2.out _).mono ?_; rintro e w' ⟨rfl, hw'⟩; subst w'
      go_wp2_with fail
      refine (HC3.out _).mono ?_; rintro e w' ⟨rfl, hw'⟩; subst w'
      go_wp2_with fail
      refine (HC4.out _).mono ?_; rintro e w' ⟨rfl, hw'⟩; subst w'
      go_wp2_with fail
      exact bodyPost_ret (v := .agg #[.int .u8 0, .string ⟨#[]⟩]) (by simp [results, Tryz.results148, go_sem]) rfl ⟨rfl, (Below.refl _ _).alloc (Nat.le_refl _) _⟩

theorem next_any (s : ByteArray) (i : Nat) (w : World) (hs : s.size ≤ maxLen) (hi : i < s.size) : NextSaid s i w := by
  cases h1 : smallB s[i].toNat
  · cases h2 : greatB s[i].toNat
    · cases h3 : digitB s[i].toNat
      · cases h4 : ((s[i].toNat : Int) == 39)
        · exact next_sign s i w hs hi h1 h2 h3 h4
        · exact next_letter s i w hs hi h1 h2 h3 h4
      · exact next_digit s i w hs hi h1 h2 h3
    · exact next_great s i w hs hi h1 h2
  · exact next_small s i w hs hi h1

end Go.Proofs.YtnocnkblhjifjaaGreatDoor
/-
  kilnref.Cut by its contract: what it answers is what the plain function cutL says.
-/
namespace Go.Proofs.YtnocnkblhjifjaaGreatDoor
open Go.RowKit

theorem Tryz.infoTok : (Tryz.prog.info? 170).map (fun i => (i.zero, i.size, i.bytes)) = some (some (.agg #[.int .u8 0, .string ByteArray.empty]), 2, 24) := by kernel_rfl

set_option maxHeartbeats 2000000 in
theorem refCut_any (s : ByteArray) (w : World) (hs : s.size ≤ maxLen) :
    Calls Tryz.prog 83 #[.string s] w fun e w' => ∃ v, e = .returned (.tuple #[v, .int .i64 (cutL s.data.toList).2.1, .int .i64 (cutL s.data.toList).2.2]) ∧
      w'.ownsRow w.heap.size 170 2 v (cutL s.data.toList).1.length ((cutL s.data.toList).1.flatMap tkV) ∧ Below w.heap.size w w' := by
  have hs' : s.size ≤ 9223372036854775807 := hs
  by_cases hbig : 4000 < s.size
  · have hR : cutL s.data.toList = ([], 0, 1) := by
      unfold cutL; rw [if_pos (show 4000 < s.data.toList.length from hbig)]
    rw [hR]
    go_enter Tryz.func83, Tryz.ntmps83
    go_wp2
    go_ret3
    exact ⟨_, rfl, World.ownsRow_nil _ _ _ _, Below.refl _ _⟩
  · have hR : cutL s.data.toList = cutF (s.data.toList.length + 1) s.data.toList 0 [] := by
      unfold cutL; rw [if_neg (show ¬ 4000 < s.data.toList.length from hbig)]
    have hst := atRef_start s.data.toList
    rw [← hR] at hst
    clear hR
    generalize cutL s.data.toList = R at *
    have HST := hide hst
    clear hst
    obtain ⟨i0, hi, hz0, hz1, hz2⟩ := info_parts Tryz.infoTok
    have hb4 : decide ((4000 : Int) < s.size) = false := by simp; omega
    go_enter Tryz.func83, Tryz.ntmps83
    go_wp2
    go_loopw [5, 6] (fun v i wr => ∃ (k : Nat) (toks : List (List UInt8)), k ≤ s.size ∧ i = .int .i64 k ∧ toks.length ≤ k ∧ wr.ownsRow w.heap.size 170 2 v toks.length (toks.flatMap tkV) ∧ Below w.heap.size w wr ∧ Hid (AtRef s.data.toList R k toks))
      (fun _ i _ => s.size - (intOf i).toNat)
    case atStart => exact ⟨0, [], Nat.zero_le _, rfl, Nat.zero_le _, World.ownsRow_nil _ _ _ _, Below.refl _ _, HST⟩
    case round =>
      obtain ⟨k, toks, hk, rfl, htl, hown, hbel, H⟩ := hrel
      by_cases hlt : k < s.size
      · have hc1 := fun wx => in_at_blankK s[k] wx
        cases hb : blankB s[k].toNat
        · rw [hb] at hc1
          cases h35 : ((s[k].toNat : Int) == 35)
          · have hg := gap_other s.data.toList k hlt hb (u8_ne (n := 35) (by omega) h35)
            have hc2 := fun wx => next_any s k wx hs hlt
            unfold NextSaid at hc2
            have hT := tokLen_le (s.data.toList.drop k)
            have hTs : tokLen (s.data.toList.drop k) ≤ s.size - k := by simpa using hT
            clear hT
            by_cases ht : tokLen (s.data.toList.drop k) = 0
            · have hR := atHead_bad (atRef_head H.out hg) (show k < s.data.toList.length from hlt) ht
              rw [(kind_zero _).2 ht] at hc2
              generalize bs ((s.data.toList.drop k).take (tokLen (s.data.toList.drop k))) = tx at *
              have HC1 := hide hc1
              have HC2 := hide hc2
              have HR := hide hR
              clear hc1 hc2 hR hg ht hTs hb
              go_wp2_with fail
              refine (HC1.out _).mono ?_; rintro e w' ⟨rfl, hw'⟩; subst w'
              go_wp2_with fail
              refine (HC2.out _).mono ?_; rintro e w1 ⟨rfl, hb1⟩
              go_wp2_with fail
              go_ret3
              rw [HR.out]
              exact ⟨_, rfl, World.ownsRow_nil _ _ _ _, (hbel.trans (hb1.mono hbel.size)).alloc (Nat.le_trans hbel.size hb1.size) _⟩
            · have hA := atRef_tok H.out hg (show k < s.data.toList.length from hlt) ht
              have hks := kind_self (s.data.toList.drop k) ht
              rw [← hks] at hc2
              have hkn : tokKind ((s.data.toList.drop k).take (tokLen (s.data.toList.drop k))) ≠ 0 := by rw [hks]; exact fun h => ht ((kind_zero _).1 h)
              have hsz : (bs ((s.data.toList.drop k).take (tokLen (s.data.toList.drop k)))).size = tokLen (s.data.toList.drop k) := by
                show ((s.data.toList.drop k).take (tokLen (s.data.toList.drop k))).toArray.size = _
                have : s.data.toList.length = s.size := rfl
                simp; omega
              have hcell : tkV ((s.data.toList.drop k).take (tokLen (s.data.toList.drop k))) = [.int .u8 (tokKind ((s.data.toList.drop k).take (tokLen (s.data.toList.drop k)))), .string (bs ((s.data.toList.drop k).take (tokLen (s.data.toList.drop k))))] := rfl
              clear hks
              generalize (s.data.toList.drop k).take (tokLen (s.data.toList.drop k)) = tk at *
              generalize tokLen (s.data.toList.drop k) = T at *
              generalize tokKind tk = kd at *
              generalize hbx : bs tk = bx at *
              clear hbx
              have hkb : (kd == 0) = false := by simpa using hkn
              have HC1 := hide hc1
              have HC2 := hide hc2
              have HA := hide hA
              have HV := hide hcell
              clear hc1 hc2 hA hg hb hcell hkn
              go_wp2_with fail
              refine (HC1.out _).mono ?_; rintro e w' ⟨rfl, hw'⟩; subst w'
              go_wp2_with fail
              refine (HC2.out _).mono ?_; rintro e w1 ⟨rfl, hb1⟩
              have hown1 := ownsRow_below hown hb1
              have hbel1 : Below w.heap.size w w1 := hbel.trans (hb1.mono hbel.size)
              clear hown hbel hb1
              go_wp2_with (at_builtin; refine wpList_append_own _ rfl _ _ 132 rfl w.heap.size 170 i0 (.agg #[.int .u8 0, .string ByteArray.empty]) 2 24 Tryz.underlying132 hi hz0 hz1 hz2 rfl (by decide) _ _ _ rfl ((hown1.alloc _).alloc _) ⟨w1.heap.size + 1, 0, none⟩ 1 1 [.int .u8 kd, .string bx] rfl rfl ?c1 ?c2 ?c3 ?c4 ?c5 ?_)
              case c1 =>
                intro j u hj
                match j, hj with
                | 0, hj => simp at hj; subst hj; simp [Addr.add]
                | 1, hj => simp at hj; subst hj; simp [Addr.add]
              case c2 => intro u hu; simp at hu; rcases hu with rfl | rfl <;> rfl
              case c3 => unfold maxLen; omega
              case c4 => omega
              case c5 => have := hbel1.size; simp; omega
              · intro v' w2 hown' hgrow _
                have hbel2 : Below w.heap.size w w2 := ((hbel1.alloc hbel1.size _).alloc (by have := hbel1.size; simp; omega) _).grown hgrow (by have := hbel1.size; simp; omega) (fun g hg => (hown1.lt g hg).1)
                have hown2 : w2.ownsRow w.heap.size 170 2 v' (toks ++ [tk]).length ((toks ++ [tk]).flatMap tkV) := by
                  rw [List.length_append, List.flatMap_append, List.flatMap_cons, List.flatMap_nil, HV.out]
                  exact hown'
                have hcell2 : w2.cell? ⟨w1.heap.size, 1, none⟩ = some (.string bx) := by
                  rw [World.cell?_of_block (hgrow.block w1.heap.size (by simp; omega) (fun e => by have := (hown1.lt _ e.symm).2; omega))]; simp
                clear hown' hgrow hown1 hbel1
                go_wp2
                go_roundw
                case rel => exact ⟨k + T, toks ++ [tk], by omega, by go_num, by simp; omega, hown2, hbel2, HA⟩
                case measure => simp [intOf]; omega
          · have hc35 : s[k] = 35 := by
              rw [beq_iff_eq] at h35
              exact UInt8.toNat_inj.1 (by rw [show (35 : UInt8).toNat = 35 from rfl]; omega)
            have hr := gap_remark s.data.toList k hlt hc35
            have hle := cnt_le no10B (s.data.toList.drop k)
            rw [List.length_drop, show s.data.toList.length = s.size from rfl] at hle
            have HA := hide (atRef_gap (j := k + cnt no10B (s.data.toList.drop k)) H.out (by omega) (by omega) (show k < s.data.toList.length from hlt))
            have hn1 := hr.2
            have HC1 := hide hc1
            clear hc1 hb hc35 hr
            generalize hn : cnt no10B (s.data.toList.drop k) = n at *
            have HN := hide hn
            clear hn
            go_wp2_with fail
            refine (HC1.out _).mono ?_; rintro e w' ⟨rfl, hw'⟩; subst w'
            go_wp2_with fail
            go_loop [6] (fun i => ∃ j : Nat, k ≤ j ∧ j ≤ s.size ∧ i = .int .i64 j ∧ Hid (cnt no10B (s.data.toList.drop k) = (j - k) + cnt no10B (s.data.toList.drop j))) (fun i => s.size - (intOf i).toNat)
            case atStart => exact ⟨k, Nat.le_refl _, by omega, rfl, show cnt _ _ = _ by simp⟩
            case round =>
              obtain ⟨j, hkj, hj, rfl, HJ⟩ := hrel
              by_cases hjl : j < s.size
              · have hd : decide ((j : Int) < s.size) = true := by simp; omega
                cases hb : ((s[j].toNat : Int) != 10)
                · have HB := hide (cntS_no no10B s j hjl hb)
                  go_wp2_with fail
                  have hjn : j = k + n := by have a := HJ.out; have b := HB.out; have c := HN.out; omega
                  exact ⟨⟨k + n, toks, by omega, by rw [hjn], by omega, hown, hbel, HA⟩, by simp [intOf]; omega⟩
                · have HB := hide (cntS_yes no10B s j hjl hb)
                  go_wp2
                  go_round
                  case rel => exact ⟨j + 1, by omega, by omega, by go_num, show cnt _ _ = _ by rw [HJ.out, HB.out]; omega⟩
                  case measure => simp [intOf]; omega
              · have hd : decide ((j : Int) < s.size) = false := by simp; omega
                have HB := hide (cntS_end no10B s j (by omega))
                go_wp2_with fail
                have hjn : j = k + n := by have a := HJ.out; have b := HB.out; have c := HN.out; omega
                exact ⟨⟨k + n, toks, by omega, by rw [hjn], by omega, hown, hbel, HA⟩, by simp [intOf]; omega⟩
        · rw [hb] at hc1
          have HG : Hid (gap false (s.data.toList.drop k) = 1 + gap false (s.data.toList.drop (k + 1))) := gap_blank s.data.toList k hlt hb
          have HA := hide (atRef_gap (j := k + 1) H.out (by omega) (by have := HG.out; omega) (show k < s.data.toList.length from hlt))
          have HC1 := hide hc1
          clear hc1 hb
          go_wp2_with fail
          refine (HC1.out _).mono ?_; rintro e w' ⟨rfl, hw'⟩; subst w'
          go_wp2_with fail
          go_roundw
          case rel => exact ⟨k + 1, toks, by omega, by go_num, by omega, hown, hbel, HA⟩
          case measure => simp [intOf]; omega
      · have hR := atRef_end H.out (show s.size ≤ k by omega)
        have HR := hide hR
        clear hR
        go_wp2
        go_ret3
        rw [HR.out]
        exact ⟨_, rfl, hown, hbel⟩

end Go.Proofs.YtnocnkblhjifjaaGreatDoor
