/-
  lex.Cut by its contract: what it answers is what the plain function cutL says; the tokens lie in memory of their own; of what was there nothing has turned.
-/
import Derived.Test.YtnocnkblhjifjaaGap
import Derived.Test.YtnocnkblhjifjaaPlain3
namespace Go.Proofs.Ytnocnkblhjifjaa
open Go.RowKit

theorem Try.infoStr : (Try.prog.info? 9).map (fun i => (i.zero, i.size, i.bytes)) = some (some (.string ByteArray.empty), 1, 16) := by kernel_rfl

set_option maxHeartbeats 400000 in
theorem Clone_any (s : ByteArray) (w : World) (hs : s.size ≤ 281474976710656) :
    Calls Try.prog 15 #[.string s] w fun e w' => e = .returned (.string s) ∧ Below w.heap.size w w' := by
  go_enter Try.func15, Try.ntmps15
  go_wp2_with (go_at_call 27; refine (Try.stringslite_Clone _ _ hs).mono ?_; rintro e w' ⟨rfl, hb⟩)
  go_ret
  exact ⟨rfl, hb⟩

set_option maxHeartbeats 1000000 in
theorem Cut_any (s : ByteArray) (w : World) (hs : s.size ≤ maxLen) :
    Calls Try.prog 10 #[.string s] w fun e w' => ∃ v, e = .returned (.tuple #[v, .int .i64 (cutL s.data.toList).2.1, .int .i64 (cutL s.data.toList).2.2]) ∧
      w'.ownsRow w.heap.size 9 1 v (cutL s.data.toList).1.length ((cutL s.data.toList).1.map strV) ∧ Below w.heap.size w w' := by
  have hs' : s.size ≤ 9223372036854775807 := hs
  by_cases hbig : 4000 < s.size
  · have hR : cutL s.data.toList = ([], 0, 1) := by
      unfold cutL; rw [if_pos (show 4000 < s.data.toList.length from hbig)]
    rw [hR]
    go_enter Try.func10, Try.ntmps10
    go_wp2
    go_ret3
    exact ⟨_, rfl, World.ownsRow_nil _ _ _ _, Below.refl _ _⟩
  · have hR : cutL s.data.toList = cutF (s.data.toList.length + 1) s.data.toList 0 [] := by
      unfold cutL; rw [if_neg (show ¬ 4000 < s.data.toList.length from hbig)]
    have hst := atHead_start s.data.toList
    rw [← hR] at hst
    have hgl := gap_le false s.data.toList
    have hc0 : ∀ wx, Calls Try.prog 13 #[.string s] wx fun e w' => e = .returned (.int .i64 (gap false s.data.toList)) ∧ w' = wx := fun wx => gapLength_any s wx hs
    have hgl' : gap false s.data.toList ≤ s.size := hgl
    clear hgl hR
    generalize cutL s.data.toList = R at *
    generalize gap false s.data.toList = G0 at *
    have HC0 : Hid (∀ wx, Calls Try.prog 13 #[.string s] wx fun e w' => e = .returned (.int .i64 G0) ∧ w' = wx) := hc0
    have HST : Hid (AtHead s.data.toList R G0 []) := hst
    clear hc0 hst
    obtain ⟨i0, hi, hz0, hz1, hz2⟩ := info_parts Try.infoStr
    have hb4 : decide ((4000 : Int) < s.size) = false := by simp; omega
    go_enter Try.func10, Try.ntmps10
    go_wp2_with (go_at_call 13; refine (HC0.out _).mono ?_; rintro e w' ⟨rfl, hw'⟩; subst w')
    go_loopw [5, 6] (fun v i wr => ∃ (k : Nat) (toks : List (List UInt8)), k ≤ s.size ∧ i = .int .i64 k ∧ toks.length ≤ k ∧ wr.ownsRow w.heap.size 9 1 v toks.length (toks.map strV) ∧ Below w.heap.size w wr ∧ Hid (AtHead s.data.toList R k toks))
      (fun _ i _ => s.size - (intOf i).toNat)
    case atStart => exact ⟨G0, [], hgl', rfl, Nat.zero_le _, World.ownsRow_nil _ _ _ _, Below.refl _ _, HST⟩
    case round =>
      obtain ⟨k, toks, hk, rfl, htl, hown, hbel, H⟩ := hrel
      by_cases hlt : k < s.size
      · have hlt' : k < s.data.toList.length := hlt
        have hc1 : ∀ wx, Calls Try.prog 14 #[.string (s.extract k s.size)] wx fun e w' => e = .returned (.int .i64 (tokLen (s.data.toList.drop k))) ∧ w' = wx := fun wx => by
          have := tokenLength_any (s.extract k s.size) wx (by simp; omega) (by simp; omega)
          rw [Lib.extract_to_end] at this; exact this
        have hT := tokLen_le (s.data.toList.drop k)
        have hTs : tokLen (s.data.toList.drop k) ≤ s.size - k := by simpa using hT
        clear hT
        by_cases ht : tokLen (s.data.toList.drop k) = 0
        · have hR := atHead_bad H.out hlt' ht
          rw [ht] at hc1
          have HC1 : Hid (∀ wx, Calls Try.prog 14 #[.string (s.extract k s.size)] wx fun e w' => e = .returned (.int .i64 0) ∧ w' = wx) := hc1
          have HR : Hid (R = ([], k, 2)) := hR
          clear hc1 hR hlt' ht hTs
          go_wp2_with (go_at_call 14; refine (HC1.out _).mono ?_; rintro e w' ⟨rfl, hw'⟩; subst w')
          go_ret3
          rw [HR.out]
          exact ⟨_, rfl, World.ownsRow_nil _ _ _ _, hbel⟩
        · have hA := atHead_tok H.out hlt' ht
          have hc3 : ∀ wx, Calls Try.prog 13 #[.string (s.extract (k + tokLen (s.data.toList.drop k)) s.size)] wx fun e w' => e = .returned (.int .i64 (gap false (s.data.toList.drop (k + tokLen (s.data.toList.drop k))))) ∧ w' = wx := fun wx => by
            have := gapLength_any (s.extract (k + tokLen (s.data.toList.drop k)) s.size) wx (by simp; omega)
            rw [Lib.extract_to_end] at this; exact this
          have hG := gap_le false (s.data.toList.drop (k + tokLen (s.data.toList.drop k)))
          rw [List.length_drop, show s.data.toList.length = s.size from rfl] at hG
          have hst := bs_extract s k (k + tokLen (s.data.toList.drop k))
          rw [Nat.add_sub_cancel_left] at hst
          generalize gap false (s.data.toList.drop (k + tokLen (s.data.toList.drop k))) = G at *
          generalize (s.data.toList.drop k).take (tokLen (s.data.toList.drop k)) = tk at *
          generalize tokLen (s.data.toList.drop k) = T at *
          have HC1 : Hid (∀ wx, Calls Try.prog 14 #[.string (s.extract k s.size)] wx fun e w' => e = .returned (.int .i64 T) ∧ w' = wx) := hc1
          have HC3 : Hid (∀ wx, Calls Try.prog 13 #[.string (s.extract (k + T) s.size)] wx fun e w' => e = .returned (.int .i64 G) ∧ w' = wx) := hc3
          have HA : Hid (AtHead s.data.toList R (k + T + G) (toks ++ [tk])) := hA
          have HS : Hid (s.extract k (k + T) = bs tk) := hst
          have hcl : (s.extract k (k + T)).size ≤ 281474976710656 := by simp; omega
          have hb0 : ((T : Int) == 0) = false := by simp [ht]
          clear hc1 hc3 hA hst hlt'
          go_wp2_with fail
          refine (HC1.out _).mono ?_; rintro e w' ⟨rfl, hw'⟩; subst w'
          go_wp2_with fail
          refine (Clone_any _ _ hcl).mono ?_; rintro e w1 ⟨rfl, hb1⟩
          have hown1 := ownsRow_below hown hb1
          have hbel1 : Below w.heap.size w w1 := hbel.trans (hb1.mono hbel.size)
          clear hown hbel hb1
          go_wp2_with (at_builtin; refine wpList_append_own _ rfl _ _ 22 rfl w.heap.size 9 i0 (.string ByteArray.empty) 1 16 Try.underlying22 hi hz0 hz1 hz2 rfl (by decide) _ _ _ rfl (hown1.alloc _) ⟨w1.heap.size, 0, none⟩ 1 1 [.string (s.extract k (k + T))] rfl rfl ?c1 ?c2 ?c3 ?c4 ?c5 ?_)
          case c1 => exact cell_one_new _ _ _
          case c2 => intro u hu; simp at hu; subst hu; rfl
          case c3 => unfold maxLen; omega
          case c4 => omega
          case c5 => have := hbel1.size; simp; omega
          · intro v' w2 hown' hgrow _
            have hbel2 : Below w.heap.size w w2 := (hbel1.alloc hbel1.size _).grown hgrow (by have := hbel1.size; simp; omega) (fun g hg => (hown1.lt g hg).1)
            have hown2 : w2.ownsRow w.heap.size 9 1 v' (toks ++ [tk]).length ((toks ++ [tk]).map strV) := by
              rw [List.length_append, List.map_append]
              rw [HS.out] at hown'
              exact hown'
            clear hown' hgrow hown1 hbel1
            go_wp2_with (go_at_call 13; refine (HC3.out _).mono ?_; rintro e w' ⟨rfl, hw'⟩; subst w')
            go_roundw
            case rel => exact ⟨k + T + G, toks ++ [tk], by omega, by go_num, by simp; omega, hown2, hbel2, HA⟩
            case measure => simp [intOf]; omega
      · have hR := atHead_end H.out (show s.size ≤ k by omega)
        have HR : Hid (R = (toks, 0, 0)) := hR
        clear hR
        go_wp2
        go_ret3
        rw [HR.out]
        exact ⟨_, rfl, hown, hbel⟩

end Go.Proofs.Ytnocnkblhjifjaa
