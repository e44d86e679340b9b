/-
  kilnref.Cut by its contract: what it answers is what the plain function cutL says.
-/
import Derived.Test.YtnocnkblhjifjaaRefSign
import Derived.Test.YtnocnkblhjifjaaPlain5
namespace Go.Proofs.Ytnocnkblhjifjaa
open Go.RowKit

theorem Try.infoTok : (Try.prog.info? 42).map (fun i => (i.zero, i.size, i.bytes)) = some (some (.agg #[.int .u8 0, .string ByteArray.empty]), 2, 24) := by kernel_rfl

set_option maxHeartbeats 2000000 in
theorem refCut_any (s : ByteArray) (w : World) (hs : s.size ≤ maxLen) :
    Calls Try.prog 16 #[.string s] w fun e w' => ∃ v, e = .returned (.tuple #[v, .int .i64 (cutL s.data.toList).2.1, .int .i64 (cutL s.data.toList).2.2]) ∧
      w'.ownsRow w.heap.size 42 2 v (cutL s.data.toList).1.length ((cutL s.data.toList).1.flatMap tkV) ∧ Below w.heap.size w w' := by
  have hs' : s.size ≤ 9223372036854775807 := hs
  by_cases hbig : 4000 < s.size
  · have hR : cutL s.data.toList = ([], 0, 1) := by
      unfold cutL; rw [if_pos (show 4000 < s.data.toList.length from hbig)]
    rw [hR]
    go_enter Try.func16, Try.ntmps16
    go_wp2
    go_ret3
    exact ⟨_, rfl, World.ownsRow_nil _ _ _ _, Below.refl _ _⟩
  · have hR : cutL s.data.toList = cutF (s.data.toList.length + 1) s.data.toList 0 [] := by
      unfold cutL; rw [if_neg (show ¬ 4000 < s.data.toList.length from hbig)]
    have hst := atRef_start s.data.toList
    rw [← hR] at hst
    clear hR
    generalize cutL s.data.toList = R at *
    have HST := hide hst
    clear hst
    obtain ⟨i0, hi, hz0, hz1, hz2⟩ := info_parts Try.infoTok
    have hb4 : decide ((4000 : Int) < s.size) = false := by simp; omega
    go_enter Try.func16, Try.ntmps16
    go_wp2
    go_loopw [5, 6] (fun v i wr => ∃ (k : Nat) (toks : List (List UInt8)), k ≤ s.size ∧ i = .int .i64 k ∧ toks.length ≤ k ∧ wr.ownsRow w.heap.size 42 2 v toks.length (toks.flatMap tkV) ∧ Below w.heap.size w wr ∧ Hid (AtRef s.data.toList R k toks))
      (fun _ i _ => s.size - (intOf i).toNat)
    case atStart => exact ⟨0, [], Nat.zero_le _, rfl, Nat.zero_le _, World.ownsRow_nil _ _ _ _, Below.refl _ _, HST⟩
    case round =>
      obtain ⟨k, toks, hk, rfl, htl, hown, hbel, H⟩ := hrel
      by_cases hlt : k < s.size
      · have hc1 := fun wx => in_at_blankK s[k] wx
        cases hb : blankB s[k].toNat
        · rw [hb] at hc1
          cases h35 : ((s[k].toNat : Int) == 35)
          · have hg := gap_other s.data.toList k hlt hb (u8_ne (n := 35) (by omega) h35)
            have hc2 := fun wx => next_any s k wx hs hlt
            unfold NextSaid at hc2
            have hT := tokLen_le (s.data.toList.drop k)
            have hTs : tokLen (s.data.toList.drop k) ≤ s.size - k := by simpa using hT
            clear hT
            by_cases ht : tokLen (s.data.toList.drop k) = 0
            · have hR := atHead_bad (atRef_head H.out hg) (show k < s.data.toList.length from hlt) ht
              rw [(kind_zero _).2 ht] at hc2
              generalize bs ((s.data.toList.drop k).take (tokLen (s.data.toList.drop k))) = tx at *
              have HC1 := hide hc1
              have HC2 := hide hc2
              have HR := hide hR
              clear hc1 hc2 hR hg ht hTs hb
              go_wp2_with fail
              refine (HC1.out _).mono ?_; rintro e w' ⟨rfl, hw'⟩; subst w'
              go_wp2_with fail
              refine (HC2.out _).mono ?_; rintro e w1 ⟨rfl, hb1⟩
              go_wp2_with fail
              go_ret3
              rw [HR.out]
              exact ⟨_, rfl, World.ownsRow_nil _ _ _ _, (hbel.trans (hb1.mono hbel.size)).alloc (Nat.le_trans hbel.size hb1.size) _⟩
            · have hA := atRef_tok H.out hg (show k < s.data.toList.length from hlt) ht
              have hks := kind_self (s.data.toList.drop k) ht
              rw [← hks] at hc2
              have hkn : tokKind ((s.data.toList.drop k).take (tokLen (s.data.toList.drop k))) ≠ 0 := by rw [hks]; exact fun h => ht ((kind_zero _).1 h)
              have hsz : (bs ((s.data.toList.drop k).take (tokLen (s.data.toList.drop k)))).size = tokLen (s.data.toList.drop k) := by
                show ((s.data.toList.drop k).take (tokLen (s.data.toList.drop k))).toArray.size = _
                have : s.data.toList.length = s.size := rfl
                simp; omega
              have hcell : tkV ((s.data.toList.drop k).take (tokLen (s.data.toList.drop k))) = [.int .u8 (tokKind ((s.data.toList.drop k).take (tokLen (s.data.toList.drop k)))), .string (bs ((s.data.toList.drop k).take (tokLen (s.data.toList.drop k))))] := rfl
              clear hks
              generalize (s.data.toList.drop k).take (tokLen (s.data.toList.drop k)) = tk at *
              generalize tokLen (s.data.toList.drop k) = T at *
              generalize tokKind tk = kd at *
              generalize hbx : bs tk = bx at *
              clear hbx
              have hkb : (kd == 0) = false := by simpa using hkn
              have HC1 := hide hc1
              have HC2 := hide hc2
              have HA := hide hA
              have HV := hide hcell
              clear hc1 hc2 hA hg hb hcell hkn
              go_wp2_with fail
              refine (HC1.out _).mono ?_; rintro e w' ⟨rfl, hw'⟩; subst w'
              go_wp2_with fail
              refine (HC2.out _).mono ?_; rintro e w1 ⟨rfl, hb1⟩
              have hown1 := ownsRow_below hown hb1
              have hbel1 : Below w.heap.size w w1 := hbel.trans (hb1.mono hbel.size)
              clear hown hbel hb1
              go_wp2_with (at_builtin; refine wpList_append_own _ rfl _ _ 38 rfl w.heap.size 42 i0 (.agg #[.int .u8 0, .string ByteArray.empty]) 2 24 Try.underlying38 hi hz0 hz1 hz2 rfl (by decide) _ _ _ rfl ((hown1.alloc _).alloc _) ⟨w1.heap.size + 1, 0, none⟩ 1 1 [.int .u8 kd, .string bx] rfl rfl ?c1 ?c2 ?c3 ?c4 ?c5 ?_)
              case c1 =>
                intro j u hj
                match j, hj with
                | 0, hj => simp at hj; subst hj; simp [Addr.add]
                | 1, hj => simp at hj; subst hj; simp [Addr.add]
              case c2 => intro u hu; simp at hu; rcases hu with rfl | rfl <;> rfl
              case c3 => unfold maxLen; omega
              case c4 => omega
              case c5 => have := hbel1.size; simp; omega
              · intro v' w2 hown' hgrow _
                have hbel2 : Below w.heap.size w w2 := ((hbel1.alloc hbel1.size _).alloc (by have := hbel1.size; simp; omega) _).grown hgrow (by have := hbel1.size; simp; omega) (fun g hg => (hown1.lt g hg).1)
                have hown2 : w2.ownsRow w.heap.size 42 2 v' (toks ++ [tk]).length ((toks ++ [tk]).flatMap tkV) := by
                  rw [List.length_append, List.flatMap_append, List.flatMap_cons, List.flatMap_nil, HV.out]
                  exact hown'
                have hcell2 : w2.cell? ⟨w1.heap.size, 1, none⟩ = some (.string bx) := by
                  rw [World.cell?_of_block (hgrow.block w1.heap.size (by simp; omega) (fun e => by have := (hown1.lt _ e.symm).2; omega))]; simp
                clear hown' hgrow hown1 hbel1
                go_wp2
                go_roundw
                case rel => exact ⟨k + T, toks ++ [tk], by omega, by go_num, by simp; omega, hown2, hbel2, HA⟩
                case measure => simp [intOf]; omega
          · have hc35 : s[k] = 35 := by
              rw [beq_iff_eq] at h35
              exact UInt8.toNat_inj.1 (by rw [show (35 : UInt8).toNat = 35 from rfl]; omega)
            have hr := gap_remark s.data.toList k hlt hc35
            have hle := cnt_le no10B (s.data.toList.drop k)
            rw [List.length_drop, show s.data.toList.length = s.size from rfl] at hle
            have HA := hide (atRef_gap (j := k + cnt no10B (s.data.toList.drop k)) H.out (by omega) (by omega) (show k < s.data.toList.length from hlt))
            have hn1 := hr.2
            have HC1 := hide hc1
            clear hc1 hb hc35 hr
            generalize hn : cnt no10B (s.data.toList.drop k) = n at *
            have HN := hide hn
            clear hn
            go_wp2_with fail
            refine (HC1.out _).mono ?_; rintro e w' ⟨rfl, hw'⟩; subst w'
            go_wp2_with fail
            go_loop [6] (fun i => ∃ j : Nat, k ≤ j ∧ j ≤ s.size ∧ i = .int .i64 j ∧ Hid (cnt no10B (s.data.toList.drop k) = (j - k) + cnt no10B (s.data.toList.drop j))) (fun i => s.size - (intOf i).toNat)
            case atStart => exact ⟨k, Nat.le_refl _, by omega, rfl, show cnt _ _ = _ by simp⟩
            case round =>
              obtain ⟨j, hkj, hj, rfl, HJ⟩ := hrel
              by_cases hjl : j < s.size
              · have hd : decide ((j : Int) < s.size) = true := by simp; omega
                cases hb : ((s[j].toNat : Int) != 10)
                · have HB := hide (cntS_no no10B s j hjl hb)
                  go_wp2_with fail
                  have hjn : j = k + n := by have a := HJ.out; have b := HB.out; have c := HN.out; omega
                  exact ⟨⟨k + n, toks, by omega, by rw [hjn], by omega, hown, hbel, HA⟩, by simp [intOf]; omega⟩
                · have HB := hide (cntS_yes no10B s j hjl hb)
                  go_wp2
                  go_round
                  case rel => exact ⟨j + 1, by omega, by omega, by go_num, show cnt _ _ = _ by rw [HJ.out, HB.out]; omega⟩
                  case measure => simp [intOf]; omega
              · have hd : decide ((j : Int) < s.size) = false := by simp; omega
                have HB := hide (cntS_end no10B s j (by omega))
                go_wp2_with fail
                have hjn : j = k + n := by have a := HJ.out; have b := HB.out; have c := HN.out; omega
                exact ⟨⟨k + n, toks, by omega, by rw [hjn], by omega, hown, hbel, HA⟩, by simp [intOf]; omega⟩
        · rw [hb] at hc1
          have HG : Hid (gap false (s.data.toList.drop k) = 1 + gap false (s.data.toList.drop (k + 1))) := gap_blank s.data.toList k hlt hb
          have HA := hide (atRef_gap (j := k + 1) H.out (by omega) (by have := HG.out; omega) (show k < s.data.toList.length from hlt))
          have HC1 := hide hc1
          clear hc1 hb
          go_wp2_with fail
          refine (HC1.out _).mono ?_; rintro e w' ⟨rfl, hw'⟩; subst w'
          go_wp2_with fail
          go_roundw
          case rel => exact ⟨k + 1, toks, by omega, by go_num, by omega, hown, hbel, HA⟩
          case measure => simp [intOf]; omega
      · have hR := atRef_end H.out (show s.size ≤ k by omega)
        have HR := hide hR
        clear hR
        go_wp2
        go_ret3
        rw [HR.out]
        exact ⟨_, rfl, hown, hbel⟩

end Go.Proofs.Ytnocnkblhjifjaa
