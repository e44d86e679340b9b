/-
  The law kilnkeep.Joined, walked by contracts: at every text and number it returns true; of what was there nothing has turned.
-/
import Derived.Test.YtnocnkblhjifjaaSame
import Derived.Test.YtnocnkblhjifjaaPlain6
import Derived.Test.YtnocnkblhjifjaaTokensLaw
namespace Go.Proofs.Ytnocnkblhjifjaa
open Go.RowKit

theorem pick_neg (c : Int) (h : c < 0) : -(c + 1).tmod 4 = (-(c + 1)) % 4 := by
  rw [← Int.neg_tmod, Int.tmod_eq_emod_of_nonneg (by omega)]

set_option maxHeartbeats 400000 in
theorem pick4_any (c : Int) (w : World) (h1 : -9223372036854775808 ≤ c) (h2 : c ≤ 9223372036854775807) :
    Calls Try.prog 9 #[.int .i64 c, .int .i64 4] w fun e w' => e = .returned (.int .i64 ((if c < 0 then -(c + 1) else c) % 4)) ∧ w' = w := by
  by_cases h : c < 0
  · rw [if_pos h, ← pick_neg c h]
    go_enter Try.func9, Try.ntmps9
    go_wp2
    go_ret
    exact ⟨rfl, rfl⟩
  · rw [if_neg h]
    go_enter Try.func9, Try.ntmps9
    go_wp2
    go_ret
    exact ⟨rfl, rfl⟩

theorem cut_abc : cutL [97, 45, 62, 98, 35, 99] = ([[97], [45, 62], [98]], 0, 0) := by decide +kernel

theorem between_idx (p : Int) (h0 : 0 ≤ p) (h4 : p < 4) : ∃ b, Between b ∧ ∀ w, (Instr.index 30 (.agg #[.string ⟨#[32]⟩, .string ⟨#[10]⟩, .string ⟨#[35, 120, 10]⟩, .string ⟨#[9, 32]⟩]) (.int .i64 p)).run Try.prog w = .ok (.string (bs b)) w := by
  rcases (show p = 0 ∨ p = 1 ∨ p = 2 ∨ p = 3 from by omega) with rfl | rfl | rfl | rfl
  · exact ⟨[32], Or.inl rfl, fun _ => by kernel_rfl⟩
  · exact ⟨[10], Or.inr (Or.inl rfl), fun _ => by kernel_rfl⟩
  · exact ⟨[35, 120, 10], Or.inr (Or.inr (Or.inl rfl)), fun _ => by kernel_rfl⟩
  · exact ⟨[9, 32], Or.inr (Or.inr (Or.inr rfl)), fun _ => by kernel_rfl⟩

theorem bs_append (x y : List UInt8) : bs x ++ bs y = bs (x ++ y) := by
  apply ByteArray.ext
  simp [bs]

theorem bs_size (x : List UInt8) : (bs x).size = x.length := rfl

theorem joinL_succ (b : List UInt8) (toks : List (List UInt8)) (k : Nat) (hlt : k < toks.length) : joinL b (toks.take (k + 1)) = joinL b (toks.take k) ++ (toks.getD k [] ++ b) := by
  rw [List.take_succ_eq_append_getElem hlt, List.getD_eq_getElem?_getD, List.getElem?_eq_getElem hlt]
  unfold joinL
  rw [List.flatMap_append, List.flatMap_cons, List.flatMap_nil, List.append_nil]
  rfl

set_option maxHeartbeats 2000000 in
theorem walkJoined (s : ByteArray) (c : Int) (hs : s.size ≤ maxLen) (h1 : -9223372036854775808 ≤ c) (h2 : c ≤ 9223372036854775807) (w : World) :
    Calls Try.prog 4 #[.string s, .int .i64 c] w fun e w' => e = .returned (.bool true) ∧ Below w.heap.size w w' := by
  have hs' : s.size ≤ 9223372036854775807 := hs
  have hc1 := fun wx => kilnTokens_any ⟨#[97, 45, 62, 98, 35, 99]⟩ wx (by decide)
  rw [show cutL (ByteArray.mk #[97, 45, 62, 98, 35, 99]).data.toList = _ from cut_abc] at hc1
  have hc2 := fun wx => kilnTokens_any s wx hs
  have herr := cutL_err s.data.toList
  have hgood := cutL_good s.data.toList
  have hlen := cutL_len s.data.toList
  rw [show s.data.toList.length = s.size from rfl] at herr
  generalize cutL s.data.toList = R at *
  obtain ⟨toks, at_, en⟩ := R
  simp only at herr hlen hc2
  have HC1 := hide hc1
  clear hc1
  rcases herr with ⟨rfl, rfl⟩ | ⟨rfl, ⟨rfl, rfl⟩ | ⟨rfl, hat⟩⟩
  · have HC2 := hide hc2
    have HG := hide (hgood toks rfl)
    clear hc2 hgood
    go_enter Try.func4, Try.ntmps4
    go_wp2_with fail
    refine (HC1.out _).mono ?_; rintro e w1 ⟨v1, rfl, hown1, hbel1⟩
    go_wp2_with fail
    have hownA := hown1.alloc (.cells #[.string ⟨#[97]⟩, .string ⟨#[45, 62]⟩, .string ⟨#[98]⟩] 9)
    have hownB := World.ownsRow_lit (base := w1.heap.size) (e := 9) (size := 1) w1 #[.string ⟨#[97]⟩, .string ⟨#[45, 62]⟩, .string ⟨#[98]⟩] 3 (Nat.le_refl _) (by decide) rfl
    have hbel2 : Below w.heap.size w (w1.alloc (.cells #[.string ⟨#[97]⟩, .string ⟨#[45, 62]⟩, .string ⟨#[98]⟩] 9)) := hbel1.alloc hbel1.size _
    refine (keepSame_yes [[97], [45, 62], [98]] _ _ _ _ _ (by decide) hownA hownB).mono ?_; rintro e w3 ⟨rfl, nq, hw3⟩
    have hbel3 : Below w.heap.size w w3 := by rw [hw3]; exact below_drewN' hbel2 nq
    clear hw3 hown1 hbel1 hownA hownB hbel2
    go_wp2_with fail
    refine (HC2.out _).mono ?_; rintro e w4 ⟨v4, rfl, hown4, hbel4⟩
    have hbel5 : Below w.heap.size w w4 := hbel3.trans (hbel4.mono hbel3.size)
    have hown5 : w4.ownsRow w.heap.size 9 1 v4 toks.length (toks.map strV) := ownsRow_le hown4 hbel3.size
    clear hbel3 hbel4 hown4
    have hp1 : 0 ≤ (if c < 0 then -(c + 1) else c) % 4 := by omega
    have hp2 : (if c < 0 then -(c + 1) else c) % 4 < 4 := by omega
    have hcp := fun wx => pick4_any c wx h1 h2
    generalize (if c < 0 then -(c + 1) else c) % 4 = pk at *
    obtain ⟨b, hbt, hidx⟩ := between_idx pk hp1 hp2
    have HCP := hide hcp
    have HB := hide hbt
    have hbl : b.length ≤ 3 := by rcases hbt with rfl | rfl | rfl | rfl <;> decide
    have hbz : (bs b).size ≤ 3 := hbl
    clear hcp hbt hbl
    generalize hB : bs b = B at *
    have HBB := hide hB
    clear hB
    go_wp2_with fail
    refine (HCP.out _).mono ?_; rintro e w' ⟨rfl, hw'⟩; subst w'
    obtain ⟨ao, cap, rfl, hao⟩ : ∃ ao cap, v4 = .slice ao toks.length cap ∧ (0 < toks.length → ∃ g, ao = some ⟨g, 0, none⟩ ∧ ∀ k, k < toks.length → w4.cell? ⟨g, k, none⟩ = some (strV (toks.getD k []))) := by
      rcases ownsRow_forms hown5 with ⟨rfl, h0⟩ | ⟨g, cap, rfl⟩
      · rw [h0]; exact ⟨none, 0, rfl, fun h => by omega⟩
      · refine ⟨_, _, rfl, fun _ => ⟨g, rfl, fun k hk => ?_⟩⟩
        rw [hown5.cellAt k (by omega), List.getElem?_map, List.getElem?_eq_getElem hk, List.getD_eq_getElem?_getD, List.getElem?_eq_getElem hk]; rfl
    have HAO := hide hao
    have HO := hide hown5
    clear hao hown5
    go_wp2_with fail
    go_loop [10, 11] (fun st i => ∃ (k : Nat) (S : ByteArray), k ≤ toks.length ∧ i = .int .i64 k ∧ st = .string S ∧ S.size ≤ 4003 * k ∧ Hid (S = bs (joinL b (toks.take k)))) (fun _ i => toks.length - (intOf i).toNat)
    case atStart => exact ⟨0, _, Nat.zero_le _, rfl, rfl, Nat.zero_le _, show _ = _ by rfl⟩
    case round =>
      obtain ⟨k, S, hk, rfl, rfl, hSz, HS⟩ := hrel
      by_cases hlt : k < toks.length
      · obtain ⟨g, rfl, hcl⟩ := HAO.out (by omega)
        have hcell : w4.cell? ⟨g, k, none⟩ = some (.string (bs (toks.getD k []))) := hcl k hlt
        clear hcl HAO
        have htz : (toks.getD k []).length ≤ 4000 := by
          rw [List.getD_eq_getElem?_getD, List.getElem?_eq_getElem hlt]
          exact (HG.out _ (List.getElem_mem hlt)).2
        have hjn := joinL_succ b toks k hlt
        have HJ := hide hjn
        clear hjn
        generalize toks.getD k [] = tk at *
        have hsz1 : (bs tk).size ≤ 4000 := htz
        generalize hX : bs tk = X at *
        have HX := hide hX
        clear hX htz
        have hadd1 : S.size + X.size ≤ 9223372036854775807 := by omega
        have hadd2 : S.size + X.size + B.size ≤ 9223372036854775807 := by omega
        go_wp2_with fail
        refine ⟨⟨k + 1, S ++ X ++ B, by omega, by go_num, rfl, ?_, ?_⟩, by simp [intOf]; omega⟩
        · rw [ByteArray.size_append, ByteArray.size_append]; omega
        · show _ = _
          rw [HJ.out, HS.out, ← HX.out, ← HBB.out, bs_append, bs_append, List.append_assoc]
      · have hk2 : k = toks.length := by omega
        subst hk2
        rw [List.take_length] at HS
        have hSl : S.data.toList = joinL b toks := by rw [HS.out, bs_data]
        have hSn : S.size = (joinL b toks).length := by rw [HS.out]; rfl
        have hSm : S.size ≤ maxLen := by unfold maxLen; omega
        have hc5 := fun wx => kilnTokens_any S wx hSm
        rw [hSl] at hc5
        by_cases hb4 : 4000 < S.size
        · have hR : cutL (joinL b toks) = ([], 0, 1) := by unfold cutL; rw [if_pos (by omega)]
          rw [hR] at hc5
          have HC5 := hide hc5
          have hd4 : decide ((4000 : Int) < S.size) = true := by simp; omega
          clear hc5 hR hSl hSn HAO
          go_wp2_with fail
          refine (HC5.out _).mono ?_; rintro e w6 ⟨v6, rfl, hown6, hbel6⟩
          have hbel7 : Below w.heap.size w w6 := hbel5.trans (hbel6.mono hbel5.size)
          clear hown6 hbel6 hbel5
          go_wp2_with fail
          go_ret
          exact ⟨rfl, hbel7⟩
        · have hR := cutL_join HB.out toks (fun t ht => (HG.out t ht).1) (by omega)
          rw [hR] at hc5
          have HC5 := hide hc5
          have hd4 : decide ((4000 : Int) < S.size) = false := by simp; omega
          clear hc5 hR hSl hSn HAO
          go_wp2_with fail
          refine (HC5.out _).mono ?_; rintro e w6 ⟨v6, rfl, hown6, hbel6⟩
          have hown7 := ownsRow_below HO.out hbel6
          have hbel7 : Below w.heap.size w w6 := hbel5.trans (hbel6.mono hbel5.size)
          clear hbel6 hbel5 HO
          go_wp2_with fail
          refine (keepSame_yes toks _ _ _ _ _ (by omega) hown6 hown7).mono ?_; rintro e w8 ⟨rfl, nq8, hw8⟩
          have hbel8 : Below w.heap.size w w8 := by rw [hw8]; exact below_drewN' hbel7 nq8
          clear hw8 hown6 hown7 hbel7
          go_wp2_with fail
          go_ret
          exact ⟨rfl, hbel8⟩
  · have HC2 := hide hc2
    clear hc2 hgood
    go_enter Try.func4, Try.ntmps4
    go_wp2_with fail
    refine (HC1.out _).mono ?_; rintro e w1 ⟨v1, rfl, hown1, hbel1⟩
    go_wp2_with fail
    have hownA := hown1.alloc (.cells #[.string ⟨#[97]⟩, .string ⟨#[45, 62]⟩, .string ⟨#[98]⟩] 9)
    have hownB := World.ownsRow_lit (base := w1.heap.size) (e := 9) (size := 1) w1 #[.string ⟨#[97]⟩, .string ⟨#[45, 62]⟩, .string ⟨#[98]⟩] 3 (Nat.le_refl _) (by decide) rfl
    have hbel2 : Below w.heap.size w (w1.alloc (.cells #[.string ⟨#[97]⟩, .string ⟨#[45, 62]⟩, .string ⟨#[98]⟩] 9)) := hbel1.alloc hbel1.size _
    refine (keepSame_yes [[97], [45, 62], [98]] _ _ _ _ _ (by decide) hownA hownB).mono ?_; rintro e w3 ⟨rfl, nq, hw3⟩
    have hbel3 : Below w.heap.size w w3 := by rw [hw3]; exact below_drewN' hbel2 nq
    clear hw3 hown1 hbel1 hownA hownB hbel2
    go_wp2_with fail
    refine (HC2.out _).mono ?_; rintro e w4 ⟨v4, rfl, hown4, hbel4⟩
    have hbel5 : Below w.heap.size w w4 := hbel3.trans (hbel4.mono hbel3.size)
    obtain ⟨ao, cap, rfl⟩ : ∃ ao cap, v4 = .slice ao 0 cap := by
      rcases ownsRow_forms hown4 with ⟨rfl, h0⟩ | ⟨g, cap, rfl⟩
      · exact ⟨_, _, rfl⟩
      · exact ⟨_, _, rfl⟩
    clear hbel3 hbel4 hown4
    go_wp2
    go_ret
    exact ⟨rfl, hbel5⟩
  · have HC2 := hide hc2
    clear hc2 hgood
    go_enter Try.func4, Try.ntmps4
    go_wp2_with fail
    refine (HC1.out _).mono ?_; rintro e w1 ⟨v1, rfl, hown1, hbel1⟩
    go_wp2_with fail
    have hownA := hown1.alloc (.cells #[.string ⟨#[97]⟩, .string ⟨#[45, 62]⟩, .string ⟨#[98]⟩] 9)
    have hownB := World.ownsRow_lit (base := w1.heap.size) (e := 9) (size := 1) w1 #[.string ⟨#[97]⟩, .string ⟨#[45, 62]⟩, .string ⟨#[98]⟩] 3 (Nat.le_refl _) (by decide) rfl
    have hbel2 : Below w.heap.size w (w1.alloc (.cells #[.string ⟨#[97]⟩, .string ⟨#[45, 62]⟩, .string ⟨#[98]⟩] 9)) := hbel1.alloc hbel1.size _
    refine (keepSame_yes [[97], [45, 62], [98]] _ _ _ _ _ (by decide) hownA hownB).mono ?_; rintro e w3 ⟨rfl, nq, hw3⟩
    have hbel3 : Below w.heap.size w w3 := by rw [hw3]; exact below_drewN' hbel2 nq
    clear hw3 hown1 hbel1 hownA hownB hbel2
    go_wp2_with fail
    refine (HC2.out _).mono ?_; rintro e w4 ⟨v4, rfl, hown4, hbel4⟩
    have hbel5 : Below w.heap.size w w4 := hbel3.trans (hbel4.mono hbel3.size)
    obtain ⟨ao, cap, rfl⟩ : ∃ ao cap, v4 = .slice ao 0 cap := by
      rcases ownsRow_forms hown4 with ⟨rfl, h0⟩ | ⟨g, cap, rfl⟩
      · exact ⟨_, _, rfl⟩
      · exact ⟨_, _, rfl⟩
    clear hbel3 hbel4 hown4
    go_wp2
    go_ret
    exact ⟨rfl, hbel5⟩

end Go.Proofs.Ytnocnkblhjifjaa
