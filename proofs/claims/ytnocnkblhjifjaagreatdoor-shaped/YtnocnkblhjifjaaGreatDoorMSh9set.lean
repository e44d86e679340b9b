import Derived.Test.YtnocnkblhjifjaaGreatDoorMSh8
/-
  (*Raw).made, case by case: set.
-/
namespace Go.Proofs.YtnocnkblhjifjaaGreatDoor
open Go.RowKit
attribute [local go_sem ↓] Go.wp_at_zero Go.wp_at_succ

section
variable {rb : Nat} {sv : Value} {raw : List Int}
set_option maxRecDepth 100000 in
set_option maxHeartbeats 8000000 in
theorem made_set (d k0 : Nat) (hd : d ≤ 4) (k1 : Nat) {w : World} (h : RawAt rb sv raw k0 w) (hN : NextIs rb sv raw k0 12 10 k1) (hM : MadeIs rb sv raw d) :
    Calls Tryz.prog 17 #[.pointer (some ⟨rb, 0, none⟩), .int .i64 ((d : Int) + 1)] w (Mk rb sv raw (d + 1) w) := by
  have hrb := h.cell.2.2.1
  have hne : w.heap.size ≠ rb := by omega
  have HBw := hide (Base.start h)
  have HM := hide hM
  clear h hM
  have HN := hide hN
  clear hN
  go_enter Tryz.func17, Tryz.ntmps17
  -- next
  go_wp2_with fail
  refine (HN.out _ HBw.out.rawAt).mono ?_; rintro e w1 ⟨rfl, hr, hk⟩
  have HBw1 := hide (HBw.out.call hr hk hrb)
  have hz_w1 : w.heap.size + 1 ≤ w1.heap.size := by have := hk.size; simpa using this
  clear hr hk
  have hn_w1 : w.heap.size < w1.heap.size := by omega
  go_wp2_with fail
  refine (HM.out _ _ (HBw1.out).rawAt).mono ?_; rintro e w2 ⟨xa, kxa, rfl, hoa, hxa, hr, hk⟩
  have HBw2 := hide ((HBw1.out).call hr hk hrb)
  have hz_w2 : w1.heap.size ≤ w2.heap.size := hk.size
  clear hr hk
  have hn_w2 : w.heap.size < w2.heap.size := by omega
  obtain ⟨hs1a, hs2a, hs3a, hs4a⟩ := xa.sizes hoa (by omega)
  have HXa := hide hxa
  have HOa := hide hoa
  clear hxa hoa
  unfold madeV
  have hA := fun wx => at_any (fb xa) (bb xa) (tb xa) xa.level 1 (by omega) wx
  have hAa0 := atB_size (decide (xa.level < 1)) (bb xa)
  generalize hAta : atB (decide (xa.level < 1)) (bb xa) = Aa at *
  have hAa : Aa.size ≤ 71682 := by omega
  have HAta := hide hAta
  have HAa := hide hA
  clear hA hAta hAa0
  generalize hFa : fb xa = Fa at *
  have HFa := hide hFa
  clear hFa
  generalize hBa : bb xa = Ba at *
  have HBa := hide hBa
  clear hBa
  generalize hTa : tb xa = Ta at *
  have HTa := hide hTa
  clear hTa
  generalize hLa : xa.level = La at *
  have HLa := hide hLa
  clear hLa
  go_wp2_with fail
  refine (HM.out _ _ (HBw2.out.alloc _).rawAt).mono ?_; rintro e w3 ⟨xb, kxb, rfl, hob, hxb, hr, hk⟩
  have HBw3 := hide ((HBw2.out.alloc _).call hr hk hrb)
  have hz_w3 : w2.heap.size + 1 ≤ w3.heap.size := by have := hk.size; simpa using this
  have hAa_w3 : w3.heap[w2.heap.size]? = some (.cells #[.string Fa, .string Ba, .string Ta, .int .i64 La] 35) := (hk.block _ (by first | omega | (simp; done) | (simp; omega)) (by omega)).trans ((heap_new _ _))
  clear hr hk
  have hn_w3 : w.heap.size < w3.heap.size := by omega
  have hla_w3 : w2.heap.size < w3.heap.size := by omega
  obtain ⟨hs1b, hs2b, hs3b, hs4b⟩ := xb.sizes hob (by omega)
  have HXb := hide hxb
  have HOb := hide hob
  clear hxb hob
  unfold madeV
  have hA := fun wx => at_any (fb xb) (bb xb) (tb xb) xb.level 1 (by omega) wx
  have hAb0 := atB_size (decide (xb.level < 1)) (bb xb)
  generalize hAtb : atB (decide (xb.level < 1)) (bb xb) = Ab at *
  have hAb : Ab.size ≤ 71682 := by omega
  have HAtb := hide hAtb
  have HAb := hide hA
  clear hA hAtb hAb0
  generalize hFb : fb xb = Fb at *
  have HFb := hide hFb
  clear hFb
  generalize hBb : bb xb = Bb at *
  have HBb := hide hBb
  clear hBb
  generalize hTb : tb xb = Tb at *
  have HTb := hide hTb
  clear hTb
  generalize hLb : xb.level = Lb at *
  have HLb := hide hLb
  clear hLb
  obtain ⟨k2, hN2 | hN2⟩ := next2 rb sv raw kxb
  · have HN2 := hide hN2
    clear hN2
    -- next
    go_wp2_with fail
    refine (HN2.out _ (HBw3.out.alloc _).rawAt).mono ?_; rintro e w4 ⟨rfl, hr, hk⟩
    have HBw4 := hide ((HBw3.out.alloc _).call hr hk hrb)
    have hz_w4 : w3.heap.size + 1 ≤ w4.heap.size := by have := hk.size; simpa using this
    have hAa_w4 : w4.heap[w2.heap.size]? = some (.cells #[.string Fa, .string Ba, .string Ta, .int .i64 La] 35) := (hk.block _ (by first | omega | (simp; done) | (simp; omega)) (by omega)).trans ((heap_old hla_w3 _).trans hAa_w3)
    have hAb_w4 : w4.heap[w3.heap.size]? = some (.cells #[.string Fb, .string Bb, .string Tb, .int .i64 Lb] 35) := (hk.block _ (by first | omega | (simp; done) | (simp; omega)) (by omega)).trans ((heap_new _ _))
    clear hr hk
    have hn_w4 : w.heap.size < w4.heap.size := by omega
    have hla_w4 : w2.heap.size < w4.heap.size := by omega
    have hlb_w4 : w3.heap.size < w4.heap.size := by omega
    obtain ⟨Zf1, hqZf1, HZf1, hzZf1⟩ := cat ⟨#[40]⟩ Fa (1) 71680 (by decide) hs1a (by decide)
    obtain ⟨Zf2, hqZf2, HZf2, hzZf2⟩ := cat Zf1 ⟨#[41, 32, 58, 61, 32, 40]⟩ (1 + 71680) 6 hzZf1 (by decide) (by decide)
    obtain ⟨Zf3, hqZf3, HZf3, hzZf3⟩ := cat Zf2 Fb (1 + 71680 + 6) 71680 hzZf2 hs1b (by decide)
    obtain ⟨Zf4, hqZf4, HZf4, hzZf4⟩ := cat Zf3 ⟨#[41]⟩ (1 + 71680 + 6 + 71680) 1 hzZf3 (by decide) (by decide)
    obtain ⟨Zb1, hqZb1, HZb1, hzZb1⟩ := cat Aa ⟨#[58, 61]⟩ (71682) 2 hAa (by decide) (by decide)
    obtain ⟨Zb2, hqZb2, HZb2, hzZb2⟩ := cat Zb1 Ab (71682 + 2) 71682 hzZb1 hAb (by decide)
    obtain ⟨Zt1, hqZt1, HZt1, hzZt1⟩ := cat ⟨#[40, 115, 101, 116, 32]⟩ Ta (5) 71680 (by decide) hs3a (by decide)
    obtain ⟨Zt2, hqZt2, HZt2, hzZt2⟩ := cat Zt1 ⟨#[32]⟩ (5 + 71680) 1 hzZt1 (by decide) (by decide)
    obtain ⟨Zt3, hqZt3, HZt3, hzZt3⟩ := cat Zt2 Tb (5 + 71680 + 1) 71680 hzZt2 hs3b (by decide)
    obtain ⟨Zt4, hqZt4, HZt4, hzZt4⟩ := cat Zt3 ⟨#[41]⟩ (5 + 71680 + 1 + 71680) 1 hzZt3 (by decide) (by decide)
    have HV : Hid (madeV (Ex.set xa xb) = .agg #[.string Zf4, .string Zb2, .string Zt4, .int .i64 0]) := by
      show madeV (Ex.set xa xb) = .agg #[.string Zf4, .string Zb2, .string Zt4, .int .i64 0]
      rw [HZf4.out, HZf3.out, HZf2.out, HZf1.out, HZb2.out, HZb1.out, HZt4.out, HZt3.out, HZt2.out, HZt1.out]
      unfold madeV
      rw [fb_set, bb_set, tb_set]
      rw [HFa.out, HBa.out, HTa.out, HLa.out, HAta.out, HFb.out, HBb.out, HTb.out, HLb.out, HAtb.out]
      rfl
    clear HZf1 HZf2 HZf3 HZf4 HZb1 HZb2 HZt1 HZt2 HZt3 HZt4
    obtain ⟨c0a, c1a, c2a, c3a, cfa⟩ := four hAa_w4
    obtain ⟨c0b, c1b, c2b, c3b, cfb⟩ := four hAb_w4
    obtain ⟨r0, r1, r2, r3, rc0, rc1, rc2, rc3, rf⟩ := HBw4.out.cells
    have hda : w.heap.size ≠ w2.heap.size := by omega
    have hdar : w2.heap.size ≠ w.heap.size := by omega
    have hdb : w.heap.size ≠ w3.heap.size := by omega
    have hdbr : w3.heap.size ≠ w.heap.size := by omega
    have hma : w2.heap.size < w4.heap.size + 1 := by omega
    have hmb : w3.heap.size < w4.heap.size + 1 := by omega
    have hBs : ∀ (u : World) (j : Nat) (v : Value), Hid (Base rb sv raw k2 w u) → Hid (Base rb sv raw k2 w (u.setCell ⟨w.heap.size, j, none⟩ v)) := fun u j v h => h.out.set hrb j v
    have HBr : Hid (Base rb sv raw k2 w w4.drew) := HBw4.out.drew
    have hXa : w4.drew.heap[w2.heap.size]? = some (.cells #[.string Fa, .string Ba, .string Ta, .int .i64 La] 35) := hAa_w4
    have hXb : w4.drew.heap[w3.heap.size]? = some (.cells #[.string Fb, .string Bb, .string Tb, .int .i64 Lb] 35) := hAb_w4
    go_wp2_with fail
    go_region_held3 (fun w' => w'.cell? ⟨w2.heap.size, 0, none⟩ = some (.string Fa) ∧ w'.cell? ⟨w2.heap.size, 1, none⟩ = some (.string Ba) ∧ w'.cell? ⟨w2.heap.size, 2, none⟩ = some (.string Ta) ∧ w'.cell? ⟨w2.heap.size, 3, none⟩ = some (.int .i64 La) ∧ w'.cell? ⟨w3.heap.size, 0, none⟩ = some (.string Fb) ∧ w'.cell? ⟨w3.heap.size, 1, none⟩ = some (.string Bb) ∧ w'.cell? ⟨w3.heap.size, 2, none⟩ = some (.string Tb) ∧ w'.cell? ⟨w3.heap.size, 3, none⟩ = some (.int .i64 Lb) ∧ Hid (Base rb sv raw k2 w w')) (first | (simp only [c0a, c1a, c2a, c3a, c0b, c1b, c2b, c3b, true_and]; exact HBu) | (refine ⟨?_, ?_, ?_, ?_, ?_, ?_, ?_, ?_, hBs _ _ _ (hBs _ _ _ (hBs _ _ _ (hBs _ _ _ HBu)))⟩ <;> (go_keep; done)) | (go_keep; done))
      (first | (go_at_call_of 35 (Value.agg #[Value.string Fa, Value.string Ba, Value.string Ta, Value.int IntKind.i64 (La : Int)]); refine (HAa.out _).mono ?_; rintro e u ⟨rfl, hbu⟩; have HBu := hide (Base.below (by assumption) hbu); obtain ⟨r0, r1, r2, r3, rc0, rc1, rc2, rc3, rf⟩ := HBu.out.cells; replace hXa := (hbu.block _ (lt_heap hXa)).trans hXa; obtain ⟨c0a, c1a, c2a, c3a, cfa⟩ := four hXa; replace hXb := (hbu.block _ (lt_heap hXb)).trans hXb; obtain ⟨c0b, c1b, c2b, c3b, cfb⟩ := four hXb; clear hbu) | (go_at_call_of 35 (Value.agg #[Value.string Fb, Value.string Bb, Value.string Tb, Value.int IntKind.i64 (Lb : Int)]); refine (HAb.out _).mono ?_; rintro e u ⟨rfl, hbu⟩; have HBu := hide (Base.below (by assumption) hbu); obtain ⟨r0, r1, r2, r3, rc0, rc1, rc2, rc3, rf⟩ := HBu.out.cells; replace hXa := (hbu.block _ (lt_heap hXa)).trans hXa; obtain ⟨c0a, c1a, c2a, c3a, cfa⟩ := four hXa; replace hXb := (hbu.block _ (lt_heap hXb)).trans hXb; obtain ⟨c0b, c1b, c2b, c3b, cfb⟩ := four hXb; clear hbu))
    all_goals
      go_wp2_with fail
      refine bodyPost_ret (v := .agg #[.string Zf4, .string Zb2, .string Zt4, .int .i64 0]) (by simp [results, Tryz.results17, go_sem, rc0, rc1, rc2, rc3]) rfl ⟨Ex.set xa xb, k2, by rw [HV.out], Ex.Ok.set HOa.out HOb.out, by simp only [Ex.set]; have := HXa.out; have := HXb.out; omega, ?_, ?_⟩
      · exact (hBs _ _ _ (hBs _ _ _ (hBs _ _ _ (hBs _ _ _ HBu)))).out.rawAt
      · exact (hBs _ _ _ (hBs _ _ _ (hBs _ _ _ (hBs _ _ _ HBu)))).out.kr
  · have HN2 := hide hN2
    clear hN2
    -- next
    go_wp2_with fail
    refine (HN2.out _ (HBw3.out.alloc _).rawAt).mono ?_; rintro e w4 ⟨rfl, hr, hk⟩
    have HBw4 := hide ((HBw3.out.alloc _).call hr hk hrb)
    have hz_w4 : w3.heap.size + 1 ≤ w4.heap.size := by have := hk.size; simpa using this
    have hAa_w4 : w4.heap[w2.heap.size]? = some (.cells #[.string Fa, .string Ba, .string Ta, .int .i64 La] 35) := (hk.block _ (by first | omega | (simp; done) | (simp; omega)) (by omega)).trans ((heap_old hla_w3 _).trans hAa_w3)
    have hAb_w4 : w4.heap[w3.heap.size]? = some (.cells #[.string Fb, .string Bb, .string Tb, .int .i64 Lb] 35) := (hk.block _ (by first | omega | (simp; done) | (simp; omega)) (by omega)).trans ((heap_new _ _))
    clear hr hk
    have hn_w4 : w.heap.size < w4.heap.size := by omega
    have hla_w4 : w2.heap.size < w4.heap.size := by omega
    have hlb_w4 : w3.heap.size < w4.heap.size := by omega
    obtain ⟨c0a, c1a, c2a, c3a, cfa⟩ := four hAa_w4
    obtain ⟨c0b, c1b, c2b, c3b, cfb⟩ := four hAb_w4
    go_wp2_with fail
    refine (HAa.out _).mono ?_; rintro e w5 ⟨rfl, hbl⟩
    have HBw5 := hide (Base.below (hide (HBw4.out)) hbl)
    have hz_w5 : w4.heap.size ≤ w5.heap.size := hbl.size
    have hAa_w5 : w5.heap[w2.heap.size]? = some (.cells #[.string Fa, .string Ba, .string Ta, .int .i64 La] 35) := (hbl.block _ (by omega)).trans (hAa_w4)
    have hAb_w5 : w5.heap[w3.heap.size]? = some (.cells #[.string Fb, .string Bb, .string Tb, .int .i64 Lb] 35) := (hbl.block _ (by omega)).trans (hAb_w4)
    clear hbl
    have hn_w5 : w.heap.size < w5.heap.size := by omega
    have hla_w5 : w2.heap.size < w5.heap.size := by omega
    have hlb_w5 : w3.heap.size < w5.heap.size := by omega
    rcases setCases xa HOa.out with ⟨hi, hz, hc⟩ | ⟨hi, hz, hc⟩ | ⟨hi, hz⟩
    · rw [HTa.out] at hz hc
      have HI := hide hi
      clear hi
      have hz4 : (4 : Int) < (Ta.size : Int) := by omega
      obtain ⟨Zf1, hqZf1, HZf1, hzZf1⟩ := cat ⟨#[40]⟩ Fa (1) 71680 (by decide) hs1a (by decide)
      obtain ⟨Zf2, hqZf2, HZf2, hzZf2⟩ := cat Zf1 ⟨#[41, 32, 59, 32, 40]⟩ (1 + 71680) 5 hzZf1 (by decide) (by decide)
      obtain ⟨Zf3, hqZf3, HZf3, hzZf3⟩ := cat Zf2 Fb (1 + 71680 + 5) 71680 hzZf2 hs1b (by decide)
      obtain ⟨Zf4, hqZf4, HZf4, hzZf4⟩ := cat Zf3 ⟨#[41]⟩ (1 + 71680 + 5 + 71680) 1 hzZf3 (by decide) (by decide)
      obtain ⟨Zb1, hqZb1, HZb1, hzZb1⟩ := cat Ba ⟨#[59]⟩ (71680) 1 hs2a (by decide) (by decide)
      obtain ⟨Zb2, hqZb2, HZb2, hzZb2⟩ := cat Zb1 Bb (71680 + 1) 71680 hzZb1 hs2b (by decide)
      obtain ⟨Zt1, hqZt1, HZt1, hzZt1⟩ := cat ⟨#[40, 115, 101, 113, 32]⟩ Ta (5) 71680 (by decide) hs3a (by decide)
      obtain ⟨Zt2, hqZt2, HZt2, hzZt2⟩ := cat Zt1 ⟨#[32]⟩ (5 + 71680) 1 hzZt1 (by decide) (by decide)
      obtain ⟨Zt3, hqZt3, HZt3, hzZt3⟩ := cat Zt2 Tb (5 + 71680 + 1) 71680 hzZt2 hs3b (by decide)
      obtain ⟨Zt4, hqZt4, HZt4, hzZt4⟩ := cat Zt3 ⟨#[41]⟩ (5 + 71680 + 1 + 71680) 1 hzZt3 (by decide) (by decide)
      have HV : Hid (madeV (Ex.seq xa xb) = .agg #[.string Zf4, .string Zb2, .string Zt4, .int .i64 0]) := by
        show madeV (Ex.seq xa xb) = .agg #[.string Zf4, .string Zb2, .string Zt4, .int .i64 0]
        rw [HZf4.out, HZf3.out, HZf2.out, HZf1.out, HZb2.out, HZb1.out, HZt4.out, HZt3.out, HZt2.out, HZt1.out]
        unfold madeV
        rw [fb_seq, bb_seq, tb_seq]
        rw [HFa.out, HBa.out, HTa.out, HLa.out, HFb.out, HBb.out, HTb.out, HI.out]
        simp only [Bool.not_true, Bool.and_false]
        rfl
      clear HZf1 HZf2 HZf3 HZf4 HZb1 HZb2 HZt1 HZt2 HZt3 HZt4
      obtain ⟨c0a, c1a, c2a, c3a, cfa⟩ := four hAa_w5
      obtain ⟨c0b, c1b, c2b, c3b, cfb⟩ := four hAb_w5
      obtain ⟨r0, r1, r2, r3, rc0, rc1, rc2, rc3, rf⟩ := HBw5.out.cells
      have hda : w.heap.size ≠ w2.heap.size := by omega
      have hdar : w2.heap.size ≠ w.heap.size := by omega
      have hdb : w.heap.size ≠ w3.heap.size := by omega
      have hdbr : w3.heap.size ≠ w.heap.size := by omega
      go_wp2_with fail
      obtain ⟨g0, g1, g2, g3, _⟩ := four (fin_block HBw5.out (.string Zf4) (.string Zb2) (.string Zt4) (.int .i64 0))
      refine bodyPost_ret (v := .agg #[.string Zf4, .string Zb2, .string Zt4, .int .i64 0]) (by simp [results, Tryz.results17, go_sem, g0, g1, g2, g3]) rfl ⟨Ex.seq xa xb, k2, by rw [HV.out], Ex.Ok.seq HOa.out HOb.out, by simp only [Ex.seq]; have := HXa.out; have := HXb.out; omega, ?_, ?_⟩
      · exact ((((HBw5.out.set hrb 0 _).set hrb 1 _).set hrb 2 _).set hrb 3 _).rawAt
      · exact ((((HBw5.out.set hrb 0 _).set hrb 1 _).set hrb 2 _).set hrb 3 _).kr
    · rw [HTa.out] at hz hc
      have HI := hide hi
      clear hi
      have hz4 : (4 : Int) < (Ta.size : Int) := by omega
      obtain ⟨Zf1, hqZf1, HZf1, hzZf1⟩ := cat ⟨#[40]⟩ Fa (1) 71680 (by decide) hs1a (by decide)
      obtain ⟨Zf2, hqZf2, HZf2, hzZf2⟩ := cat Zf1 ⟨#[41, 32, 59, 32, 40]⟩ (1 + 71680) 5 hzZf1 (by decide) (by decide)
      obtain ⟨Zf3, hqZf3, HZf3, hzZf3⟩ := cat Zf2 Fb (1 + 71680 + 5) 71680 hzZf2 hs1b (by decide)
      obtain ⟨Zf4, hqZf4, HZf4, hzZf4⟩ := cat Zf3 ⟨#[41]⟩ (1 + 71680 + 5 + 71680) 1 hzZf3 (by decide) (by decide)
      obtain ⟨Zb1, hqZb1, HZb1, hzZb1⟩ := cat Aa ⟨#[59]⟩ (71682) 1 hAa (by decide) (by decide)
      obtain ⟨Zb2, hqZb2, HZb2, hzZb2⟩ := cat Zb1 Bb (71682 + 1) 71680 hzZb1 hs2b (by decide)
      obtain ⟨Zt1, hqZt1, HZt1, hzZt1⟩ := cat ⟨#[40, 115, 101, 113, 32]⟩ Ta (5) 71680 (by decide) hs3a (by decide)
      obtain ⟨Zt2, hqZt2, HZt2, hzZt2⟩ := cat Zt1 ⟨#[32]⟩ (5 + 71680) 1 hzZt1 (by decide) (by decide)
      obtain ⟨Zt3, hqZt3, HZt3, hzZt3⟩ := cat Zt2 Tb (5 + 71680 + 1) 71680 hzZt2 hs3b (by decide)
      obtain ⟨Zt4, hqZt4, HZt4, hzZt4⟩ := cat Zt3 ⟨#[41]⟩ (5 + 71680 + 1 + 71680) 1 hzZt3 (by decide) (by decide)
      have HV : Hid (madeV (Ex.seq xa xb) = .agg #[.string Zf4, .string Zb2, .string Zt4, .int .i64 0]) := by
        show madeV (Ex.seq xa xb) = .agg #[.string Zf4, .string Zb2, .string Zt4, .int .i64 0]
        rw [HZf4.out, HZf3.out, HZf2.out, HZf1.out, HZb2.out, HZb1.out, HZt4.out, HZt3.out, HZt2.out, HZt1.out]
        unfold madeV
        rw [fb_seq, bb_seq, tb_seq]
        rw [HFa.out, HBa.out, HTa.out, HLa.out, HFb.out, HBb.out, HTb.out, HI.out]
        simp only [Bool.not_false, Bool.and_true]
        rw [HAta.out]
        rfl
      clear HZf1 HZf2 HZf3 HZf4 HZb1 HZb2 HZt1 HZt2 HZt3 HZt4
      obtain ⟨c0a, c1a, c2a, c3a, cfa⟩ := four hAa_w5
      obtain ⟨c0b, c1b, c2b, c3b, cfb⟩ := four hAb_w5
      obtain ⟨r0, r1, r2, r3, rc0, rc1, rc2, rc3, rf⟩ := HBw5.out.cells
      have hda : w.heap.size ≠ w2.heap.size := by omega
      have hdar : w2.heap.size ≠ w.heap.size := by omega
      have hdb : w.heap.size ≠ w3.heap.size := by omega
      have hdbr : w3.heap.size ≠ w.heap.size := by omega
      go_wp2_with fail
      obtain ⟨g0, g1, g2, g3, _⟩ := four (fin_block HBw5.out (.string Zf4) (.string Zb2) (.string Zt4) (.int .i64 0))
      refine bodyPost_ret (v := .agg #[.string Zf4, .string Zb2, .string Zt4, .int .i64 0]) (by simp [results, Tryz.results17, go_sem, g0, g1, g2, g3]) rfl ⟨Ex.seq xa xb, k2, by rw [HV.out], Ex.Ok.seq HOa.out HOb.out, by simp only [Ex.seq]; have := HXa.out; have := HXb.out; omega, ?_, ?_⟩
      · exact ((((HBw5.out.set hrb 0 _).set hrb 1 _).set hrb 2 _).set hrb 3 _).rawAt
      · exact ((((HBw5.out.set hrb 0 _).set hrb 1 _).set hrb 2 _).set hrb 3 _).kr
    · rw [HTa.out] at hz
      have HI := hide hi
      clear hi
      have hz4 : ¬ (4 : Int) < (Ta.size : Int) := by omega
      obtain ⟨Zf1, hqZf1, HZf1, hzZf1⟩ := cat ⟨#[40]⟩ Fa (1) 71680 (by decide) hs1a (by decide)
      obtain ⟨Zf2, hqZf2, HZf2, hzZf2⟩ := cat Zf1 ⟨#[41, 32, 59, 32, 40]⟩ (1 + 71680) 5 hzZf1 (by decide) (by decide)
      obtain ⟨Zf3, hqZf3, HZf3, hzZf3⟩ := cat Zf2 Fb (1 + 71680 + 5) 71680 hzZf2 hs1b (by decide)
      obtain ⟨Zf4, hqZf4, HZf4, hzZf4⟩ := cat Zf3 ⟨#[41]⟩ (1 + 71680 + 5 + 71680) 1 hzZf3 (by decide) (by decide)
      obtain ⟨Zb1, hqZb1, HZb1, hzZb1⟩ := cat Aa ⟨#[59]⟩ (71682) 1 hAa (by decide) (by decide)
      obtain ⟨Zb2, hqZb2, HZb2, hzZb2⟩ := cat Zb1 Bb (71682 + 1) 71680 hzZb1 hs2b (by decide)
      obtain ⟨Zt1, hqZt1, HZt1, hzZt1⟩ := cat ⟨#[40, 115, 101, 113, 32]⟩ Ta (5) 71680 (by decide) hs3a (by decide)
      obtain ⟨Zt2, hqZt2, HZt2, hzZt2⟩ := cat Zt1 ⟨#[32]⟩ (5 + 71680) 1 hzZt1 (by decide) (by decide)
      obtain ⟨Zt3, hqZt3, HZt3, hzZt3⟩ := cat Zt2 Tb (5 + 71680 + 1) 71680 hzZt2 hs3b (by decide)
      obtain ⟨Zt4, hqZt4, HZt4, hzZt4⟩ := cat Zt3 ⟨#[41]⟩ (5 + 71680 + 1 + 71680) 1 hzZt3 (by decide) (by decide)
      have HV : Hid (madeV (Ex.seq xa xb) = .agg #[.string Zf4, .string Zb2, .string Zt4, .int .i64 0]) := by
        show madeV (Ex.seq xa xb) = .agg #[.string Zf4, .string Zb2, .string Zt4, .int .i64 0]
        rw [HZf4.out, HZf3.out, HZf2.out, HZf1.out, HZb2.out, HZb1.out, HZt4.out, HZt3.out, HZt2.out, HZt1.out]
        unfold madeV
        rw [fb_seq, bb_seq, tb_seq]
        rw [HFa.out, HBa.out, HTa.out, HLa.out, HFb.out, HBb.out, HTb.out, HI.out]
        simp only [Bool.not_false, Bool.and_true]
        rw [HAta.out]
        rfl
      clear HZf1 HZf2 HZf3 HZf4 HZb1 HZb2 HZt1 HZt2 HZt3 HZt4
      obtain ⟨c0a, c1a, c2a, c3a, cfa⟩ := four hAa_w5
      obtain ⟨c0b, c1b, c2b, c3b, cfb⟩ := four hAb_w5
      obtain ⟨r0, r1, r2, r3, rc0, rc1, rc2, rc3, rf⟩ := HBw5.out.cells
      have hda : w.heap.size ≠ w2.heap.size := by omega
      have hdar : w2.heap.size ≠ w.heap.size := by omega
      have hdb : w.heap.size ≠ w3.heap.size := by omega
      have hdbr : w3.heap.size ≠ w.heap.size := by omega
      go_wp2_with fail
      obtain ⟨g0, g1, g2, g3, _⟩ := four (fin_block HBw5.out (.string Zf4) (.string Zb2) (.string Zt4) (.int .i64 0))
      refine bodyPost_ret (v := .agg #[.string Zf4, .string Zb2, .string Zt4, .int .i64 0]) (by simp [results, Tryz.results17, go_sem, g0, g1, g2, g3]) rfl ⟨Ex.seq xa xb, k2, by rw [HV.out], Ex.Ok.seq HOa.out HOb.out, by simp only [Ex.seq]; have := HXa.out; have := HXb.out; omega, ?_, ?_⟩
      · exact ((((HBw5.out.set hrb 0 _).set hrb 1 _).set hrb 2 _).set hrb 3 _).rawAt
      · exact ((((HBw5.out.set hrb 0 _).set hrb 1 _).set hrb 2 _).set hrb 3 _).kr

end
end Go.Proofs.YtnocnkblhjifjaaGreatDoor
