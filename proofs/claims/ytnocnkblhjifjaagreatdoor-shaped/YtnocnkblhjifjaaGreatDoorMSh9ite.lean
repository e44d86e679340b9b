import Derived.Test.YtnocnkblhjifjaaGreatDoorMSh8
/-
  (*Raw).made, case by case: ite.
-/
namespace Go.Proofs.YtnocnkblhjifjaaGreatDoor
open Go.RowKit
attribute [local go_sem ↓] Go.wp_at_zero Go.wp_at_succ

section
variable {rb : Nat} {sv : Value} {raw : List Int}
set_option maxRecDepth 100000 in
set_option maxHeartbeats 8000000 in
theorem made_ite (d k0 : Nat) (hd : d ≤ 4) (k1 : Nat) {w : World} (h : RawAt rb sv raw k0 w) (hN : NextIs rb sv raw k0 12 11 k1) (hM : MadeIs rb sv raw d) :
    Calls Tryz.prog 17 #[.pointer (some ⟨rb, 0, none⟩), .int .i64 ((d : Int) + 1)] w (Mk rb sv raw (d + 1) w) := by
  have hrb := h.cell.2.2.1
  have hne : w.heap.size ≠ rb := by omega
  have HBw := hide (Base.start h)
  have HM := hide hM
  clear h hM
  have HN := hide hN
  clear hN
  go_enter Tryz.func17, Tryz.ntmps17
  -- next
  go_wp2_with fail
  refine (HN.out _ HBw.out.rawAt).mono ?_; rintro e w1 ⟨rfl, hr, hk⟩
  have HBw1 := hide (HBw.out.call hr hk hrb)
  have hz_w1 : w.heap.size + 1 ≤ w1.heap.size := by have := hk.size; simpa using this
  clear hr hk
  have hn_w1 : w.heap.size < w1.heap.size := by omega
  go_wp2_with fail
  refine (HM.out _ _ (HBw1.out).rawAt).mono ?_; rintro e w2 ⟨xa, kxa, rfl, hoa, hxa, hr, hk⟩
  have HBw2 := hide ((HBw1.out).call hr hk hrb)
  have hz_w2 : w1.heap.size ≤ w2.heap.size := hk.size
  clear hr hk
  have hn_w2 : w.heap.size < w2.heap.size := by omega
  obtain ⟨hs1a, hs2a, hs3a, hs4a⟩ := xa.sizes hoa (by omega)
  have HXa := hide hxa
  have HOa := hide hoa
  clear hxa hoa
  unfold madeV
  generalize hFa : fb xa = Fa at *
  have HFa := hide hFa
  clear hFa
  generalize hBa : bb xa = Ba at *
  have HBa := hide hBa
  clear hBa
  generalize hTa : tb xa = Ta at *
  have HTa := hide hTa
  clear hTa
  generalize hLa : xa.level = La at *
  have HLa := hide hLa
  clear hLa
  go_wp2_with fail
  refine (HM.out _ _ (HBw2.out.alloc _).rawAt).mono ?_; rintro e w3 ⟨xb, kxb, rfl, hob, hxb, hr, hk⟩
  have HBw3 := hide ((HBw2.out.alloc _).call hr hk hrb)
  have hz_w3 : w2.heap.size + 1 ≤ w3.heap.size := by have := hk.size; simpa using this
  have hAa_w3 : w3.heap[w2.heap.size]? = some (.cells #[.string Fa, .string Ba, .string Ta, .int .i64 La] 35) := (hk.block _ (by first | omega | (simp; done) | (simp; omega)) (by omega)).trans ((heap_new _ _))
  clear hr hk
  have hn_w3 : w.heap.size < w3.heap.size := by omega
  have hla_w3 : w2.heap.size < w3.heap.size := by omega
  obtain ⟨hs1b, hs2b, hs3b, hs4b⟩ := xb.sizes hob (by omega)
  have HXb := hide hxb
  have HOb := hide hob
  clear hxb hob
  unfold madeV
  generalize hFb : fb xb = Fb at *
  have HFb := hide hFb
  clear hFb
  generalize hBb : bb xb = Bb at *
  have HBb := hide hBb
  clear hBb
  generalize hTb : tb xb = Tb at *
  have HTb := hide hTb
  clear hTb
  generalize hLb : xb.level = Lb at *
  have HLb := hide hLb
  clear hLb
  go_wp2_with fail
  refine (HM.out _ _ (HBw3.out.alloc _).rawAt).mono ?_; rintro e w4 ⟨xc, kxc, rfl, hoc, hxc, hr, hk⟩
  have HBw4 := hide ((HBw3.out.alloc _).call hr hk hrb)
  have hz_w4 : w3.heap.size + 1 ≤ w4.heap.size := by have := hk.size; simpa using this
  have hAa_w4 : w4.heap[w2.heap.size]? = some (.cells #[.string Fa, .string Ba, .string Ta, .int .i64 La] 35) := (hk.block _ (by first | omega | (simp; done) | (simp; omega)) (by omega)).trans ((heap_old hla_w3 _).trans hAa_w3)
  have hAb_w4 : w4.heap[w3.heap.size]? = some (.cells #[.string Fb, .string Bb, .string Tb, .int .i64 Lb] 35) := (hk.block _ (by first | omega | (simp; done) | (simp; omega)) (by omega)).trans ((heap_new _ _))
  clear hr hk
  have hn_w4 : w.heap.size < w4.heap.size := by omega
  have hla_w4 : w2.heap.size < w4.heap.size := by omega
  have hlb_w4 : w3.heap.size < w4.heap.size := by omega
  obtain ⟨hs1c, hs2c, hs3c, hs4c⟩ := xc.sizes hoc (by omega)
  have HXc := hide hxc
  have HOc := hide hoc
  clear hxc hoc
  unfold madeV
  generalize hFc : fb xc = Fc at *
  have HFc := hide hFc
  clear hFc
  generalize hBc : bb xc = Bc at *
  have HBc := hide hBc
  clear hBc
  generalize hTc : tb xc = Tc at *
  have HTc := hide hTc
  clear hTc
  generalize hLc : xc.level = Lc at *
  have HLc := hide hLc
  clear hLc
  obtain ⟨k2, hN2 | hN2⟩ := next2 rb sv raw kxc
  · have HN2 := hide hN2
    clear hN2
    -- next
    go_wp2_with fail
    refine (HN2.out _ (HBw4.out.alloc _).rawAt).mono ?_; rintro e w5 ⟨rfl, hr, hk⟩
    have HBw5 := hide ((HBw4.out.alloc _).call hr hk hrb)
    have hz_w5 : w4.heap.size + 1 ≤ w5.heap.size := by have := hk.size; simpa using this
    have hAa_w5 : w5.heap[w2.heap.size]? = some (.cells #[.string Fa, .string Ba, .string Ta, .int .i64 La] 35) := (hk.block _ (by first | omega | (simp; done) | (simp; omega)) (by omega)).trans ((heap_old hla_w4 _).trans hAa_w4)
    have hAb_w5 : w5.heap[w3.heap.size]? = some (.cells #[.string Fb, .string Bb, .string Tb, .int .i64 Lb] 35) := (hk.block _ (by first | omega | (simp; done) | (simp; omega)) (by omega)).trans ((heap_old hlb_w4 _).trans hAb_w4)
    have hAc_w5 : w5.heap[w4.heap.size]? = some (.cells #[.string Fc, .string Bc, .string Tc, .int .i64 Lc] 35) := (hk.block _ (by first | omega | (simp; done) | (simp; omega)) (by omega)).trans ((heap_new _ _))
    clear hr hk
    have hn_w5 : w.heap.size < w5.heap.size := by omega
    have hla_w5 : w2.heap.size < w5.heap.size := by omega
    have hlb_w5 : w3.heap.size < w5.heap.size := by omega
    have hlc_w5 : w4.heap.size < w5.heap.size := by omega
    obtain ⟨Zf1, hqZf1, HZf1, hzZf1⟩ := cat ⟨#[105, 102, 32, 40]⟩ Fa (4) 71680 (by decide) hs1a (by decide)
    obtain ⟨Zf2, hqZf2, HZf2, hzZf2⟩ := cat Zf1 ⟨#[41, 32, 116, 104, 101, 110, 32, 40]⟩ (4 + 71680) 8 hzZf1 (by decide) (by decide)
    obtain ⟨Zf3, hqZf3, HZf3, hzZf3⟩ := cat Zf2 Fb (4 + 71680 + 8) 71680 hzZf2 hs1b (by decide)
    obtain ⟨Zf4, hqZf4, HZf4, hzZf4⟩ := cat Zf3 ⟨#[41, 32, 101, 108, 115, 101, 32, 40]⟩ (4 + 71680 + 8 + 71680) 8 hzZf3 (by decide) (by decide)
    obtain ⟨Zf5, hqZf5, HZf5, hzZf5⟩ := cat Zf4 Fc (4 + 71680 + 8 + 71680 + 8) 71680 hzZf4 hs1c (by decide)
    obtain ⟨Zf6, hqZf6, HZf6, hzZf6⟩ := cat Zf5 ⟨#[41]⟩ (4 + 71680 + 8 + 71680 + 8 + 71680) 1 hzZf5 (by decide) (by decide)
    obtain ⟨Zb1, hqZb1, HZb1, hzZb1⟩ := cat ⟨#[105, 102, 32]⟩ Ba (3) 71680 (by decide) hs2a (by decide)
    obtain ⟨Zb2, hqZb2, HZb2, hzZb2⟩ := cat Zb1 ⟨#[32, 116, 104, 101, 110, 32]⟩ (3 + 71680) 6 hzZb1 (by decide) (by decide)
    obtain ⟨Zb3, hqZb3, HZb3, hzZb3⟩ := cat Zb2 Bb (3 + 71680 + 6) 71680 hzZb2 hs2b (by decide)
    obtain ⟨Zb4, hqZb4, HZb4, hzZb4⟩ := cat Zb3 ⟨#[32, 101, 108, 115, 101, 32]⟩ (3 + 71680 + 6 + 71680) 6 hzZb3 (by decide) (by decide)
    obtain ⟨Zb5, hqZb5, HZb5, hzZb5⟩ := cat Zb4 Bc (3 + 71680 + 6 + 71680 + 6) 71680 hzZb4 hs2c (by decide)
    obtain ⟨Zt1, hqZt1, HZt1, hzZt1⟩ := cat ⟨#[40, 105, 102, 32]⟩ Ta (4) 71680 (by decide) hs3a (by decide)
    obtain ⟨Zt2, hqZt2, HZt2, hzZt2⟩ := cat Zt1 ⟨#[32]⟩ (4 + 71680) 1 hzZt1 (by decide) (by decide)
    obtain ⟨Zt3, hqZt3, HZt3, hzZt3⟩ := cat Zt2 Tb (4 + 71680 + 1) 71680 hzZt2 hs3b (by decide)
    obtain ⟨Zt4, hqZt4, HZt4, hzZt4⟩ := cat Zt3 ⟨#[32]⟩ (4 + 71680 + 1 + 71680) 1 hzZt3 (by decide) (by decide)
    obtain ⟨Zt5, hqZt5, HZt5, hzZt5⟩ := cat Zt4 Tc (4 + 71680 + 1 + 71680 + 1) 71680 hzZt4 hs3c (by decide)
    obtain ⟨Zt6, hqZt6, HZt6, hzZt6⟩ := cat Zt5 ⟨#[41]⟩ (4 + 71680 + 1 + 71680 + 1 + 71680) 1 hzZt5 (by decide) (by decide)
    have HV : Hid (madeV (Ex.ite xa xb xc) = .agg #[.string Zf6, .string Zb5, .string Zt6, .int .i64 0]) := by
      show madeV (Ex.ite xa xb xc) = .agg #[.string Zf6, .string Zb5, .string Zt6, .int .i64 0]
      rw [HZf6.out, HZf5.out, HZf4.out, HZf3.out, HZf2.out, HZf1.out, HZb5.out, HZb4.out, HZb3.out, HZb2.out, HZb1.out, HZt6.out, HZt5.out, HZt4.out, HZt3.out, HZt2.out, HZt1.out]
      unfold madeV
      rw [fb_ite, bb_ite, tb_ite]
      rw [HFa.out, HBa.out, HTa.out, HFb.out, HBb.out, HTb.out, HFc.out, HBc.out, HTc.out]
      rfl
    clear HZf1 HZf2 HZf3 HZf4 HZf5 HZf6 HZb1 HZb2 HZb3 HZb4 HZb5 HZt1 HZt2 HZt3 HZt4 HZt5 HZt6
    obtain ⟨c0a, c1a, c2a, c3a, cfa⟩ := four hAa_w5
    obtain ⟨c0b, c1b, c2b, c3b, cfb⟩ := four hAb_w5
    obtain ⟨c0c, c1c, c2c, c3c, cfc⟩ := four hAc_w5
    obtain ⟨r0, r1, r2, r3, rc0, rc1, rc2, rc3, rf⟩ := HBw5.out.cells
    have hda : w.heap.size ≠ w2.heap.size := by omega
    have hdar : w2.heap.size ≠ w.heap.size := by omega
    have hdb : w.heap.size ≠ w3.heap.size := by omega
    have hdbr : w3.heap.size ≠ w.heap.size := by omega
    have hdc : w.heap.size ≠ w4.heap.size := by omega
    have hdcr : w4.heap.size ≠ w.heap.size := by omega
    go_wp2_with fail
    obtain ⟨g0, g1, g2, g3, _⟩ := four (fin_block HBw5.out (.string Zf6) (.string Zb5) (.string Zt6) (.int .i64 0))
    refine bodyPost_ret (v := .agg #[.string Zf6, .string Zb5, .string Zt6, .int .i64 0]) (by simp [results, Tryz.results17, go_sem, g0, g1, g2, g3]) rfl ⟨Ex.ite xa xb xc, k2, by rw [HV.out], Ex.Ok.ite HOa.out HOb.out HOc.out, by simp only [Ex.ite]; have := HXa.out; have := HXb.out; have := HXc.out; omega, ?_, ?_⟩
    · exact ((((HBw5.out.set hrb 0 _).set hrb 1 _).set hrb 2 _).set hrb 3 _).rawAt
    · exact ((((HBw5.out.set hrb 0 _).set hrb 1 _).set hrb 2 _).set hrb 3 _).kr
  · have HN2 := hide hN2
    clear hN2
    obtain ⟨x, k3, hNx⟩ := next4 rb sv raw k2
    have HNx := hide hNx
    clear hNx
    have hVar := fun wx => variable_any x wx
    have hX : (bs (varN x)).size ≤ 1 := by rw [show (bs (varN x)).size = (varN x).length from rfl, (varN_facts x).2.2.2.1]; exact Nat.le_refl _
    generalize hXe : bs (varN x) = X at *
    have HVar := hide hVar
    have HXe := hide hXe
    clear hVar hXe
    -- next
    go_wp2_with fail
    refine (HN2.out _ (HBw4.out.alloc _).rawAt).mono ?_; rintro e w5 ⟨rfl, hr, hk⟩
    have HBw5 := hide ((HBw4.out.alloc _).call hr hk hrb)
    have hz_w5 : w4.heap.size + 1 ≤ w5.heap.size := by have := hk.size; simpa using this
    have hAa_w5 : w5.heap[w2.heap.size]? = some (.cells #[.string Fa, .string Ba, .string Ta, .int .i64 La] 35) := (hk.block _ (by first | omega | (simp; done) | (simp; omega)) (by omega)).trans ((heap_old hla_w4 _).trans hAa_w4)
    have hAb_w5 : w5.heap[w3.heap.size]? = some (.cells #[.string Fb, .string Bb, .string Tb, .int .i64 Lb] 35) := (hk.block _ (by first | omega | (simp; done) | (simp; omega)) (by omega)).trans ((heap_old hlb_w4 _).trans hAb_w4)
    have hAc_w5 : w5.heap[w4.heap.size]? = some (.cells #[.string Fc, .string Bc, .string Tc, .int .i64 Lc] 35) := (hk.block _ (by first | omega | (simp; done) | (simp; omega)) (by omega)).trans ((heap_new _ _))
    clear hr hk
    have hn_w5 : w.heap.size < w5.heap.size := by omega
    have hla_w5 : w2.heap.size < w5.heap.size := by omega
    have hlb_w5 : w3.heap.size < w5.heap.size := by omega
    have hlc_w5 : w4.heap.size < w5.heap.size := by omega
    -- next
    go_wp2_with fail
    refine (HNx.out _ (HBw5.out).rawAt).mono ?_; rintro e w6 ⟨rfl, hr, hk⟩
    have HBw6 := hide ((HBw5.out).call hr hk hrb)
    have hz_w6 : w5.heap.size ≤ w6.heap.size := hk.size
    have hAa_w6 : w6.heap[w2.heap.size]? = some (.cells #[.string Fa, .string Ba, .string Ta, .int .i64 La] 35) := (hk.block _ (by first | omega | (simp; done) | (simp; omega)) (by omega)).trans (hAa_w5)
    have hAb_w6 : w6.heap[w3.heap.size]? = some (.cells #[.string Fb, .string Bb, .string Tb, .int .i64 Lb] 35) := (hk.block _ (by first | omega | (simp; done) | (simp; omega)) (by omega)).trans (hAb_w5)
    have hAc_w6 : w6.heap[w4.heap.size]? = some (.cells #[.string Fc, .string Bc, .string Tc, .int .i64 Lc] 35) := (hk.block _ (by first | omega | (simp; done) | (simp; omega)) (by omega)).trans (hAc_w5)
    clear hr hk
    have hn_w6 : w.heap.size < w6.heap.size := by omega
    have hla_w6 : w2.heap.size < w6.heap.size := by omega
    have hlb_w6 : w3.heap.size < w6.heap.size := by omega
    have hlc_w6 : w4.heap.size < w6.heap.size := by omega
    go_wp2_with fail
    refine (HVar.out _).mono ?_; rintro e w' ⟨rfl, hw'⟩; subst w'
    obtain ⟨Zf1, hqZf1, HZf1, hzZf1⟩ := cat ⟨#[109, 97, 116, 99, 104, 32, 40]⟩ Fa (7) 71680 (by decide) hs1a (by decide)
    obtain ⟨Zf2, hqZf2, HZf2, hzZf2⟩ := cat Zf1 ⟨#[41, 32, 119, 105, 116, 104, 32, 124, 32, 78, 105, 108, 32, 45, 62, 32, 40]⟩ (7 + 71680) 17 hzZf1 (by decide) (by decide)
    obtain ⟨Zf3, hqZf3, HZf3, hzZf3⟩ := cat Zf2 Fb (7 + 71680 + 17) 71680 hzZf2 hs1b (by decide)
    obtain ⟨Zf4, hqZf4, HZf4, hzZf4⟩ := cat Zf3 ⟨#[41, 32, 124, 32, 67, 111, 110, 115, 32, 40]⟩ (7 + 71680 + 17 + 71680) 10 hzZf3 (by decide) (by decide)
    obtain ⟨Zf5, hqZf5, HZf5, hzZf5⟩ := cat Zf4 X (7 + 71680 + 17 + 71680 + 10) 1 hzZf4 hX (by decide)
    obtain ⟨Zf6, hqZf6, HZf6, hzZf6⟩ := cat Zf5 ⟨#[41, 32, 40, 95, 41, 32, 45, 62, 32, 40]⟩ (7 + 71680 + 17 + 71680 + 10 + 1) 10 hzZf5 (by decide) (by decide)
    obtain ⟨Zf7, hqZf7, HZf7, hzZf7⟩ := cat Zf6 Fc (7 + 71680 + 17 + 71680 + 10 + 1 + 10) 71680 hzZf6 hs1c (by decide)
    obtain ⟨Zf8, hqZf8, HZf8, hzZf8⟩ := cat Zf7 ⟨#[41, 32, 101, 110, 100]⟩ (7 + 71680 + 17 + 71680 + 10 + 1 + 10 + 71680) 5 hzZf7 (by decide) (by decide)
    obtain ⟨Zb1, hqZb1, HZb1, hzZb1⟩ := cat ⟨#[109, 97, 116, 99, 104, 32]⟩ Ba (6) 71680 (by decide) hs2a (by decide)
    obtain ⟨Zb2, hqZb2, HZb2, hzZb2⟩ := cat Zb1 ⟨#[32, 119, 105, 116, 104, 124, 78, 105, 108, 45, 62]⟩ (6 + 71680) 11 hzZb1 (by decide) (by decide)
    obtain ⟨Zb3, hqZb3, HZb3, hzZb3⟩ := cat Zb2 Bb (6 + 71680 + 11) 71680 hzZb2 hs2b (by decide)
    obtain ⟨Zb4, hqZb4, HZb4, hzZb4⟩ := cat Zb3 ⟨#[124, 67, 111, 110, 115, 32]⟩ (6 + 71680 + 11 + 71680) 6 hzZb3 (by decide) (by decide)
    obtain ⟨Zb5, hqZb5, HZb5, hzZb5⟩ := cat Zb4 X (6 + 71680 + 11 + 71680 + 6) 1 hzZb4 hX (by decide)
    obtain ⟨Zb6, hqZb6, HZb6, hzZb6⟩ := cat Zb5 ⟨#[32, 95, 45, 62]⟩ (6 + 71680 + 11 + 71680 + 6 + 1) 4 hzZb5 (by decide) (by decide)
    obtain ⟨Zb7, hqZb7, HZb7, hzZb7⟩ := cat Zb6 Bc (6 + 71680 + 11 + 71680 + 6 + 1 + 4) 71680 hzZb6 hs2c (by decide)
    obtain ⟨Zb8, hqZb8, HZb8, hzZb8⟩ := cat Zb7 ⟨#[32, 101, 110, 100]⟩ (6 + 71680 + 11 + 71680 + 6 + 1 + 4 + 71680) 4 hzZb7 (by decide) (by decide)
    obtain ⟨Zt1, hqZt1, HZt1, hzZt1⟩ := cat ⟨#[40, 109, 97, 116, 99, 104, 32]⟩ Ta (7) 71680 (by decide) hs3a (by decide)
    obtain ⟨Zt2, hqZt2, HZt2, hzZt2⟩ := cat Zt1 ⟨#[32, 40, 114, 111, 119, 32, 40, 99, 111, 110, 32, 78, 105, 108, 41, 32]⟩ (7 + 71680) 16 hzZt1 (by decide) (by decide)
    obtain ⟨Zt3, hqZt3, HZt3, hzZt3⟩ := cat Zt2 Tb (7 + 71680 + 16) 71680 hzZt2 hs3b (by decide)
    obtain ⟨Zt4, hqZt4, HZt4, hzZt4⟩ := cat Zt3 ⟨#[41, 32, 40, 114, 111, 119, 32, 40, 99, 111, 110, 32, 67, 111, 110, 115, 32]⟩ (7 + 71680 + 16 + 71680) 17 hzZt3 (by decide) (by decide)
    obtain ⟨Zt5, hqZt5, HZt5, hzZt5⟩ := cat Zt4 X (7 + 71680 + 16 + 71680 + 17) 1 hzZt4 hX (by decide)
    obtain ⟨Zt6, hqZt6, HZt6, hzZt6⟩ := cat Zt5 ⟨#[32, 95, 41, 32]⟩ (7 + 71680 + 16 + 71680 + 17 + 1) 4 hzZt5 (by decide) (by decide)
    obtain ⟨Zt7, hqZt7, HZt7, hzZt7⟩ := cat Zt6 Tc (7 + 71680 + 16 + 71680 + 17 + 1 + 4) 71680 hzZt6 hs3c (by decide)
    obtain ⟨Zt8, hqZt8, HZt8, hzZt8⟩ := cat Zt7 ⟨#[41, 41]⟩ (7 + 71680 + 16 + 71680 + 17 + 1 + 4 + 71680) 2 hzZt7 (by decide) (by decide)
    have HV : Hid (madeV (Ex.mtch x xa xb xc) = .agg #[.string Zf8, .string Zb8, .string Zt8, .int .i64 5]) := by
      show madeV (Ex.mtch x xa xb xc) = .agg #[.string Zf8, .string Zb8, .string Zt8, .int .i64 5]
      rw [HZf8.out, HZf7.out, HZf6.out, HZf5.out, HZf4.out, HZf3.out, HZf2.out, HZf1.out, HZb8.out, HZb7.out, HZb6.out, HZb5.out, HZb4.out, HZb3.out, HZb2.out, HZb1.out, HZt8.out, HZt7.out, HZt6.out, HZt5.out, HZt4.out, HZt3.out, HZt2.out, HZt1.out]
      unfold madeV
      rw [fb_mtch, bb_mtch, tb_mtch]
      rw [HFa.out, HBa.out, HTa.out, HFb.out, HBb.out, HTb.out, HFc.out, HBc.out, HTc.out, HXe.out]
      rfl
    clear HZf1 HZf2 HZf3 HZf4 HZf5 HZf6 HZf7 HZf8 HZb1 HZb2 HZb3 HZb4 HZb5 HZb6 HZb7 HZb8 HZt1 HZt2 HZt3 HZt4 HZt5 HZt6 HZt7 HZt8
    obtain ⟨c0a, c1a, c2a, c3a, cfa⟩ := four hAa_w6
    obtain ⟨c0b, c1b, c2b, c3b, cfb⟩ := four hAb_w6
    obtain ⟨c0c, c1c, c2c, c3c, cfc⟩ := four hAc_w6
    obtain ⟨r0, r1, r2, r3, rc0, rc1, rc2, rc3, rf⟩ := HBw6.out.cells
    have hda : w.heap.size ≠ w2.heap.size := by omega
    have hdar : w2.heap.size ≠ w.heap.size := by omega
    have hdb : w.heap.size ≠ w3.heap.size := by omega
    have hdbr : w3.heap.size ≠ w.heap.size := by omega
    have hdc : w.heap.size ≠ w4.heap.size := by omega
    have hdcr : w4.heap.size ≠ w.heap.size := by omega
    go_wp2_with fail
    obtain ⟨g0, g1, g2, g3, _⟩ := four (fin_block HBw6.out (.string Zf8) (.string Zb8) (.string Zt8) (.int .i64 5))
    refine bodyPost_ret (v := .agg #[.string Zf8, .string Zb8, .string Zt8, .int .i64 5]) (by simp [results, Tryz.results17, go_sem, g0, g1, g2, g3]) rfl ⟨Ex.mtch x xa xb xc, k3, by rw [HV.out], Ex.Ok.mtch x HOa.out HOb.out HOc.out, by simp only [Ex.mtch]; have := HXa.out; have := HXb.out; have := HXc.out; omega, ?_, ?_⟩
    · exact ((((HBw6.out.set hrb 0 _).set hrb 1 _).set hrb 2 _).set hrb 3 _).rawAt
    · exact ((((HBw6.out.set hrb 0 _).set hrb 1 _).set hrb 2 _).set hrb 3 _).kr

end
end Go.Proofs.YtnocnkblhjifjaaGreatDoor
