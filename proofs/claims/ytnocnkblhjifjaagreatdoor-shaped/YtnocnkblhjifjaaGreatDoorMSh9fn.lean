import Derived.Test.YtnocnkblhjifjaaGreatDoorMSh8
/-
  (*Raw).made, case by case: fn.
-/
namespace Go.Proofs.YtnocnkblhjifjaaGreatDoor
open Go.RowKit
attribute [local go_sem ↓] Go.wp_at_zero Go.wp_at_succ

section
variable {rb : Nat} {sv : Value} {raw : List Int}
set_option maxRecDepth 100000 in
set_option maxHeartbeats 8000000 in
theorem made_fn (d k0 : Nat) (hd : d ≤ 4) (k1 : Nat) (x : Fin 4) (k2 : Nat) {w : World} (h : RawAt rb sv raw k0 w) (hN : NextIs rb sv raw k0 12 8 k1) (hNx : NextIs rb sv raw k1 4 (x.1 : Nat) k2) (hM : MadeIs rb sv raw d) :
    Calls Tryz.prog 17 #[.pointer (some ⟨rb, 0, none⟩), .int .i64 ((d : Int) + 1)] w (Mk rb sv raw (d + 1) w) := by
  have hrb := h.cell.2.2.1
  have hne : w.heap.size ≠ rb := by omega
  have HBw := hide (Base.start h)
  have HM := hide hM
  clear h hM
  have HN := hide hN
  clear hN
  have HNx := hide hNx
  clear hNx
  have hVar := fun wx => variable_any x wx
  have hX : (bs (varN x)).size ≤ 1 := by rw [show (bs (varN x)).size = (varN x).length from rfl, (varN_facts x).2.2.2.1]; exact Nat.le_refl _
  generalize hXe : bs (varN x) = X at *
  have HVar := hide hVar
  have HXe := hide hXe
  clear hVar hXe
  go_enter Tryz.func17, Tryz.ntmps17
  -- next
  go_wp2_with fail
  refine (HN.out _ HBw.out.rawAt).mono ?_; rintro e w1 ⟨rfl, hr, hk⟩
  have HBw1 := hide (HBw.out.call hr hk hrb)
  have hz_w1 : w.heap.size + 1 ≤ w1.heap.size := by have := hk.size; simpa using this
  clear hr hk
  have hn_w1 : w.heap.size < w1.heap.size := by omega
  -- next
  go_wp2_with fail
  refine (HNx.out _ (HBw1.out).rawAt).mono ?_; rintro e w2 ⟨rfl, hr, hk⟩
  have HBw2 := hide ((HBw1.out).call hr hk hrb)
  have hz_w2 : w1.heap.size ≤ w2.heap.size := hk.size
  clear hr hk
  have hn_w2 : w.heap.size < w2.heap.size := by omega
  go_wp2_with fail
  refine (HVar.out _).mono ?_; rintro e w' ⟨rfl, hw'⟩; subst w'
  go_wp2_with fail
  refine (HM.out _ _ (HBw2.out).rawAt).mono ?_; rintro e w3 ⟨xa, kxa, rfl, hoa, hxa, hr, hk⟩
  have HBw3 := hide ((HBw2.out).call hr hk hrb)
  have hz_w3 : w2.heap.size ≤ w3.heap.size := hk.size
  clear hr hk
  have hn_w3 : w.heap.size < w3.heap.size := by omega
  obtain ⟨hs1a, hs2a, hs3a, hs4a⟩ := xa.sizes hoa (by omega)
  have HXa := hide hxa
  have HOa := hide hoa
  clear hxa hoa
  unfold madeV
  generalize hFa : fb xa = Fa at *
  have HFa := hide hFa
  clear hFa
  generalize hBa : bb xa = Ba at *
  have HBa := hide hBa
  clear hBa
  generalize hTa : tb xa = Ta at *
  have HTa := hide hTa
  clear hTa
  generalize hLa : xa.level = La at *
  have HLa := hide hLa
  clear hLa
  obtain ⟨Zf1, hqZf1, HZf1, hzZf1⟩ := cat ⟨#[102, 117, 110, 32]⟩ X (4) 1 (by decide) hX (by decide)
  obtain ⟨Zf2, hqZf2, HZf2, hzZf2⟩ := cat Zf1 ⟨#[32, 45, 62, 32, 40]⟩ (4 + 1) 5 hzZf1 (by decide) (by decide)
  obtain ⟨Zf3, hqZf3, HZf3, hzZf3⟩ := cat Zf2 Fa (4 + 1 + 5) 71680 hzZf2 hs1a (by decide)
  obtain ⟨Zf4, hqZf4, HZf4, hzZf4⟩ := cat Zf3 ⟨#[41]⟩ (4 + 1 + 5 + 71680) 1 hzZf3 (by decide) (by decide)
  obtain ⟨Zb2, hqZb2, HZb2, hzZb2⟩ := cat Zf1 ⟨#[45, 62]⟩ (4 + 1) 2 hzZf1 (by decide) (by decide)
  obtain ⟨Zb3, hqZb3, HZb3, hzZb3⟩ := cat Zb2 Ba (4 + 1 + 2) 71680 hzZb2 hs2a (by decide)
  obtain ⟨Zt1, hqZt1, HZt1, hzZt1⟩ := cat ⟨#[40, 102, 117, 110, 32]⟩ X (5) 1 (by decide) hX (by decide)
  obtain ⟨Zt2, hqZt2, HZt2, hzZt2⟩ := cat Zt1 ⟨#[32]⟩ (5 + 1) 1 hzZt1 (by decide) (by decide)
  obtain ⟨Zt3, hqZt3, HZt3, hzZt3⟩ := cat Zt2 Ta (5 + 1 + 1) 71680 hzZt2 hs3a (by decide)
  obtain ⟨Zt4, hqZt4, HZt4, hzZt4⟩ := cat Zt3 ⟨#[41]⟩ (5 + 1 + 1 + 71680) 1 hzZt3 (by decide) (by decide)
  have HV : Hid (madeV (Ex.fn x xa) = .agg #[.string Zf4, .string Zb3, .string Zt4, .int .i64 0]) := by
    show madeV (Ex.fn x xa) = .agg #[.string Zf4, .string Zb3, .string Zt4, .int .i64 0]
    rw [HZf4.out, HZf3.out, HZf2.out, HZf1.out, HZb3.out, HZb2.out, HZf1.out, HZt4.out, HZt3.out, HZt2.out, HZt1.out]
    unfold madeV
    rw [fb_fn, bb_fn, tb_fn]
    rw [HFa.out, HBa.out, HTa.out, HXe.out]
    rfl
  clear HZf1 HZf2 HZf3 HZf4 HZb2 HZb3 HZt1 HZt2 HZt3 HZt4
  obtain ⟨r0, r1, r2, r3, rc0, rc1, rc2, rc3, rf⟩ := HBw3.out.cells
  have hda : w.heap.size ≠ w3.heap.size := by omega
  have hdar : w3.heap.size ≠ w.heap.size := by omega
  go_wp2_with fail
  obtain ⟨g0, g1, g2, g3, _⟩ := four ((heap_old (by simp; omega) (.cells #[.string Fa, .string Ba, .string Ta, .int .i64 La] 35)).trans (fin_block HBw3.out (.string Zf4) (.string Zb3) (.string Zt4) (.int .i64 0)))
  refine bodyPost_ret (v := .agg #[.string Zf4, .string Zb3, .string Zt4, .int .i64 0]) (by simp [results, Tryz.results17, go_sem, g0, g1, g2, g3]) rfl ⟨Ex.fn x xa, kxa, by rw [HV.out], Ex.Ok.fn x HOa.out, by simp only [Ex.fn]; have := HXa.out; omega, ?_, ?_⟩
  · exact (((((HBw3.out.set hrb 0 _).set hrb 1 _).set hrb 2 _).set hrb 3 _).alloc _).rawAt
  · exact (((((HBw3.out.set hrb 0 _).set hrb 1 _).set hrb 2 _).set hrb 3 _).alloc _).kr

end
end Go.Proofs.YtnocnkblhjifjaaGreatDoor
/-
  (*Raw).made, case by case: lett.
-/
namespace Go.Proofs.YtnocnkblhjifjaaGreatDoor
open Go.RowKit
attribute [local go_sem ↓] Go.wp_at_zero Go.wp_at_succ

section
variable {rb : Nat} {sv : Value} {raw : List Int}
set_option maxRecDepth 100000 in
set_option maxHeartbeats 8000000 in
theorem made_lett (d k0 : Nat) (hd : d ≤ 4) (k1 : Nat) (x : Fin 4) (k2 : Nat) {w : World} (h : RawAt rb sv raw k0 w) (hN : NextIs rb sv raw k0 12 9 k1) (hNx : NextIs rb sv raw k1 4 (x.1 : Nat) k2) (hM : MadeIs rb sv raw d) :
    Calls Tryz.prog 17 #[.pointer (some ⟨rb, 0, none⟩), .int .i64 ((d : Int) + 1)] w (Mk rb sv raw (d + 1) w) := by
  have hrb := h.cell.2.2.1
  have hne : w.heap.size ≠ rb := by omega
  have HBw := hide (Base.start h)
  have HM := hide hM
  clear h hM
  have HN := hide hN
  clear hN
  have HNx := hide hNx
  clear hNx
  have hVar := fun wx => variable_any x wx
  have hX : (bs (varN x)).size ≤ 1 := by rw [show (bs (varN x)).size = (varN x).length from rfl, (varN_facts x).2.2.2.1]; exact Nat.le_refl _
  generalize hXe : bs (varN x) = X at *
  have HVar := hide hVar
  have HXe := hide hXe
  clear hVar hXe
  go_enter Tryz.func17, Tryz.ntmps17
  -- next
  go_wp2_with fail
  refine (HN.out _ HBw.out.rawAt).mono ?_; rintro e w1 ⟨rfl, hr, hk⟩
  have HBw1 := hide (HBw.out.call hr hk hrb)
  have hz_w1 : w.heap.size + 1 ≤ w1.heap.size := by have := hk.size; simpa using this
  clear hr hk
  have hn_w1 : w.heap.size < w1.heap.size := by omega
  -- next
  go_wp2_with fail
  refine (HNx.out _ (HBw1.out).rawAt).mono ?_; rintro e w2 ⟨rfl, hr, hk⟩
  have HBw2 := hide ((HBw1.out).call hr hk hrb)
  have hz_w2 : w1.heap.size ≤ w2.heap.size := hk.size
  clear hr hk
  have hn_w2 : w.heap.size < w2.heap.size := by omega
  go_wp2_with fail
  refine (HVar.out _).mono ?_; rintro e w' ⟨rfl, hw'⟩; subst w'
  go_wp2_with fail
  refine (HM.out _ _ (HBw2.out).rawAt).mono ?_; rintro e w3 ⟨xa, kxa, rfl, hoa, hxa, hr, hk⟩
  have HBw3 := hide ((HBw2.out).call hr hk hrb)
  have hz_w3 : w2.heap.size ≤ w3.heap.size := hk.size
  clear hr hk
  have hn_w3 : w.heap.size < w3.heap.size := by omega
  obtain ⟨hs1a, hs2a, hs3a, hs4a⟩ := xa.sizes hoa (by omega)
  have HXa := hide hxa
  have HOa := hide hoa
  clear hxa hoa
  unfold madeV
  generalize hFa : fb xa = Fa at *
  have HFa := hide hFa
  clear hFa
  generalize hBa : bb xa = Ba at *
  have HBa := hide hBa
  clear hBa
  generalize hTa : tb xa = Ta at *
  have HTa := hide hTa
  clear hTa
  generalize hLa : xa.level = La at *
  have HLa := hide hLa
  clear hLa
  go_wp2_with fail
  refine (HM.out _ _ (HBw3.out.alloc _).rawAt).mono ?_; rintro e w4 ⟨xb, kxb, rfl, hob, hxb, hr, hk⟩
  have HBw4 := hide ((HBw3.out.alloc _).call hr hk hrb)
  have hz_w4 : w3.heap.size + 1 ≤ w4.heap.size := by have := hk.size; simpa using this
  have hAa_w4 : w4.heap[w3.heap.size]? = some (.cells #[.string Fa, .string Ba, .string Ta, .int .i64 La] 35) := (hk.block _ (by first | omega | (simp; done) | (simp; omega)) (by omega)).trans ((heap_new _ _))
  clear hr hk
  have hn_w4 : w.heap.size < w4.heap.size := by omega
  have hla_w4 : w3.heap.size < w4.heap.size := by omega
  obtain ⟨hs1b, hs2b, hs3b, hs4b⟩ := xb.sizes hob (by omega)
  have HXb := hide hxb
  have HOb := hide hob
  clear hxb hob
  unfold madeV
  generalize hFb : fb xb = Fb at *
  have HFb := hide hFb
  clear hFb
  generalize hBb : bb xb = Bb at *
  have HBb := hide hBb
  clear hBb
  generalize hTb : tb xb = Tb at *
  have HTb := hide hTb
  clear hTb
  generalize hLb : xb.level = Lb at *
  have HLb := hide hLb
  clear hLb
  obtain ⟨Zf1, hqZf1, HZf1, hzZf1⟩ := cat ⟨#[108, 101, 116, 32]⟩ X (4) 1 (by decide) hX (by decide)
  obtain ⟨Zf2, hqZf2, HZf2, hzZf2⟩ := cat Zf1 ⟨#[32, 61, 32, 40]⟩ (4 + 1) 4 hzZf1 (by decide) (by decide)
  obtain ⟨Zf3, hqZf3, HZf3, hzZf3⟩ := cat Zf2 Fa (4 + 1 + 4) 71680 hzZf2 hs1a (by decide)
  obtain ⟨Zf4, hqZf4, HZf4, hzZf4⟩ := cat Zf3 ⟨#[41, 32, 105, 110, 32, 40]⟩ (4 + 1 + 4 + 71680) 6 hzZf3 (by decide) (by decide)
  obtain ⟨Zf5, hqZf5, HZf5, hzZf5⟩ := cat Zf4 Fb (4 + 1 + 4 + 71680 + 6) 71680 hzZf4 hs1b (by decide)
  obtain ⟨Zf6, hqZf6, HZf6, hzZf6⟩ := cat Zf5 ⟨#[41]⟩ (4 + 1 + 4 + 71680 + 6 + 71680) 1 hzZf5 (by decide) (by decide)
  obtain ⟨Zb2, hqZb2, HZb2, hzZb2⟩ := cat Zf1 ⟨#[61]⟩ (4 + 1) 1 hzZf1 (by decide) (by decide)
  obtain ⟨Zb3, hqZb3, HZb3, hzZb3⟩ := cat Zb2 Ba (4 + 1 + 1) 71680 hzZb2 hs2a (by decide)
  obtain ⟨Zb4, hqZb4, HZb4, hzZb4⟩ := cat Zb3 ⟨#[32, 105, 110, 32]⟩ (4 + 1 + 1 + 71680) 4 hzZb3 (by decide) (by decide)
  obtain ⟨Zb5, hqZb5, HZb5, hzZb5⟩ := cat Zb4 Bb (4 + 1 + 1 + 71680 + 4) 71680 hzZb4 hs2b (by decide)
  obtain ⟨Zt1, hqZt1, HZt1, hzZt1⟩ := cat ⟨#[40, 108, 101, 116, 32]⟩ X (5) 1 (by decide) hX (by decide)
  obtain ⟨Zt2, hqZt2, HZt2, hzZt2⟩ := cat Zt1 ⟨#[32]⟩ (5 + 1) 1 hzZt1 (by decide) (by decide)
  obtain ⟨Zt3, hqZt3, HZt3, hzZt3⟩ := cat Zt2 Ta (5 + 1 + 1) 71680 hzZt2 hs3a (by decide)
  obtain ⟨Zt4, hqZt4, HZt4, hzZt4⟩ := cat Zt3 ⟨#[32]⟩ (5 + 1 + 1 + 71680) 1 hzZt3 (by decide) (by decide)
  obtain ⟨Zt5, hqZt5, HZt5, hzZt5⟩ := cat Zt4 Tb (5 + 1 + 1 + 71680 + 1) 71680 hzZt4 hs3b (by decide)
  obtain ⟨Zt6, hqZt6, HZt6, hzZt6⟩ := cat Zt5 ⟨#[41]⟩ (5 + 1 + 1 + 71680 + 1 + 71680) 1 hzZt5 (by decide) (by decide)
  have HV : Hid (madeV (Ex.lett x xa xb) = .agg #[.string Zf6, .string Zb5, .string Zt6, .int .i64 0]) := by
    show madeV (Ex.lett x xa xb) = .agg #[.string Zf6, .string Zb5, .string Zt6, .int .i64 0]
    rw [HZf6.out, HZf5.out, HZf4.out, HZf3.out, HZf2.out, HZf1.out, HZb5.out, HZb4.out, HZb3.out, HZb2.out, HZf1.out, HZt6.out, HZt5.out, HZt4.out, HZt3.out, HZt2.out, HZt1.out]
    unfold madeV
    rw [fb_lett, bb_lett, tb_lett]
    rw [HFa.out, HBa.out, HTa.out, HFb.out, HBb.out, HTb.out, HXe.out]
    rfl
  clear HZf1 HZf2 HZf3 HZf4 HZf5 HZf6 HZb2 HZb3 HZb4 HZb5 HZt1 HZt2 HZt3 HZt4 HZt5 HZt6
  obtain ⟨c0a, c1a, c2a, c3a, cfa⟩ := four hAa_w4
  obtain ⟨r0, r1, r2, r3, rc0, rc1, rc2, rc3, rf⟩ := HBw4.out.cells
  have hda : w.heap.size ≠ w3.heap.size := by omega
  have hdar : w3.heap.size ≠ w.heap.size := by omega
  have hdb : w.heap.size ≠ w4.heap.size := by omega
  have hdbr : w4.heap.size ≠ w.heap.size := by omega
  go_wp2_with fail
  obtain ⟨g0, g1, g2, g3, _⟩ := four ((heap_old (by simp; omega) (.cells #[.string Fb, .string Bb, .string Tb, .int .i64 Lb] 35)).trans (fin_block HBw4.out (.string Zf6) (.string Zb5) (.string Zt6) (.int .i64 0)))
  refine bodyPost_ret (v := .agg #[.string Zf6, .string Zb5, .string Zt6, .int .i64 0]) (by simp [results, Tryz.results17, go_sem, g0, g1, g2, g3]) rfl ⟨Ex.lett x xa xb, kxb, by rw [HV.out], Ex.Ok.lett x HOa.out HOb.out, by simp only [Ex.lett]; have := HXa.out; have := HXb.out; omega, ?_, ?_⟩
  · exact (((((HBw4.out.set hrb 0 _).set hrb 1 _).set hrb 2 _).set hrb 3 _).alloc _).rawAt
  · exact (((((HBw4.out.set hrb 0 _).set hrb 1 _).set hrb 2 _).set hrb 3 _).alloc _).kr

end
end Go.Proofs.YtnocnkblhjifjaaGreatDoor
/-
  (*Raw).made, case by case: op.
-/
namespace Go.Proofs.YtnocnkblhjifjaaGreatDoor
open Go.RowKit
attribute [local go_sem ↓] Go.wp_at_zero Go.wp_at_succ

section
variable {rb : Nat} {sv : Value} {raw : List Int}
set_option maxRecDepth 100000 in
set_option maxHeartbeats 8000000 in
theorem made_op (d k0 : Nat) (hd : d ≤ 4) (o : Op) {w : World} (h : RawAt rb sv raw k0 w) (hM : MadeIs rb sv raw d) :
    Calls Tryz.prog 34 #[.pointer (some ⟨rb, 0, none⟩), .string (bs [o.sign]), .int .i64 o.level, .int .i64 o.left, .int .i64 o.right, .int .i64 ((d : Int) + 1)] w (Mk rb sv raw (d + 1) w) := by
  have hrb := h.cell.2.2.1
  have hne : w.heap.size ≠ rb := by omega
  have HBw := hide (Base.start h)
  have HM := hide hM
  clear h hM
  have hSg : (bs [o.sign]).size ≤ 1 := Nat.le_refl _
  generalize hSe : bs [o.sign] = Sg at *
  have HSe := hide hSe
  clear hSe
  have hlo : o.level ≤ 5 := Op.level_le o
  go_enter Tryz.func34, Tryz.ntmps34
  go_wp2_with fail
  refine (HM.out _ _ HBw.out.rawAt).mono ?_; rintro e w1 ⟨xa, kxa, rfl, hoa, hxa, hr, hk⟩
  have HBw1 := hide (HBw.out.call hr hk hrb)
  have hz_w1 : w.heap.size + 1 ≤ w1.heap.size := by have := hk.size; simpa using this
  clear hr hk
  have hn_w1 : w.heap.size < w1.heap.size := by omega
  obtain ⟨hs1a, hs2a, hs3a, hs4a⟩ := xa.sizes hoa (by omega)
  have HXa := hide hxa
  have HOa := hide hoa
  clear hxa hoa
  unfold madeV
  have hA := fun wx => at_any (fb xa) (bb xa) (tb xa) xa.level o.left (by omega) wx
  have hAa0 := atB_size (decide (xa.level < o.left)) (bb xa)
  generalize hAta : atB (decide (xa.level < o.left)) (bb xa) = Aa at *
  have hAa : Aa.size ≤ 71682 := by omega
  have HAta := hide hAta
  have HAa := hide hA
  clear hA hAta hAa0
  generalize hFa : fb xa = Fa at *
  have HFa := hide hFa
  clear hFa
  generalize hBa : bb xa = Ba at *
  have HBa := hide hBa
  clear hBa
  generalize hTa : tb xa = Ta at *
  have HTa := hide hTa
  clear hTa
  generalize hLa : xa.level = La at *
  have HLa := hide hLa
  clear hLa
  go_wp2_with fail
  refine (HM.out _ _ (HBw1.out.alloc _).rawAt).mono ?_; rintro e w2 ⟨xb, kxb, rfl, hob, hxb, hr, hk⟩
  have HBw2 := hide ((HBw1.out.alloc _).call hr hk hrb)
  have hz_w2 : w1.heap.size + 1 ≤ w2.heap.size := by have := hk.size; simpa using this
  have hAa_w2 : w2.heap[w1.heap.size]? = some (.cells #[.string Fa, .string Ba, .string Ta, .int .i64 La] 35) := (hk.block _ (by first | omega | (simp; done) | (simp; omega)) (by omega)).trans ((heap_new _ _))
  clear hr hk
  have hn_w2 : w.heap.size < w2.heap.size := by omega
  have hla_w2 : w1.heap.size < w2.heap.size := by omega
  obtain ⟨hs1b, hs2b, hs3b, hs4b⟩ := xb.sizes hob (by omega)
  have HXb := hide hxb
  have HOb := hide hob
  clear hxb hob
  unfold madeV
  have hA := fun wx => at_any (fb xb) (bb xb) (tb xb) xb.level o.right (by omega) wx
  have hAb0 := atB_size (decide (xb.level < o.right)) (bb xb)
  generalize hAtb : atB (decide (xb.level < o.right)) (bb xb) = Ab at *
  have hAb : Ab.size ≤ 71682 := by omega
  have HAtb := hide hAtb
  have HAb := hide hA
  clear hA hAtb hAb0
  generalize hFb : fb xb = Fb at *
  have HFb := hide hFb
  clear hFb
  generalize hBb : bb xb = Bb at *
  have HBb := hide hBb
  clear hBb
  generalize hTb : tb xb = Tb at *
  have HTb := hide hTb
  clear hTb
  generalize hLb : xb.level = Lb at *
  have HLb := hide hLb
  clear hLb
  obtain ⟨Zf1, hqZf1, HZf1, hzZf1⟩ := cat ⟨#[40]⟩ Fa (1) 71680 (by decide) hs1a (by decide)
  obtain ⟨Zf2, hqZf2, HZf2, hzZf2⟩ := cat Zf1 ⟨#[41]⟩ (1 + 71680) 1 hzZf1 (by decide) (by decide)
  obtain ⟨Zf3, hqZf3, HZf3, hzZf3⟩ := cat Zf2 Sg (1 + 71680 + 1) 1 hzZf2 hSg (by decide)
  obtain ⟨Zf4, hqZf4, HZf4, hzZf4⟩ := cat Zf3 ⟨#[40]⟩ (1 + 71680 + 1 + 1) 1 hzZf3 (by decide) (by decide)
  obtain ⟨Zf5, hqZf5, HZf5, hzZf5⟩ := cat Zf4 Fb (1 + 71680 + 1 + 1 + 1) 71680 hzZf4 hs1b (by decide)
  obtain ⟨Zf6, hqZf6, HZf6, hzZf6⟩ := cat Zf5 ⟨#[41]⟩ (1 + 71680 + 1 + 1 + 1 + 71680) 1 hzZf5 (by decide) (by decide)
  obtain ⟨Zb1, hqZb1, HZb1, hzZb1⟩ := cat Aa Sg (71682) 1 hAa hSg (by decide)
  obtain ⟨Zb2, hqZb2, HZb2, hzZb2⟩ := cat Zb1 Ab (71682 + 1) 71682 hzZb1 hAb (by decide)
  obtain ⟨Zt1, hqZt1, HZt1, hzZt1⟩ := cat ⟨#[40]⟩ Sg (1) 1 (by decide) hSg (by decide)
  obtain ⟨Zt2, hqZt2, HZt2, hzZt2⟩ := cat Zt1 ⟨#[32]⟩ (1 + 1) 1 hzZt1 (by decide) (by decide)
  obtain ⟨Zt3, hqZt3, HZt3, hzZt3⟩ := cat Zt2 Ta (1 + 1 + 1) 71680 hzZt2 hs3a (by decide)
  obtain ⟨Zt4, hqZt4, HZt4, hzZt4⟩ := cat Zt3 ⟨#[32]⟩ (1 + 1 + 1 + 71680) 1 hzZt3 (by decide) (by decide)
  obtain ⟨Zt5, hqZt5, HZt5, hzZt5⟩ := cat Zt4 Tb (1 + 1 + 1 + 71680 + 1) 71680 hzZt4 hs3b (by decide)
  obtain ⟨Zt6, hqZt6, HZt6, hzZt6⟩ := cat Zt5 ⟨#[41]⟩ (1 + 1 + 1 + 71680 + 1 + 71680) 1 hzZt5 (by decide) (by decide)
  have HV : Hid (madeV (Ex.op o xa xb) = .agg #[.string Zf6, .string Zb2, .string Zt6, .int .i64 o.level]) := by
    show madeV (Ex.op o xa xb) = .agg #[.string Zf6, .string Zb2, .string Zt6, .int .i64 o.level]
    rw [HZf6.out, HZf5.out, HZf4.out, HZf3.out, HZf2.out, HZf1.out, HZb2.out, HZb1.out, HZt6.out, HZt5.out, HZt4.out, HZt3.out, HZt2.out, HZt1.out]
    unfold madeV
    rw [fb_op, bb_op, tb_op]
    rw [HFa.out, HBa.out, HTa.out, HLa.out, HAta.out, HFb.out, HBb.out, HTb.out, HLb.out, HAtb.out, HSe.out]
    rfl
  clear HZf1 HZf2 HZf3 HZf4 HZf5 HZf6 HZb1 HZb2 HZt1 HZt2 HZt3 HZt4 HZt5 HZt6
  obtain ⟨c0a, c1a, c2a, c3a, cfa⟩ := four hAa_w2
  obtain ⟨r0, r1, r2, r3, rc0, rc1, rc2, rc3, rf⟩ := HBw2.out.cells
  have hda : w.heap.size ≠ w1.heap.size := by omega
  have hdar : w1.heap.size ≠ w.heap.size := by omega
  have hdb : w.heap.size ≠ w2.heap.size := by omega
  have hdbr : w2.heap.size ≠ w.heap.size := by omega
  have hma : w1.heap.size < w2.heap.size + 1 := by omega
  have hBs : ∀ (u : World) (j : Nat) (v : Value), Hid (Base rb sv raw kxb w u) → Hid (Base rb sv raw kxb w (u.setCell ⟨w.heap.size, j, none⟩ v)) := fun u j v h => h.out.set hrb j v
  have HBr : Hid (Base rb sv raw kxb w (w2.alloc (.cells #[.string Fb, .string Bb, .string Tb, .int .i64 Lb] 35)).drew) := (HBw2.out.alloc _).drew
  have hfr : ∀ o i, (w2.alloc o).frozen? ⟨w.heap.size, i, none⟩ = false := fun o i => by rw [frozen_old hn_w2, rf]
  have hXa : (w2.alloc (.cells #[.string Fb, .string Bb, .string Tb, .int .i64 Lb] 35)).drew.heap[w1.heap.size]? = some (.cells #[.string Fa, .string Ba, .string Ta, .int .i64 La] 35) := (heap_old hla_w2 _).trans hAa_w2
  have hXb : (w2.alloc (.cells #[.string Fb, .string Bb, .string Tb, .int .i64 Lb] 35)).drew.heap[w2.heap.size]? = some (.cells #[.string Fb, .string Bb, .string Tb, .int .i64 Lb] 35) := heap_new w2 _
  go_wp2_with fail
  go_region_held3 (fun w' => w'.cell? ⟨w1.heap.size, 0, none⟩ = some (.string Fa) ∧ w'.cell? ⟨w1.heap.size, 1, none⟩ = some (.string Ba) ∧ w'.cell? ⟨w1.heap.size, 2, none⟩ = some (.string Ta) ∧ w'.cell? ⟨w1.heap.size, 3, none⟩ = some (.int .i64 La) ∧ w'.cell? ⟨w2.heap.size, 0, none⟩ = some (.string Fb) ∧ w'.cell? ⟨w2.heap.size, 1, none⟩ = some (.string Bb) ∧ w'.cell? ⟨w2.heap.size, 2, none⟩ = some (.string Tb) ∧ w'.cell? ⟨w2.heap.size, 3, none⟩ = some (.int .i64 Lb) ∧ Hid (Base rb sv raw kxb w w')) (first | (simp only [c0a, c1a, c2a, c3a, c0b, c1b, c2b, c3b, true_and]; exact HBu) | (refine ⟨?_, ?_, ?_, ?_, ?_, ?_, ?_, ?_, hBs _ _ _ (hBs _ _ _ (hBs _ _ _ (hBs _ _ _ HBu)))⟩ <;> (go_keep; done)) | (go_keep; done))
    (first | (go_at_call_of 35 (Value.agg #[Value.string Fa, Value.string Ba, Value.string Ta, Value.int IntKind.i64 (La : Int)]); refine (HAa.out _).mono ?_; rintro e u ⟨rfl, hbu⟩; have HBu := hide (Base.below (by assumption) hbu); obtain ⟨r0, r1, r2, r3, rc0, rc1, rc2, rc3, rf⟩ := HBu.out.cells; replace hXa := (hbu.block _ (lt_heap hXa)).trans hXa; obtain ⟨c0a, c1a, c2a, c3a, cfa⟩ := four hXa; replace hXb := (hbu.block _ (lt_heap hXb)).trans hXb; obtain ⟨c0b, c1b, c2b, c3b, cfb⟩ := four hXb; clear hbu) | (go_at_call_of 35 (Value.agg #[Value.string Fb, Value.string Bb, Value.string Tb, Value.int IntKind.i64 (Lb : Int)]); refine (HAb.out _).mono ?_; rintro e u ⟨rfl, hbu⟩; have HBu := hide (Base.below (by assumption) hbu); obtain ⟨r0, r1, r2, r3, rc0, rc1, rc2, rc3, rf⟩ := HBu.out.cells; replace hXa := (hbu.block _ (lt_heap hXa)).trans hXa; obtain ⟨c0a, c1a, c2a, c3a, cfa⟩ := four hXa; replace hXb := (hbu.block _ (lt_heap hXb)).trans hXb; obtain ⟨c0b, c1b, c2b, c3b, cfb⟩ := four hXb; clear hbu))
  all_goals
    go_wp2_with fail
    refine bodyPost_ret (v := .agg #[.string Zf6, .string Zb2, .string Zt6, .int .i64 o.level]) (by simp [results, Tryz.results34, go_sem, rc0, rc1, rc2, rc3]) rfl ⟨Ex.op o xa xb, kxb, by rw [HV.out], Ex.Ok.op o HOa.out HOb.out, by simp only [Ex.op]; have := HXa.out; have := HXb.out; omega, ?_, ?_⟩
    · exact (hBs _ _ _ (hBs _ _ _ (hBs _ _ _ (hBs _ _ _ HBu)))).out.rawAt
    · exact (hBs _ _ _ (hBs _ _ _ (hBs _ _ _ (hBs _ _ _ HBu)))).out.kr

end
end Go.Proofs.YtnocnkblhjifjaaGreatDoor
