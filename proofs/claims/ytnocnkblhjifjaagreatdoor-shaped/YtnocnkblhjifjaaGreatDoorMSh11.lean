import Derived.Test.YtnocnkblhjifjaaGreatDoorMSh8
import Derived.Test.YtnocnkblhjifjaaGreatDoorMSh9bang
import Derived.Test.YtnocnkblhjifjaaGreatDoorMSh9fn
import Derived.Test.YtnocnkblhjifjaaGreatDoorMSh9set
import Derived.Test.YtnocnkblhjifjaaGreatDoorMSh9ite
import Derived.Test.YtnocnkblhjifjaaGreatDoorMSh9app
/-
  (*Raw).made by its contract: whatever it is made of, it answers some expression's three writings.
-/
namespace Go.Proofs.YtnocnkblhjifjaaGreatDoor
open Go.RowKit

section
variable {rb : Nat} {sv : Value} {raw : List Int}

set_option maxRecDepth 100000 in
set_option maxHeartbeats 4000000 in
theorem made_zero {k0 : Nat} {w : World} (h : RawAt rb sv raw k0 w) : Calls Tryz.prog 17 #[.pointer (some ⟨rb, 0, none⟩), .int .i64 0] w (Mk rb sv raw 0 w) := by
  have hrb := h.cell.2.2.1
  have HBw := hide (Base.start h)
  clear h
  go_enter Tryz.func17, Tryz.ntmps17
  go_wp2_with fail
  refine (rawAtom_any HBw.out.rawAt).mono ?_; rintro e w1 ⟨x, k1, rfl, ho, hx, hr, hk⟩
  have HBw1 := hide (HBw.out.call hr hk hrb)
  clear hr hk
  obtain ⟨r0, r1, r2, r3, rc0, rc1, rc2, rc3, rf⟩ := HBw1.out.cells
  have HX := hide hx
  have HV : Hid (madeV x = .agg #[.string (fb x), .string (bb x), .string (tb x), .int .i64 x.level]) := rfl
  rw [HV.out]
  generalize fb x = F at *
  generalize bb x = B at *
  generalize tb x = T at *
  generalize x.level = L at *
  clear hx
  go_wp2_with fail
  exact bodyPost_ret (v := madeV x) (by rw [HV.out]; simp [results, Tryz.results17, go_sem, rc0, rc1, rc2, rc3]) rfl (atom_fin hrb HBw1.out x ho HX.out _ rfl _ _ _ _)

set_option maxRecDepth 100000 in
set_option maxHeartbeats 4000000 in
theorem made_atom (d k0 k1 : Nat) (hd : d ≤ 4) {w : World} (h : RawAt rb sv raw k0 w) (v : Int) (hv : v = 0 ∨ v = 1) (hN : NextIs rb sv raw k0 12 v k1) : Calls Tryz.prog 17 #[.pointer (some ⟨rb, 0, none⟩), .int .i64 ((d : Int) + 1)] w (Mk rb sv raw (d + 1) w) := by
  have hrb := h.cell.2.2.1
  have HBw := hide (Base.start h)
  have HN := hide hN
  clear h hN
  rcases hv with rfl | rfl
  all_goals
    go_enter Tryz.func17, Tryz.ntmps17
    go_wp2_with fail
    refine (HN.out _ HBw.out.rawAt).mono ?_; rintro e w1 ⟨rfl, hr, hk⟩
    have HBw1 := hide (HBw.out.call hr hk hrb)
    clear hr hk
    go_wp2_with fail
    refine (rawAtom_any HBw1.out.rawAt).mono ?_; rintro e w2 ⟨x, k2, rfl, ho, hx, hr, hk⟩
    have HBw2 := hide (HBw1.out.call hr hk hrb)
    clear hr hk
    obtain ⟨r0, r1, r2, r3, rc0, rc1, rc2, rc3, rf⟩ := HBw2.out.cells
    have HX := hide hx
    have HV : Hid (madeV x = .agg #[.string (fb x), .string (bb x), .string (tb x), .int .i64 x.level]) := rfl
    rw [HV.out]
    generalize fb x = F at *
    generalize bb x = B at *
    generalize tb x = T at *
    generalize x.level = L at *
    clear hx
    go_wp2_with fail
    exact bodyPost_ret (v := madeV x) (by rw [HV.out]; simp [results, Tryz.results17, go_sem, rc0, rc1, rc2, rc3]) rfl (atom_fin hrb HBw2.out x ho (by have := HX.out; omega) _ rfl _ _ _ _)

/-- Which sign is meant by which two numbers. -/
def opOf (o : Op) : Int × Int := match o.k with
  | 0 => (2, 0) | 1 => (2, 1) | 2 => (3, 0) | 3 => (3, 1) | 4 => (4, 0) | 5 => (4, 1)

theorem cut_eq : ((⟨#[61, 60]⟩ : ByteArray).extract 0 2).extract 0 1 = bs [61] := by decide
theorem cut_lt : ((⟨#[61, 60]⟩ : ByteArray).extract 1 2).extract 0 1 = bs [60] := by decide
theorem cut_add : ((⟨#[43, 45]⟩ : ByteArray).extract 0 2).extract 0 1 = bs [43] := by decide
theorem cut_sub : ((⟨#[43, 45]⟩ : ByteArray).extract 1 2).extract 0 1 = bs [45] := by decide
theorem cut_mul : ((⟨#[42, 47]⟩ : ByteArray).extract 0 2).extract 0 1 = bs [42] := by decide
theorem cut_div : ((⟨#[42, 47]⟩ : ByteArray).extract 1 2).extract 0 1 = bs [47] := by decide

set_option maxRecDepth 100000 in
set_option maxHeartbeats 8000000 in
theorem made_oper (d k0 k1 k2 : Nat) (hd : d ≤ 4) (o : Op) {w : World} (h : RawAt rb sv raw k0 w) (hN : NextIs rb sv raw k0 12 (opOf o).1 k1) (hN2 : NextIs rb sv raw k1 2 (opOf o).2 k2) (hM : MadeIs rb sv raw d) : Calls Tryz.prog 17 #[.pointer (some ⟨rb, 0, none⟩), .int .i64 ((d : Int) + 1)] w (Mk rb sv raw (d + 1) w) := by
  have hrb := h.cell.2.2.1
  have HBw := hide (Base.start h)
  have HN := hide hN
  have HN2 := hide hN2
  have HM := hide hM
  have HOp := hide (fun wx hr => made_op (rb := rb) (sv := sv) (raw := raw) d k2 hd o (w := wx) hr hM)
  clear h hN hN2 hM
  rcases o.all with rfl | rfl | rfl | rfl | rfl | rfl
  all_goals
    go_enter Tryz.func17, Tryz.ntmps17
    go_wp2_with fail
    refine (HN.out _ HBw.out.rawAt).mono ?_; rintro e w1 ⟨rfl, hr, hk⟩
    have HBw1 := hide (HBw.out.call hr hk hrb)
    clear hr hk
    go_wp2_with fail
    refine (HN2.out _ HBw1.out.rawAt).mono ?_; rintro e w2 ⟨rfl, hr, hk⟩
    have HBw2 := hide (HBw1.out.call hr hk hrb)
    clear hr hk
    simp only [opOf]
    go_wp2_with fail
    refine (HOp.out _ HBw2.out.rawAt).mono ?_; rintro e w3 ⟨x, k3, rfl, ho, hx, hr, hk⟩
    have HBw3 := hide (HBw2.out.call hr hk hrb)
    clear hr hk
    obtain ⟨r0, r1, r2, r3, rc0, rc1, rc2, rc3, rf⟩ := HBw3.out.cells
    have HX := hide hx
    have HV : Hid (madeV x = .agg #[.string (fb x), .string (bb x), .string (tb x), .int .i64 x.level]) := rfl
    rw [HV.out]
    generalize fb x = F at *
    generalize bb x = B at *
    generalize tb x = T at *
    generalize x.level = L at *
    clear hx
    go_wp2_with fail
    exact bodyPost_ret (v := madeV x) (by rw [HV.out]; simp [results, Tryz.results17, go_sem, rc0, rc1, rc2, rc3]) rfl (atom_fin hrb HBw3.out x ho HX.out _ rfl _ _ _ _)

theorem made_any (rb : Nat) (sv : Value) (raw : List Int) : ∀ d : Nat, d ≤ 5 → MadeIs rb sv raw d := by
  intro d
  induction d with
  | zero => exact fun _ k wx hr => made_zero hr
  | succ d ih =>
    intro hd k wx hr
    have hM := ih (by omega)
    have hd4 : d ≤ 4 := by omega
    have e : (((d + 1 : Nat) : Nat) : Int) = (d : Int) + 1 := by omega
    rw [e]
    obtain ⟨v, k1, hv, hN⟩ := nextIs rb sv raw k 12 (by decide) (by decide)
    rcases (show v = 0 ∨ v = 1 ∨ v = 2 ∨ v = 3 ∨ v = 4 ∨ v = 5 ∨ v = 6 ∨ v = 7 ∨ v = 8 ∨ v = 9 ∨ v = 10 ∨ v = 11 by omega) with rfl | rfl | rfl | rfl | rfl | rfl | rfl | rfl | rfl | rfl | rfl | rfl
    · exact made_atom d k k1 hd4 hr _ (Or.inl rfl) hN
    · exact made_atom d k k1 hd4 hr _ (Or.inr rfl) hN
    · obtain ⟨k2, h2 | h2⟩ := next2 rb sv raw k1
      · exact made_oper d k k1 k2 hd4 .eq hr hN h2 hM
      · exact made_oper d k k1 k2 hd4 .lt hr hN h2 hM
    · obtain ⟨k2, h2 | h2⟩ := next2 rb sv raw k1
      · exact made_oper d k k1 k2 hd4 .add hr hN h2 hM
      · exact made_oper d k k1 k2 hd4 .sub hr hN h2 hM
    · obtain ⟨k2, h2 | h2⟩ := next2 rb sv raw k1
      · exact made_oper d k k1 k2 hd4 .mul hr hN h2 hM
      · exact made_oper d k k1 k2 hd4 .div hr hN h2 hM
    · exact made_app d k hd4 k1 hr hN hM
    · exact made_cons d k hd4 k1 hr hN hM
    · exact made_bang d k hd4 k1 hr hN hM
    · obtain ⟨x, k2, hx⟩ := next4 rb sv raw k1
      exact made_fn d k hd4 k1 x k2 hr hN hx hM
    · obtain ⟨x, k2, hx⟩ := next4 rb sv raw k1
      exact made_lett d k hd4 k1 x k2 hr hN hx hM
    · exact made_set d k hd4 k1 hr hN hM
    · exact made_ite d k hd4 k1 hr hN hM

end
end Go.Proofs.YtnocnkblhjifjaaGreatDoor
