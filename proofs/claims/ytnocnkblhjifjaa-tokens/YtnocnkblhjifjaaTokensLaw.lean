/-
  The law kilnlaw.Tokens, walked by contracts: at every text it returns true; of what was there nothing has turned.
-/
import Derived.Test.YtnocnkblhjifjaaSame
import Derived.Test.YtnocnkblhjifjaaKilnTokens
namespace Go.Proofs.Ytnocnkblhjifjaa
open Go.RowKit

set_option maxHeartbeats 400000 in
theorem num_any (n : Int) (w : World) : Calls Try.prog 12 #[.int .i64 n] w fun e w' => e = .returned (.int .i64 n) ∧ w' = w := by
  go_enter Try.func12, Try.ntmps12
  go_wp2
  go_ret
  exact ⟨rfl, rfl⟩

theorem below_drewN' {B : Nat} {a w : World} (h : Below B a w) (n : Nat) : Below B a (w.drewN n) := below_drewN h n

set_option maxHeartbeats 1000000 in
theorem lawTokens_any (s : ByteArray) (w : World) (hs : s.size ≤ maxLen) :
    Calls Try.prog 7 #[.string s] w fun e w' => ∃ v, e = .returned (.tuple #[v, .bool true]) ∧ Below w.heap.size w w' := by
  have hlen := cutL_len s.data.toList
  have hc1 := fun wx => kilnTokens_any s wx hs
  have hc2 := fun wx => refTokens_any s wx hs
  generalize cutL s.data.toList = R at *
  obtain ⟨toks, at_, en⟩ := R
  simp only at hlen hc1 hc2
  have HC1 := hide hc1
  have HC2 := hide hc2
  clear hc1 hc2
  have hb1 : ((at_ : Int) == at_) = true := by simp
  have hb2 : ((en : Int) == en) = true := by simp
  go_enter Try.func7, Try.ntmps7
  go_wp2_with fail
  refine (HC1.out _).mono ?_; rintro e w1 ⟨v1, rfl, hown1, hbel1⟩
  go_wp2_with fail
  refine (HC2.out _).mono ?_; rintro e w2 ⟨v2, rfl, hown2, hbel2⟩
  have hown1' := ownsRow_below hown1 hbel2
  have hbel : Below w.heap.size w w2 := hbel1.trans (hbel2.mono hbel1.size)
  clear hown1 hbel1 hbel2
  go_wp2_with fail
  refine (lawSame_yes toks _ _ _ _ _ (by omega) hown1' hown2).mono ?_; rintro e w3 ⟨rfl, nq, hw3⟩; subst w3
  clear hown1' hown2
  go_wp2_with (go_at_call 12; refine (num_any _ _).mono ?_; rintro e w' ⟨rfl, hw'⟩; subst w')
  go_ret2
  exact ⟨v1, rfl, below_drewN' hbel nq⟩

theorem cut_letx : cutL [108, 101, 116, 32, 120] = ([[108, 101, 116], [120]], 0, 0) := by decide +kernel

set_option maxHeartbeats 1000000 in
theorem walkTokens (s : ByteArray) (hs : s.size ≤ maxLen) (w : World) :
    Calls Try.prog 3 #[.string s] w fun e w' => e = .returned (.bool true) ∧ Below w.heap.size w w' := by
  have hc1 := fun wx => kilnTokens_any ⟨#[108, 101, 116, 32, 120]⟩ wx (by decide)
  rw [show cutL (ByteArray.mk #[108, 101, 116, 32, 120]).data.toList = _ from cut_letx] at hc1
  have HC1 := hide hc1
  clear hc1
  go_enter Try.func3, Try.ntmps3
  go_wp2_with fail
  refine (HC1.out _).mono ?_; rintro e w1 ⟨v1, rfl, hown1, hbel1⟩
  go_wp2_with fail
  have hownA := hown1.alloc (.cells #[.string ⟨#[108, 101, 116]⟩, .string ⟨#[120]⟩] 9)
  have hownB := World.ownsRow_lit (base := w1.heap.size) (e := 9) (size := 1) w1 #[.string ⟨#[108, 101, 116]⟩, .string ⟨#[120]⟩] 2 (Nat.le_refl _) (by decide) rfl
  have hbel2 : Below w.heap.size w (w1.alloc (.cells #[.string ⟨#[108, 101, 116]⟩, .string ⟨#[120]⟩] 9)) := hbel1.alloc hbel1.size _
  refine (lawSame_yes [[108, 101, 116], [120]] _ _ _ _ _ (by decide) hownA hownB).mono ?_; rintro e w3 ⟨rfl, nq, hw3⟩
  have hbel3 : Below w.heap.size w w3 := by rw [hw3]; exact below_drewN' hbel2 nq
  clear hw3 hown1 hbel1 hownA hownB hbel2
  go_wp2_with fail
  refine (lawTokens_any s _ hs).mono ?_; rintro e w4 ⟨v4, rfl, hbel4⟩
  have hbel5 : Below w.heap.size w w4 := hbel3.trans (hbel4.mono hbel3.size)
  clear hbel3 hbel4
  go_wp2_with fail
  go_ret
  exact ⟨rfl, hbel5⟩

end Go.Proofs.Ytnocnkblhjifjaa
