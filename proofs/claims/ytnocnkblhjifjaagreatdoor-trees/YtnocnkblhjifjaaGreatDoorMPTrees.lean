import Derived.Test.YtnocnkblhjifjaaGreatDoorMPTreesP
import Derived.Test.YtnocnkblhjifjaaGreatDoorMRefTrees
import Derived.Test.YtnocnkblhjifjaaGreatDoorMSameZ
/-
  kilnref.Trees answers what the grammar says.
-/
namespace Go.Proofs.YtnocnkblhjifjaaGreatDoor
open Go.RowKit

/-- What the document's Trees answers. -/
theorem refTrees_any (txt : ByteArray) (w : World) (hs : txt.size ≤ maxLen) :
    Calls Tryz.prog 30 #[.string txt] w fun e w' => ∃ v, e = .returned (.tuple #[v, .int .i64 (progA txt.data.toList).2.1, .int .i64 (progA txt.data.toList).2.2]) ∧ w'.ownsRow w.heap.size tyStr 1 v (treesA txt.data.toList).length ((treesA txt.data.toList).map strV) ∧ Below w.heap.size w w' := by
  unfold treesA progA
  by_cases h0 : (cutL txt.data.toList).2.2 = 0
  · rw [if_pos h0]
    have hl := cutL_len txt.data.toList
    have hw := cut_wt txt.data.toList
    obtain ⟨R, s', P, h1, h2, h3, h4, h5, h6, h7, h8⟩ := trees_plain (cutL txt.data.toList).1 hl (by omega)
    refine (refTrees_ok _ _ (by omega) (by omega) txt w hs h0 R s' h1 P h2 h3 h4 h5 h6).mono ?_
    rintro e w' ⟨v, rfl, hv, hb⟩
    refine ⟨v, by rw [h7], ?_, hb⟩
    rw [← h8, List.length_map]
    exact hv
  · rw [if_neg h0]
    refine (refTrees_err txt w hs h0).mono ?_
    rintro e w' ⟨v, rfl, hv, hb⟩
    exact ⟨v, rfl, hv, hb⟩

end Go.Proofs.YtnocnkblhjifjaaGreatDoor
/-
  The law kilnlaw.Trees, walked by contracts: at every text it returns true; of what was there nothing has turned.
-/
namespace Go.Proofs.YtnocnkblhjifjaaGreatDoor
open Go.RowKit

set_option maxHeartbeats 400000 in
theorem num_any (n : Int) (w : World) : Calls Tryz.prog 31 #[.int .i64 n] w fun e w' => e = .returned (.int .i64 n) ∧ w' = w := by
  go_enter Tryz.func31, Tryz.ntmps31
  go_wp2
  go_ret
  exact ⟨rfl, rfl⟩

theorem treesA_len (l : List UInt8) : (treesA l).length ≤ 4000 := by unfold treesA; rw [List.length_map]; exact progA_len l

set_option maxHeartbeats 1000000 in
theorem lawTrees_any (s : ByteArray) (w : World) (hs : s.size ≤ maxLen) :
    Calls Tryz.prog 15 #[.string s] w fun e w' => ∃ v, e = .returned (.tuple #[v, .bool true]) ∧ Below w.heap.size w w' := by
  have hlen := treesA_len s.data.toList
  have hc1 := fun wx => kilnTrees_any s wx hs
  have hc2 := fun wx => refTrees_any s wx hs
  generalize treesA s.data.toList = toks at *
  generalize (progA s.data.toList).2.1 = at_ at *
  generalize (progA s.data.toList).2.2 = en at *
  have HC1 := hide hc1
  have HC2 := hide hc2
  clear hc1 hc2
  have hb1 : ((at_ : Int) == at_) = true := by simp
  have hb2 : ((en : Int) == en) = true := by simp
  go_enter Tryz.func15, Tryz.ntmps15
  go_wp2_with fail
  refine (HC1.out _).mono ?_; rintro e w1 ⟨v1, rfl, hown1, hbel1⟩
  go_wp2_with fail
  refine (HC2.out _).mono ?_; rintro e w2 ⟨v2, rfl, hown2, hbel2⟩
  have hown1' := ownsRow_below hown1 hbel2
  have hbel : Below w.heap.size w w2 := hbel1.trans (hbel2.mono hbel1.size)
  clear hown1 hbel1 hbel2
  go_wp2_with fail
  refine (lawSame_yes toks _ _ _ _ _ (by omega) hown1' hown2).mono ?_; rintro e w3 ⟨rfl, nq, hw3⟩; subst w3
  clear hown1' hown2
  go_wp2_with (go_at_call 31; refine (num_any _ _).mono ?_; rintro e w' ⟨rfl, hw'⟩; subst w')
  go_ret2
  exact ⟨v1, rfl, below_drewN hbel nq⟩

theorem trees_letx : treesA [108, 101, 116, 32, 120, 32, 61, 32, 49, 32, 46] = [[40, 108, 101, 116, 32, 120, 32, 49, 41]] ∧ (progA [108, 101, 116, 32, 120, 32, 61, 32, 49, 32, 46]).2 = (0, 0) := by decide +kernel

set_option maxHeartbeats 1000000 in
theorem walkTrees (s : ByteArray) (hs : s.size ≤ maxLen) (w : World) :
    Calls Tryz.prog 3 #[.string s] w fun e w' => e = .returned (.bool true) ∧ Below w.heap.size w w' := by
  have hc1 := fun wx => kilnTrees_any ⟨#[108, 101, 116, 32, 120, 32, 61, 32, 49, 32, 46]⟩ wx (by decide)
  rw [show (ByteArray.mk #[108, 101, 116, 32, 120, 32, 61, 32, 49, 32, 46]).data.toList = [108, 101, 116, 32, 120, 32, 61, 32, 49, 32, 46] from rfl, trees_letx.1, show (progA [108, 101, 116, 32, 120, 32, 61, 32, 49, 32, 46]).2.1 = 0 by rw [trees_letx.2], show (progA [108, 101, 116, 32, 120, 32, 61, 32, 49, 32, 46]).2.2 = 0 by rw [trees_letx.2]] at hc1
  have HC1 := hide hc1
  clear hc1
  go_enter Tryz.func3, Tryz.ntmps3
  go_wp2_with fail
  refine (HC1.out _).mono ?_; rintro e w1 ⟨v1, rfl, hown1, hbel1⟩
  go_wp2_with fail
  have hownA := hown1.alloc (.cells #[.string ⟨#[40, 108, 101, 116, 32, 120, 32, 49, 41]⟩] 9)
  have hownB := World.ownsRow_lit (base := w1.heap.size) (e := 9) (size := 1) w1 #[.string ⟨#[40, 108, 101, 116, 32, 120, 32, 49, 41]⟩] 1 (Nat.le_refl _) (by decide) rfl
  have hbel2 : Below w.heap.size w (w1.alloc (.cells #[.string ⟨#[40, 108, 101, 116, 32, 120, 32, 49, 41]⟩] 9)) := hbel1.alloc hbel1.size _
  refine (lawSame_yes [[40, 108, 101, 116, 32, 120, 32, 49, 41]] _ _ _ _ _ (by decide) hownA hownB).mono ?_; rintro e w3 ⟨rfl, nq, hw3⟩
  have hbel3 : Below w.heap.size w w3 := by rw [hw3]; exact below_drewN hbel2 nq
  clear hw3 hown1 hbel1 hownA hownB hbel2
  go_wp2_with fail
  refine (lawTrees_any s _ hs).mono ?_; rintro e w4 ⟨v4, rfl, hbel4⟩
  have hbel5 : Below w.heap.size w w4 := hbel3.trans (hbel4.mono hbel3.size)
  clear hbel3 hbel4
  go_wp2_with fail
  go_ret
  exact ⟨rfl, hbel5⟩

end Go.Proofs.YtnocnkblhjifjaaGreatDoor
