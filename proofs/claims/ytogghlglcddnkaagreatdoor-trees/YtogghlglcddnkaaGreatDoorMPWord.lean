import Derived.Test.YtogghlglcddnkaaGreatDoorMPHeap
import Derived.Test.YtogghlglcddnkaaGreatDoorMRefSee
/-
  (tree.Kind).word and (*tree.Node).title by their contracts.
-/
namespace Go.Proofs.YtogghlglcddnkaaGreatDoor
open Go.RowKit

theorem ret_str {a b : ByteArray} (h : a = b) : Ending.returned (.string a) = .returned (.string b) := by rw [h]

set_option maxHeartbeats 2000000 in
theorem kindWord_any (k : Int) (w : World) : Calls Tryz.prog 164 #[.int .i64 k] w fun e w' => e = .returned (.string (bs (wordOf k))) ∧ w' = w := by
  go_enter Tryz.func164, Tryz.ntmps164
  go_wp2
  all_goals
    go_ret
    refine ⟨ret_str ?_, rfl⟩
    simp_all [wordOf, bsK_fun, bsK_let, bsK_rec, bsK_if, bsK_seq, bsK_setN, bsK_bang, bsK_app, bsK_con, bsK_match, bsK_row, bsK_do, bsK_type, bsK_arrow, bsK_nil]

/-- A node's cells. -/
theorem node_cells {w : World} {b : Nat} {k : Int} {txt : List UInt8} {pv : Value} (hb : w.heap[b]? = some (.cells #[.int .i64 k, .string (bs txt), pv] tyTree (0, 0))) :
    b < w.heap.size ∧ w.cell? ⟨b, 0, none⟩ = some (.int .i64 k) ∧ w.cell? ⟨b, 1, none⟩ = some (.string (bs txt)) ∧ w.cell? ⟨b, 2, none⟩ = some pv ∧ ∀ o, w.frozen? ⟨b, o, none⟩ = false :=
  ⟨(Array.getElem?_eq_some_iff.1 hb).1, by simp [World.cell?, hb], by simp [World.cell?, hb], by simp [World.cell?, hb], fun o => by simp [World.frozen?, hb]⟩

end Go.Proofs.YtogghlglcddnkaaGreatDoor
