/-
  kiln.Tokens by its contract: what it answers is what the plain function cutL says.
-/
import Derived.Test.YtnocnkblhjifjaaCut
namespace Go.Proofs.Ytnocnkblhjifjaa
open Go.RowKit

set_option maxHeartbeats 400000 in
theorem kilnTokens_any (s : ByteArray) (w : World) (hs : s.size ≤ maxLen) :
    Calls Try.prog 5 #[.string s] w fun e w' => ∃ v, e = .returned (.tuple #[v, .int .i64 (cutL s.data.toList).2.1, .int .i64 (cutL s.data.toList).2.2]) ∧
      w'.ownsRow w.heap.size 9 1 v (cutL s.data.toList).1.length ((cutL s.data.toList).1.map strV) ∧ Below w.heap.size w w' := by
  have hc := fun wx => Cut_any s wx hs
  generalize cutL s.data.toList = R at *
  have HC : Hid (∀ wx : World, Calls Try.prog 10 #[.string s] wx fun e w' => ∃ v, e = .returned (.tuple #[v, .int .i64 R.2.1, .int .i64 R.2.2]) ∧ w'.ownsRow wx.heap.size 9 1 v R.1.length (R.1.map strV) ∧ Below wx.heap.size wx w') := hc
  clear hc
  go_enter Try.func5, Try.ntmps5
  go_wp2_with (go_at_call 10; refine (HC.out _).mono ?_; rintro e w' ⟨v, rfl, hown, hbel⟩)
  go_ret3
  exact ⟨v, rfl, hown, hbel⟩

end Go.Proofs.Ytnocnkblhjifjaa
