/-
  kilnref.Tokens by its contract: the tokens' texts, the place, the error's number that the plain function cutL says.
-/
import Derived.Test.YtnocnkblhjifjaaRefCut
import Derived.Test.YtnocnkblhjifjaaCutLen
namespace Go.Proofs.Ytnocnkblhjifjaa
open Go.RowKit

theorem flat_at (toks : List (List UInt8)) (k : Nat) (hk : k < toks.length) : (toks.flatMap tkV)[k * 2 + 1]? = some (.string (bs toks[k])) := by
  induction toks generalizing k with
  | nil => simp at hk
  | cons t r ih =>
    rw [List.flatMap_cons]
    cases k with
    | zero => simp [tkV]
    | succ k =>
      have := ih k (by simpa using hk)
      rw [List.getElem?_append_right (by simp [tkV]; omega)]
      simp only [tkV, List.length_cons, List.length_nil, List.getElem_cons_succ]
      rw [← this]; congr 1; omega

set_option maxHeartbeats 1000000 in
theorem refTokens_any (s : ByteArray) (w : World) (hs : s.size ≤ maxLen) :
    Calls Try.prog 11 #[.string s] w fun e w' => ∃ v, e = .returned (.tuple #[v, .int .i64 (cutL s.data.toList).2.1, .int .i64 (cutL s.data.toList).2.2]) ∧
      w'.ownsRow w.heap.size 9 1 v (cutL s.data.toList).1.length ((cutL s.data.toList).1.map strV) ∧ Below w.heap.size w w' := by
  have hlen := cutL_len s.data.toList
  have hc := fun wx => refCut_any s wx hs
  generalize cutL s.data.toList = R at *
  obtain ⟨toks, at_, en⟩ := R
  simp only at hlen hc ⊢
  have HC := hide hc
  clear hc
  obtain ⟨i0, hi, hz0, hz1, hz2⟩ := info_parts Try.infoStr
  go_enter Try.func11, Try.ntmps11
  go_wp2_with fail
  refine (HC.out _).mono ?_; rintro e w1 ⟨vt, rfl, hown0, hbel0⟩
  rcases ownsRow_forms hown0 with ⟨rfl, hn0⟩ | ⟨g, cap, rfl⟩
  · have ht : toks = [] := List.length_eq_zero_iff.1 hn0
    subst ht
    clear hn0
    go_wp2_with fail
    refine wp_loop_rounds 1 ?_
    rw [rounds_succ]
    go_wp2
    go_ret3
    exact ⟨_, rfl, World.ownsRow_nil _ _ _ _, hbel0⟩
  · go_wp2_with fail
    go_loopw [8, 9] (fun v i wr => ∃ k : Nat, k ≤ toks.length ∧ i = .int .i64 k ∧ wr.ownsRow w1.heap.size 9 1 v (toks.take k).length ((toks.take k).map strV) ∧ Below w1.heap.size w1 wr)
      (fun _ i _ => toks.length - (intOf i).toNat)
    case atStart => exact ⟨0, Nat.zero_le _, rfl, World.ownsRow_nil _ _ _ _, Below.refl _ _⟩
    case round =>
      obtain ⟨k, hk, rfl, hown, hbel⟩ := hrel
      by_cases hlt : k < toks.length
      · have hgl : g < w1.heap.size := (hown0.lt g rfl).2
        have hcell : wr.cell? ⟨g, k * 2 + 1, none⟩ = some (.string (bs toks[k])) := by
          rw [hbel.cell (p := ⟨g, k * 2 + 1, none⟩) hgl, hown0.cellAt (k * 2 + 1) (by omega)]
          exact flat_at toks k hlt
        have htk : toks.take (k + 1) = toks.take k ++ [toks[k]] := List.take_succ_eq_append_getElem hlt
        have hl1 : (toks.take k).length = k := by simp; omega
        generalize toks[k] = tk at *
        have HT := hide htk
        have HL := hide hl1
        clear htk hl1
        go_wp2_with (at_builtin; refine wpList_append_own _ rfl _ _ 22 rfl w1.heap.size 9 i0 (.string ByteArray.empty) 1 16 Try.underlying22 hi hz0 hz1 hz2 rfl (by decide) _ _ _ rfl (hown.alloc _) ⟨wr.heap.size, 0, none⟩ 1 1 [.string (bs tk)] rfl rfl ?c1 ?c2 ?c3 ?c4 ?c5 ?_)
        case c1 => exact cell_one_new _ _ _
        case c2 => intro u hu; simp at hu; subst hu; rfl
        case c3 => have := HL.out; unfold maxLen; omega
        case c4 => have := HL.out; omega
        case c5 => have := hbel.size; simp; omega
        · intro v' w2 hown' hgrow _
          have hbel2 : Below w1.heap.size w1 w2 := (hbel.alloc hbel.size _).grown hgrow (by have := hbel.size; simp; omega) (fun g hg => (hown.lt g hg).1)
          have hown2 : w2.ownsRow w1.heap.size 9 1 v' (toks.take (k + 1)).length ((toks.take (k + 1)).map strV) := by
            rw [HT.out, List.length_append, List.map_append, HL.out, List.map_take]; exact hown'
          clear hown' hgrow hown hbel hcell
          go_wp2
          go_roundw
          case rel => exact ⟨k + 1, by omega, by go_num, hown2, hbel2⟩
          case measure => simp [intOf]; omega
      · have hk2 : k = toks.length := by omega
        subst hk2
        go_wp2
        go_ret3
        rw [List.take_length] at hown
        exact ⟨_, rfl, ownsRow_le hown hbel0.size, hbel0.trans (hbel.mono hbel0.size)⟩

end Go.Proofs.Ytnocnkblhjifjaa
