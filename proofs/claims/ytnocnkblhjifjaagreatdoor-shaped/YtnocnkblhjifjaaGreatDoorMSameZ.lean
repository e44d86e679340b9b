import Derived.Test.YtnocnkblhjifjaaGreatDoorMPTok
import Derived.Test.YtnocnkblhjifjaaGreatDoorMRefSee
import Derived.Deep.QuietTactic
import Derived.BigQuiet
/-
  sameTexts (kilnlaw) and same (kilnkeep): of two lists that hold the same texts they say yes.
-/
namespace Go.Proofs.YtnocnkblhjifjaaGreatDoor
open Go.RowKit

set_option maxHeartbeats 1000000 in
theorem lawSame_yes (toks : List (List UInt8)) (v1 v2 : Value) (b1 b2 : Nat) (w : World) (hn : toks.length ≤ 100000)
    (h1 : w.ownsRow b1 9 1 v1 toks.length (toks.map strV)) (h2 : w.ownsRow b2 9 1 v2 toks.length (toks.map strV)) :
    Calls Tryz.prog 14 #[v1, v2] w fun e w' => e = .returned (.bool true) ∧ ∃ nq, w' = w.drewN nq := by
  by_cases h0 : toks.length = 0
  · have hv : ∀ {v : Value} {b : Nat}, w.ownsRow b 9 1 v toks.length (toks.map strV) → ∃ a c, v = .slice a 0 c := by
      intro v b h
      rcases ownsRow_forms h with ⟨rfl, _⟩ | ⟨g, cap, rfl⟩
      · exact ⟨_, _, rfl⟩
      · rw [h0]; exact ⟨_, _, rfl⟩
    obtain ⟨a1, c1, rfl⟩ := hv h1
    obtain ⟨a2, c2, rfl⟩ := hv h2
    clear h1 h2 hv
    go_enter Tryz.func14, Tryz.ntmps14
    go_wp2
    refine wp_loop_rounds 1 ?_
    rw [rounds_succ]
    go_wp2
    go_ret
    exact ⟨rfl, 0, rfl⟩
  · obtain ⟨g1, c1, rfl⟩ : ∃ g cap, v1 = .slice (some ⟨g, 0, none⟩) toks.length cap := by
      rcases ownsRow_forms h1 with ⟨_, h⟩ | h
      · exact absurd h h0
      · exact h
    obtain ⟨g2, c2, rfl⟩ : ∃ g cap, v2 = .slice (some ⟨g, 0, none⟩) toks.length cap := by
      rcases ownsRow_forms h2 with ⟨_, h⟩ | h
      · exact absurd h h0
      · exact h
    have hq1 : ∀ k, k < toks.length → w.cell? ⟨g1, k, none⟩ = some (strV (toks.getD k [])) := fun k hk => by
      rw [h1.cellAt k (by omega), List.getElem?_map, List.getElem?_eq_getElem hk, List.getD_eq_getElem?_getD, List.getElem?_eq_getElem hk]; rfl
    have hq2 : ∀ k, k < toks.length → w.cell? ⟨g2, k, none⟩ = some (strV (toks.getD k [])) := fun k hk => by
      rw [h2.cellAt k (by omega), List.getElem?_map, List.getElem?_eq_getElem hk, List.getD_eq_getElem?_getD, List.getElem?_eq_getElem hk]; rfl
    have HQ1 := hide hq1
    have HQ2 := hide hq2
    clear hq1 hq2 h1 h2
    generalize toks.length = n at *
    have hne : ((n : Int) != (n : Int)) = false := by simp
    go_enter Tryz.func14, Tryz.ntmps14
    go_wp2
    go_loopw [5] (fun i wr => ∃ k : Nat, k ≤ n ∧ i = .int .i64 k ∧ ∃ nq, wr = w.drewN nq) (fun i _ => n - (intOf i).toNat)
    case atStart => exact ⟨0, Nat.zero_le _, rfl, 0, rfl⟩
    case round =>
      obtain ⟨k, hk, rfl, nq, rfl⟩ := hrel
      by_cases hlt : k < n
      · have e1 := HQ1.out k hlt
        have e2 := HQ2.out k hlt
        unfold strV at e1 e2
        generalize bs (toks.getD k []) = bk at *
        have hlt2 : (k : Int) < (n : Int) := by omega
        have hbb : (bk.toList != bk.toList) = false := by simp
        go_wp2_with fail
        go_quiet (fail)
        go_wp2
        exact ⟨⟨k + 1, by omega, by go_num, _, rfl⟩, by simp [intOf]; omega⟩
      · go_wp2
        go_ret
        exact ⟨rfl, nq, rfl⟩
set_option maxHeartbeats 1000000 in
theorem keepSame_yes (toks : List (List UInt8)) (v1 v2 : Value) (b1 b2 : Nat) (w : World) (hn : toks.length ≤ 100000)
    (h1 : w.ownsRow b1 9 1 v1 toks.length (toks.map strV)) (h2 : w.ownsRow b2 9 1 v2 toks.length (toks.map strV)) :
    Calls Tryz.prog 16 #[v1, v2] w fun e w' => e = .returned (.bool true) ∧ ∃ nq, w' = w.drewN nq := by
  by_cases h0 : toks.length = 0
  · have hv : ∀ {v : Value} {b : Nat}, w.ownsRow b 9 1 v toks.length (toks.map strV) → ∃ a c, v = .slice a 0 c := by
      intro v b h
      rcases ownsRow_forms h with ⟨rfl, _⟩ | ⟨g, cap, rfl⟩
      · exact ⟨_, _, rfl⟩
      · rw [h0]; exact ⟨_, _, rfl⟩
    obtain ⟨a1, c1, rfl⟩ := hv h1
    obtain ⟨a2, c2, rfl⟩ := hv h2
    clear h1 h2 hv
    go_enter Tryz.func16, Tryz.ntmps16
    go_wp2
    refine wp_loop_rounds 1 ?_
    rw [rounds_succ]
    go_wp2
    go_ret
    exact ⟨rfl, 0, rfl⟩
  · obtain ⟨g1, c1, rfl⟩ : ∃ g cap, v1 = .slice (some ⟨g, 0, none⟩) toks.length cap := by
      rcases ownsRow_forms h1 with ⟨_, h⟩ | h
      · exact absurd h h0
      · exact h
    obtain ⟨g2, c2, rfl⟩ : ∃ g cap, v2 = .slice (some ⟨g, 0, none⟩) toks.length cap := by
      rcases ownsRow_forms h2 with ⟨_, h⟩ | h
      · exact absurd h h0
      · exact h
    have hq1 : ∀ k, k < toks.length → w.cell? ⟨g1, k, none⟩ = some (strV (toks.getD k [])) := fun k hk => by
      rw [h1.cellAt k (by omega), List.getElem?_map, List.getElem?_eq_getElem hk, List.getD_eq_getElem?_getD, List.getElem?_eq_getElem hk]; rfl
    have hq2 : ∀ k, k < toks.length → w.cell? ⟨g2, k, none⟩ = some (strV (toks.getD k [])) := fun k hk => by
      rw [h2.cellAt k (by omega), List.getElem?_map, List.getElem?_eq_getElem hk, List.getD_eq_getElem?_getD, List.getElem?_eq_getElem hk]; rfl
    have HQ1 := hide hq1
    have HQ2 := hide hq2
    clear hq1 hq2 h1 h2
    generalize toks.length = n at *
    have hne : ((n : Int) != (n : Int)) = false := by simp
    go_enter Tryz.func16, Tryz.ntmps16
    go_wp2
    go_loopw [5] (fun i wr => ∃ k : Nat, k ≤ n ∧ i = .int .i64 k ∧ ∃ nq, wr = w.drewN nq) (fun i _ => n - (intOf i).toNat)
    case atStart => exact ⟨0, Nat.zero_le _, rfl, 0, rfl⟩
    case round =>
      obtain ⟨k, hk, rfl, nq, rfl⟩ := hrel
      by_cases hlt : k < n
      · have e1 := HQ1.out k hlt
        have e2 := HQ2.out k hlt
        unfold strV at e1 e2
        generalize bs (toks.getD k []) = bk at *
        have hlt2 : (k : Int) < (n : Int) := by omega
        have hbb : (bk.toList != bk.toList) = false := by simp
        go_wp2_with fail
        go_quiet (fail)
        go_wp2
        exact ⟨⟨k + 1, by omega, by go_num, _, rfl⟩, by simp [intOf]; omega⟩
      · go_wp2
        go_ret
        exact ⟨rfl, nq, rfl⟩

end Go.Proofs.YtnocnkblhjifjaaGreatDoor
