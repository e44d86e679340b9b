import Derived.Test.YtnocnkblhjifjaaGreatDoorMRefParse
/-
  kilnref.Trees by its contract, where the text is cut without an error.
-/
namespace Go.Proofs.YtnocnkblhjifjaaGreatDoor
open Go.RowKit

set_option maxRecDepth 100000 in
set_option maxHeartbeats 2000000 in
theorem refTrees_ok (F M : Nat) (hF : F ≤ 900000) (hM : M ≤ 10000) (txt : ByteArray) (w : World) (hs : txt.size ≤ maxLen) (hok : (cutL txt.data.toList).2.2 = 0) (R : List Nat × Nat × Nat) (s' : RS)
    (hp : parseP (cutL txt.data.toList).1 F M ⟨0, false, [], 0⟩ [] = some (R, s')) (P : Nat → Prop) (hW : Wf P s'.nodes) (hP : ∀ i ∈ R.1, P i) (hcap : s'.nodes.length ≤ 1000000)
    (hi : ∀ i ∈ R.1, i < s'.nodes.length) (hl : ∀ i ∈ R.1, (textP s'.nodes s'.nodes.length i).length ≤ 9223372036854775807) :
    Calls Tryz.prog 30 #[.string txt] w fun e' w' => ∃ v, e' = .returned (.tuple #[v, .int .i64 R.2.1, .int .i64 R.2.2]) ∧ w'.ownsRow w.heap.size tyStr 1 v R.1.length ((R.1.map (textP s'.nodes s'.nodes.length)).map strV) ∧ Below w.heap.size w w' := by
  have hc := parse_any F M hF hM txt w hs hok R s' (cutL_tok _) hp
  have hx := fun (i : Nat) (hmem : i ∈ R.1) (T : List (List UInt8)) (rb : Nat) (lv : Value) (e : Nat) (X : Nat → Prop) (wx : World) (a : Rd T rb lv e X s' wx) => text_any T rb lv e X s' P hW hcap s'.nodes.length i wx (hi i hmem) (hi i hmem) (hP i hmem) (hl i hmem) a
  obtain ⟨i0, hinf, hz0, hz1, hz2⟩ := info_parts Tryz.infoStrR
  generalize textP s'.nodes s'.nodes.length = tx at *
  obtain ⟨ll, at_, er⟩ := R
  simp only at hc hx ⊢
  have HC := hide hc
  have HXT := hide hx
  clear hc hx hp hW hP hcap hi hl hok
  generalize (cutL txt.data.toList).1 = T at *
  go_enter Tryz.func30, Tryz.ntmps30
  go_wp2_with fail
  refine (HC.out).mono ?_; rintro e' w1 ⟨rb, vl, lv, e1, X, rfl, hown0, hR1, hbel0, hlm⟩
  have HR1 := hide hR1
  have hsz0 := hbel0.size
  clear hR1
  rcases ownsRow_forms hown0 with ⟨rfl, hn0⟩ | ⟨g, cap, rfl⟩
  · have ht : ll = [] := List.length_eq_zero_iff.1 hn0
    subst ht
    clear hn0 hown0
    go_wp2_with fail
    refine wp_loop_rounds 1 ?_
    rw [rounds_succ]
    go_wp2_with fail
    go_ret3
    exact ⟨_, rfl, World.ownsRow_nil _ _ _ _, hbel0⟩
  · have hgl := (hown0.lt g rfl).2
    have HO0 := hide hown0
    clear hown0
    go_wp2_with fail
    go_loopg [9, 10] ll.length (fun gk v iv wr => ∃ k : Nat, k + gk = ll.length ∧ iv = .int .i64 k ∧ wr.ownsRow w1.heap.size tyStr 1 v (ll.take k).length (((ll.take k).map tx).map strV) ∧ Below w1.heap.size w1 wr)
    case atStart => exact ⟨0, by omega, rfl, World.ownsRow_nil _ _ _ _, Below.refl _ _⟩
    case round =>
      obtain ⟨k, hkg, rfl, hown, hbel⟩ := hrel
      by_cases hlt : k < ll.length
      · have hcell : wr.cell? ⟨g, k, none⟩ = some (.int .i64 ll[k]) := by
          rw [hbel.cell (p := ⟨g, k, none⟩) hgl, HO0.out.cellAt k (by omega)]
          simp [hlt, intV]
        have hct := fun (wx : World) (a : Rd T rb lv e1 X s' wx) => HXT.out ll[k] (List.getElem_mem hlt) T rb lv e1 X wx a
        have htk : ll.take (k + 1) = ll.take k ++ [ll[k]] := List.take_succ_eq_append_getElem hlt
        have hl1 : (ll.take k).length = k := by simp; omega
        have hV : strV (tx ll[k]) = .string (bs (tx ll[k])) := rfl
        generalize ll[k] = lk at *
        generalize hbt : bs (tx lk) = bt at *
        have HT := hide htk
        have HL := hide hl1
        have HV := hide hV
        have HCT := hide hct
        clear htk hl1 hct hV hbt
        go_wp2_with fail
        refine (HCT.out _ (HR1.out.below hbel)).mono ?_; rintro e' w2 ⟨rfl, hb2⟩
        have hown2 := ownsRow_below hown hb2
        have hbel2 : Below w1.heap.size w1 w2 := hbel.trans (hb2.mono hbel.size)
        have hsz2 := hbel2.size
        clear hown hbel hb2 hcell
        go_wp2_with (at_builtin; refine wpList_append_own _ rfl _ _ 22 rfl w1.heap.size tyStr i0 (.string ByteArray.empty) 1 16 Tryz.underlying22 hinf hz0 hz1 hz2 rfl (by decide) _ _ _ rfl (hown2.alloc _) ⟨w2.heap.size, 0, none⟩ 1 1 [.string bt] rfl rfl ?c1 ?c2 ?c3 ?c4 ?c5 ?_)
        case c1 => intro j u hj; exact cell_new rfl (by simpa using hj)
        case c2 => intro u hu; simp at hu; subst hu; rfl
        case c3 => have := HL.out; unfold maxLen; omega
        case c4 => have := HL.out; omega
        case c5 => simp; omega
        · intro v' w3 hown' hgrow _
          have hbel3 : Below w1.heap.size w1 w3 := (hbel2.alloc hbel2.size _).grown hgrow (by simp; omega) (fun g hg => (hown2.lt g hg).1)
          have hown3 : w3.ownsRow w1.heap.size tyStr 1 v' (ll.take (k + 1)).length (((ll.take (k + 1)).map tx).map strV) := by
            rw [HT.out, List.length_append, List.map_append, List.map_append, List.map_cons, List.map_cons, HV.out]; simpa using hown'
          clear hown' hgrow hown2 hbel2
          go_wp2_with fail
          go_roundg (ll.length - (k + 1))
          case rel => exact ⟨k + 1, by omega, by go_num, hown3, hbel3⟩
          case measure => omega
      · have hk2 : ll.take k = ll := List.take_of_length_le (by omega)
        rw [hk2] at hown
        go_wp2_with fail
        go_ret3
        exact ⟨_, rfl, ownsRow_le hown hsz0, hbel0.trans (hbel.mono hsz0)⟩

end Go.Proofs.YtnocnkblhjifjaaGreatDoor
/-
  kilnref.Parse and kilnref.Trees where the cut has an error.
-/
namespace Go.Proofs.YtnocnkblhjifjaaGreatDoor
open Go.RowKit

set_option maxRecDepth 100000 in
set_option maxHeartbeats 1000000 in
theorem parse_err (txt : ByteArray) (w : World) (hs : txt.size ≤ maxLen) (hne : (cutL txt.data.toList).2.2 ≠ 0) :
    Calls Tryz.prog 54 #[.string txt] w fun e' w' => ∃ rb, e' = .returned (.tuple #[.pointer (some ⟨rb, 0, none⟩), .slice none 0 0, .int .i64 (cutL txt.data.toList).2.1, .int .i64 (cutL txt.data.toList).2.2]) ∧ Below w.heap.size w w' := by
  have hc := refCut_any txt w hs
  have hb : (((cutL txt.data.toList).2.2 : Int) != 0) = true := by simp; omega
  generalize (cutL txt.data.toList).2.1 = at_ at *
  generalize (cutL txt.data.toList).2.2 = er at *
  generalize (cutL txt.data.toList).1 = T at *
  have HC := hide hc
  clear hc hne
  go_enter Tryz.func54, Tryz.ntmps54
  go_wp2_with fail
  refine (HC.out).mono ?_; rintro e' w1 ⟨lv, rfl, hownT, hbel1⟩
  have hsz1 := hbel1.size
  rcases ownsRow_forms hownT with ⟨rfl, _⟩ | ⟨gt, capt, rfl⟩
  · clear hownT
    go_wp2_with fail
    refine bodyPost_ret (v := .tuple #[.pointer (some ⟨w1.heap.size, 0, none⟩), .slice none 0 0, .int .i64 at_, .int .i64 er]) (by simp [results, Tryz.results54, go_sem]) rfl ?_
    exact ⟨_, rfl, hbel1.alloc hsz1 _⟩
  · clear hownT
    go_wp2_with fail
    refine bodyPost_ret (v := .tuple #[.pointer (some ⟨w1.heap.size, 0, none⟩), .slice none 0 0, .int .i64 at_, .int .i64 er]) (by simp [results, Tryz.results54, go_sem]) rfl ?_
    exact ⟨_, rfl, hbel1.alloc hsz1 _⟩

set_option maxRecDepth 100000 in
set_option maxHeartbeats 1000000 in
theorem refTrees_err (txt : ByteArray) (w : World) (hs : txt.size ≤ maxLen) (hne : (cutL txt.data.toList).2.2 ≠ 0) :
    Calls Tryz.prog 30 #[.string txt] w fun e' w' => ∃ v, e' = .returned (.tuple #[v, .int .i64 (cutL txt.data.toList).2.1, .int .i64 (cutL txt.data.toList).2.2]) ∧ w'.ownsRow w.heap.size tyStr 1 v 0 [] ∧ Below w.heap.size w w' := by
  have hc := parse_err txt w hs hne
  generalize (cutL txt.data.toList).2.1 = at_ at *
  generalize (cutL txt.data.toList).2.2 = er at *
  have HC := hide hc
  clear hc hne
  go_enter Tryz.func30, Tryz.ntmps30
  go_wp2_with fail
  refine (HC.out).mono ?_; rintro e' w1 ⟨rb, rfl, hbel⟩
  go_wp2_with fail
  refine wp_loop_rounds 1 ?_
  rw [rounds_succ]
  go_wp2_with fail
  go_ret3
  exact ⟨_, rfl, World.ownsRow_nil _ _ _ _, hbel⟩

end Go.Proofs.YtnocnkblhjifjaaGreatDoor
