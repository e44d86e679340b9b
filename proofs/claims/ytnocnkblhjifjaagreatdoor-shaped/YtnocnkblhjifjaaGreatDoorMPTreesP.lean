import Derived.Test.YtnocnkblhjifjaaGreatDoorMPProgram
import Derived.Test.YtnocnkblhjifjaaGreatDoorMPBack
import Derived.Test.YtnocnkblhjifjaaGreatDoorMPWord
import Derived.Test.YtnocnkblhjifjaaGreatDoorMParseP
/-
  kiln.Trees answers what the grammar says.
-/
namespace Go.Proofs.YtnocnkblhjifjaaGreatDoor
open Go.RowKit

/-- The texts that Trees is to answer. -/
def treesA (l : List UInt8) : Toks := (progA l).1.map Tr.text

theorem wt_short : ∀ {ts : Toks}, (∀ t ∈ ts, t.length ≤ 4000) → wt ts ≤ ts.length * 4020 := by
  intro ts
  induction ts with
  | nil => intro _; exact Nat.le_refl _
  | cons t r ih =>
    intro h
    have h1 := ih fun x hx => h x (List.mem_cons_of_mem _ hx)
    have h2 := h t (List.mem_cons_self ..)
    rw [wt, List.length_cons]
    omega

theorem cut_wt (l : List UInt8) : wt (cutL l).1 ≤ 16080000 := by
  have h1 := wt_short (cutL_tok l)
  have h2 := cutL_len l
  omega

theorem progF_len (F : Nat) : ∀ (n : Nat) (T : Toks) (acc : List Tr), (progF F n T acc).1.length ≤ acc.length + T.length := by
  intro n
  induction n with
  | zero => intro T acc; exact Nat.le_add_right _ _
  | succ n ih =>
    intro T acc
    rw [progF]
    split
    · exact Nat.le_add_right _ _
    · split
      · exact Nat.zero_le _
      · split
        · exact Nat.zero_le _
        · rename_i h1 h2 _ t1 _
          have := ih (T.drop (stopAt T + 1)) (acc ++ [t1])
          refine Nat.le_trans this ?_
          rw [List.length_append, List.length_drop, List.length_cons, List.length_nil]
          omega

theorem progA_len (l : List UInt8) : (progA l).1.length ≤ 4000 := by
  unfold progA
  split
  · have := progF_len (10 * (cutL l).1.length + 13) ((cutL l).1.length + 1) (cutL l).1 []
    have h2 := cutL_len l
    unfold progL
    simp only [List.length_nil, Nat.zero_add] at this
    omega
  · exact Nat.zero_le _

theorem progA_text (l : List UInt8) : ∀ t ∈ (progA l).1, t.text.length ≤ 16080000 := by
  intro t ht
  unfold progA at ht
  split at ht
  · rcases progF_w _ _ _ _ _ ht with h | h
    · cases h
    · have := cut_wt l
      unfold mu at h
      omega
  · cases ht

/-- What the loop of kiln.Trees holds at its head. -/
def KtAt (w1 : World) (ts : List Tr) (i : Nat) (v : Value) (wr : World) : Prop :=
  wr.ownsRow w1.heap.size tyStr 1 v ((ts.take i).map Tr.text).length (((ts.take i).map Tr.text).map strV) ∧ Below w1.heap.size w1 wr

set_option maxRecDepth 100000 in
set_option maxHeartbeats 8000000 in
theorem kilnTrees_any (txt : ByteArray) (w : World) (hs : txt.size ≤ maxLen) :
    Calls Tryz.prog 13 #[.string txt] w fun e w' => ∃ v, e = .returned (.tuple #[v, .int .i64 (progA txt.data.toList).2.1, .int .i64 (progA txt.data.toList).2.2]) ∧ w'.ownsRow w.heap.size tyStr 1 v (treesA txt.data.toList).length ((treesA txt.data.toList).map strV) ∧ Below w.heap.size w w' := by
  have hP := p_Program funOf_any txt w hs
  have hlen := progA_len txt.data.toList
  have htx := progA_text txt.data.toList
  unfold treesA
  generalize progA txt.data.toList = R at *
  obtain ⟨ts, at_, er⟩ := R
  simp only at hlen htx ⊢
  have HP := hide hP
  have HTX := hide htx
  have hQ : ∀ v w', w'.ownsRow w.heap.size tyStr 1 v (ts.map Tr.text).length ((ts.map Tr.text).map strV) → Below w.heap.size w w' → (fun (e : Ending) (w' : World) => ∃ v, e = .returned (.tuple #[v, .int .i64 at_, .int .i64 er]) ∧ w'.ownsRow w.heap.size tyStr 1 v (ts.map Tr.text).length ((ts.map Tr.text).map strV) ∧ Below w.heap.size w w') (.returned (.tuple #[v, .int .i64 at_, .int .i64 er])) w' := fun v w' h1 h2 => ⟨v, rfl, h1, h2⟩
  have HQ := hide hQ
  clear hP htx hQ
  generalize (fun (e : Ending) (w' : World) => ∃ v, e = .returned (.tuple #[v, .int .i64 at_, .int .i64 er]) ∧ w'.ownsRow w.heap.size tyStr 1 v (ts.map Tr.text).length ((ts.map Tr.text).map strV) ∧ Below w.heap.size w w') = Q at *
  go_enter Tryz.func13, Tryz.ntmps13
  go_wp2_with fail
  refine (HP.out).mono ?_; rintro e w1 ⟨v1, ps, rfl, hv1, hm1, hb1⟩
  have hpl : ps.length = ts.length := hm1.length.2
  have HV := hide hv1
  have HM := hide hm1
  have HB := hide hb1
  have HPL := hide hpl
  have HAt : Hid (KtAt w1 ts 0 (.slice none 0 0) w1) := ⟨World.ownsRow_nil _ _ _ _, Below.refl _ _⟩
  have hforms := ownsRow_forms hv1
  clear HP hv1 hm1 hb1
  rcases hforms with ⟨rfl, hn0⟩ | ⟨g, cap, rfl⟩
  · have hts : ts = [] := List.length_eq_zero_iff.1 (by omega)
    subst hts
    have HF := hide (HQ.out (.slice none 0 0) w1 (World.ownsRow_nil _ _ _ _) HB.out)
    clear HQ HV HM HB HAt HPL HTX hn0 hpl
    go_wp2_with fail
    refine wp_loop_rounds 1 ?_
    rw [rounds_succ]
    go_wp2_with fail
    first | exact HF.out | (go_ret3; exact HF.out)
  · have hpn4 : ps.length ≤ 4000 := by omega
    clear hpl
    generalize hpn : ps.length = pn at *
    go_wp2_with fail
    go_loopg [8, 19] pn (fun gk v8 v19 wr => ∃ i, v19 = .int .i64 (i : Nat) ∧ i + gk = pn ∧ Hid (KtAt w1 ts i v8 wr))
    case atStart => exact ⟨0, rfl, by omega, HAt⟩
    case round =>
      clear HAt
      obtain ⟨i, rfl, hi, HAT⟩ := hrel
      by_cases hlt : i < pn
      · obtain ⟨ta, ba, e1, e2, c, e3, e4⟩ := mems_at HM.out (i := i) (by omega)
        have hcell : wr.cell? ⟨g, i, none⟩ = some (.pointer (some ⟨ba, 0, none⟩)) := by
          have h6 := ownsRow_below HV.out HAT.out.2
          have := h6.cellAt i (by omega)
          rw [this, List.getElem?_map, e2]; rfl
        have hgl : g < wr.heap.size := by
          have h6 := ownsRow_below HV.out HAT.out.2
          exact (h6.lt g rfl).2
        have HS := hide (string_any wr (e4.onto HAT.out.2) (by have := HTX.out ta (List.mem_of_getElem? e1); omega))
        have htk : (ts.take (i + 1)).map Tr.text = (ts.take i).map Tr.text ++ [ta.text] := by
          have hil : i < ts.length := by have := HPL.out; omega
          rw [List.take_succ_eq_append_getElem hil, List.map_append]
          rw [List.getElem?_eq_getElem hil] at e1
          rw [Option.some.inj e1]; rfl
        have HTK := hide htk
        have hlt3 : (i : Int) < (pn : Int) := by omega
        have hil4 : ((ts.take i).map Tr.text).length ≤ 100000000 := by rw [List.length_map, List.length_take]; omega
        clear e1 e2 e3 e4 htk
        unfold ptrV at *
        go_wp2_with fail
        refine (HS.out).mono ?_; rintro e w2 ⟨rfl, hb2⟩
        have hown2 := ownsRow_below HAT.out.1 hb2
        generalize htxe : (ts.take i).map Tr.text = tx at hown2 hil4 HTK
        have hbel2 : Below w1.heap.size w1 w2 := HAT.out.2.trans (hb2.mono HAT.out.2.size)
        have hsz2 : w1.heap.size ≤ w2.heap.size := hbel2.size
        have HBEL := hide hbel2
        clear hb2 hbel2
        have HTXE := hide htxe
        clear htxe
        go_wp2_with (at_builtin; refine append_str rfl _ _ rfl ta.text hown2 hil4 hsz2 rfl rfl ?_)
        intro v4 w4 hown4 hgr HLt
        have hnext : KtAt w1 ts (i + 1) v4 w4 := by
          refine ⟨?_, (HBEL.out.alloc hsz2 _).grown hgr (by simp; omega) (fun k e => (hown2.lt k e).1)⟩
          rw [HTK.out, List.length_append, List.map_append]; exact hown4
        have hform : ∃ g' cap', v4 = .slice (some ⟨g', 0, none⟩) ((ts.take (i + 1)).map Tr.text).length cap' := by
          rcases ownsRow_forms hnext.1 with ⟨_, hn0⟩ | h
          · rw [HTK.out] at hn0; simp at hn0
          · exact h
        obtain ⟨g', cap', rfl⟩ := hform
        have HNX := hide hnext
        clear hown2 hown4 hgr HLt hnext HBEL HTK HS HAT HTXE
        go_wp2_with fail
        go_roundg (pn - (i + 1))
        case rel => exact ⟨i + 1, by simp, by omega, HNX⟩
        case measure => omega
      · have hii : i = ts.length := by have := HPL.out; omega
        have hF := HQ.out _ wr (by have := HAT.out.1; rw [hii, List.take_length] at this; exact ownsRow_base this HB.out.size) (HB.out.trans (HAT.out.2.mono HB.out.size))
        have HF := hide hF
        have hlt3 : ¬ (i : Int) < (pn : Int) := by omega
        clear hF HQ HV HM HB HAT HTX
        go_wp2_with fail
        first | exact HF.out | (go_ret3; exact HF.out)

end Go.Proofs.YtnocnkblhjifjaaGreatDoor
