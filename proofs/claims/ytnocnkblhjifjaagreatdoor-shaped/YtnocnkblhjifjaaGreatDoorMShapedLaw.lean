import Derived.Test.YtnocnkblhjifjaaGreatDoorMSh5
import Derived.Test.YtnocnkblhjifjaaGreatDoorMSh11
import Derived.Test.YtnocnkblhjifjaaGreatDoorMPTreesP
import Derived.Test.YtnocnkblhjifjaaGreatDoorMSameZ
import Derived.Test.YtnocnkblhjifjaaGreatDoorCards
import Derived.Test.YtnocnkblhjifjaaGreatDoorTie
import Derived.ProofKit
import Derived.OpenShut
import Derived.ShutString
import Derived.ChangeOld
import Derived.ChangeSlices
import Derived.Lay
import Derived.SevenTiedAt
import Derived.Stop.Joined
/-
  The law kilnkeep.Shaped, walked by contracts: whatever the raw numbers, it returns true; of what was there nothing has turned.
-/
namespace Go.Proofs.YtnocnkblhjifjaaGreatDoor
open Go.RowKit

theorem trees_do : treesA [100, 111, 32, 49, 32, 43, 32, 50, 32, 42, 32, 51, 32, 46] = [[40, 100, 111, 32, 40, 43, 32, 49, 32, 40, 42, 32, 50, 32, 51, 41, 41, 41]] ∧ (progA [100, 111, 32, 49, 32, 43, 32, 50, 32, 42, 32, 51, 32, 46]).2 = (0, 0) := by decide +kernel

theorem below_kr {n rb : Nat} {a u u' : World} (h : Below n a u) (hk : Kr rb u u') (hn : n ≤ rb) (hu : n ≤ u.heap.size) : Below n a u' :=
  ⟨hk.os.trans h.os, hk.tape.trans h.tape, hk.output.trans h.output, Nat.le_trans h.size hk.size, fun k hkn => by
    rw [hk.block k (by omega) (by omega)]; exact h.block k hkn⟩

theorem rawAt_new {w : World} {sv : Value} {raw : List Int} (h : RawL w.heap.size sv raw w) : RawAt w.heap.size sv raw 0 (w.alloc (.cells #[sv, .int .i64 0] 33)) :=
  ⟨heap_new _ _, h.kept ((Kr.refl _ _).alloc _), Nat.zero_le _⟩

theorem RawL.below {n : Nat} {sv : Value} {raw : List Int} {w w' : World} (h : RawL n sv raw w) (hb : Below w.heap.size w w') (m : Nat) (hm : w.heap.size ≤ m) : RawL m sv raw w' := by
  refine ⟨?_, h.len, h.fit⟩
  rcases h.form with h1 | ⟨a, cap, h1, h4⟩
  · exact Or.inl h1
  · refine Or.inr ⟨a, cap, h1, fun i hi => ?_⟩
    obtain ⟨h2, h3, h5⟩ := h4 i hi
    refine ⟨Nat.lt_of_lt_of_le h2 hb.size, by omega, ?_⟩
    rw [show w'.cell? (a.add i) = w.cell? (a.add i) from cell_heap (by rw [block_add']; exact hb.block _ h2)]; exact h5

theorem fullT_bs (e : Ex) : bs (fullT e).flatten = ⟨#[108, 101, 116, 32, 120, 32, 61, 32, 40]⟩ ++ fb e ++ ⟨#[41, 32, 46]⟩ := by
  simp only [fb, lit_bs, bs_app]
  congr 1
  simp [fullT, K.let_, Ex.sp, K.eq_, K.open_, K.shut_, K.dot_]

theorem bareT_bs (e : Ex) : bs (bareT e).flatten = ⟨#[108, 101, 116, 32, 120, 61]⟩ ++ bb e ++ ⟨#[46]⟩ := by
  simp only [bb, lit_bs, bs_app]
  congr 1
  simp [bareT, K.let_, Ex.sp, K.eq_, K.dot_]

theorem wantT_bs (e : Ex) : bs (Tr.mk K.let_ [120] [e.tree]).text = ⟨#[40, 108, 101, 116, 32, 120, 32]⟩ ++ tb e ++ ⟨#[41]⟩ := by
  simp only [tb, lit_bs, bs_app]
  congr 1
  simp [Tr.text, Tr.text.texts, leafT, headT, K.let_, K.num_, K.var_, K.const_, K.named_]

set_option maxRecDepth 100000 in
set_option maxHeartbeats 8000000 in
theorem walkShaped (sv : Value) (raw : List Int) (w : World) (hrow : RawL w.heap.size sv raw w) :
    Calls Tryz.prog 4 #[sv] w fun e w' => e = .returned (.bool true) ∧ Below w.heap.size w w' := by
  have hc1 := fun wx => kilnTrees_any ⟨#[100, 111, 32, 49, 32, 43, 32, 50, 32, 42, 32, 51, 32, 46]⟩ wx (by decide)
  rw [show (ByteArray.mk #[100, 111, 32, 49, 32, 43, 32, 50, 32, 42, 32, 51, 32, 46]).data.toList = [100, 111, 32, 49, 32, 43, 32, 50, 32, 42, 32, 51, 32, 46] from rfl, trees_do.1, show (progA [100, 111, 32, 49, 32, 43, 32, 50, 32, 42, 32, 51, 32, 46]).2.1 = 0 by rw [trees_do.2], show (progA [100, 111, 32, 49, 32, 43, 32, 50, 32, 42, 32, 51, 32, 46]).2.2 = 0 by rw [trees_do.2]] at hc1
  obtain ⟨sa, sl, sc, rfl⟩ : ∃ a l c, sv = .slice a l c := by
    rcases hrow.form with ⟨h, _⟩ | ⟨a, c, h, _⟩
    · exact ⟨_, _, _, h⟩
    · exact ⟨_, _, _, h⟩
  have HC1 := hide hc1
  have HRow := hide hrow
  clear hc1 hrow
  go_enter Tryz.func4, Tryz.ntmps4
  go_wp2_with fail
  refine (HC1.out _).mono ?_; rintro e w1 ⟨v1, rfl, hown1, hbel1⟩
  go_wp2_with fail
  have hownA := hown1.alloc (.cells #[.string ⟨#[40, 100, 111, 32, 40, 43, 32, 49, 32, 40, 42, 32, 50, 32, 51, 41, 41, 41]⟩] 9)
  have hownB := World.ownsRow_lit (base := w1.heap.size) (e := 9) (size := 1) w1 #[.string ⟨#[40, 100, 111, 32, 40, 43, 32, 49, 32, 40, 42, 32, 50, 32, 51, 41, 41, 41]⟩] 1 (Nat.le_refl _) (by decide) rfl
  have hbel2 : Below w.heap.size w (w1.alloc (.cells #[.string ⟨#[40, 100, 111, 32, 40, 43, 32, 49, 32, 40, 42, 32, 50, 32, 51, 41, 41, 41]⟩] 9)) := hbel1.alloc hbel1.size _
  refine (keepSame_yes [[40, 100, 111, 32, 40, 43, 32, 49, 32, 40, 42, 32, 50, 32, 51, 41, 41, 41]] _ _ _ _ _ (by decide) hownA hownB).mono ?_; rintro e w3 ⟨rfl, nq, hw3⟩
  have hbel3 : Below w.heap.size w w3 := by rw [hw3]; exact below_drewN hbel2 nq
  clear hw3 hown1 hbel1 hownA hownB hbel2
  have hz3 : w.heap.size ≤ w3.heap.size := hbel3.size
  have HR3 := hide (rawAt_new (HRow.out.below hbel3 w3.heap.size hz3))
  have HB3 := hide hbel3
  clear hbel3 HC1
  go_wp2_with fail
  refine (made_any w3.heap.size (.slice sa sl sc) raw 5 (by decide) 0 _ HR3.out).mono ?_; rintro e w4 ⟨x, kx, rfl, ho, hx, hr, hk⟩
  have hz4 : w3.heap.size + 1 ≤ w4.heap.size := by have := hk.size; simpa using this
  have HB4 : Hid (Below w.heap.size w w4) := below_kr (HB3.out.alloc hz3 _) hk hz3 (by simp; omega)
  clear hr hk HR3 HB3
  obtain ⟨hs1, hs2, hs3, hs4⟩ := x.sizes ho hx
  have hF0 := fullT_bs x
  have hB0 := bareT_bs x
  have hT0 := wantT_bs x
  have hsh := shaped_trees x ho hx
  have hfs : (bs (fullT x).flatten).size = lenT (fullT x) := by simp [bs, ByteArray.size, lenT]
  unfold madeV
  generalize hF : fb x = F at *
  generalize hB : bb x = B at *
  generalize hT : tb x = T at *
  generalize hL : x.level = L at *
  obtain ⟨Zf1, hqZf1, HZf1, hzZf1⟩ := cat ⟨#[108, 101, 116, 32, 120, 32, 61, 32, 40]⟩ F 9 71680 (by decide) hs1 (by decide)
  obtain ⟨Zf2, hqZf2, HZf2, hzZf2⟩ := cat Zf1 ⟨#[41, 32, 46]⟩ _ 3 hzZf1 (by decide) (by decide)
  obtain ⟨Zb1, hqZb1, HZb1, hzZb1⟩ := cat ⟨#[108, 101, 116, 32, 120, 61]⟩ B 6 71680 (by decide) hs2 (by decide)
  obtain ⟨Zb2, hqZb2, HZb2, hzZb2⟩ := cat Zb1 ⟨#[46]⟩ _ 1 hzZb1 (by decide) (by decide)
  obtain ⟨Zt1, hqZt1, HZt1, hzZt1⟩ := cat ⟨#[40, 108, 101, 116, 32, 120, 32]⟩ T 7 71680 (by decide) hs3 (by decide)
  obtain ⟨Zt2, hqZt2, HZt2, hzZt2⟩ := cat Zt1 ⟨#[41]⟩ _ 1 hzZt1 (by decide) (by decide)
  rw [← HZf1.out, ← HZf2.out] at hF0
  rw [← HZb1.out, ← HZb2.out] at hB0
  rw [← HZt1.out, ← HZt2.out] at hT0
  rw [hF0] at hfs
  have hdF : Zf2.data.toList = (fullT x).flatten := by rw [← hF0, bs_data]
  have hdB : Zb2.data.toList = (bareT x).flatten := by rw [← hB0, bs_data]
  have HT0 := hide hT0
  have hc2 := fun wx => kilnTrees_any Zf2 wx (by unfold maxLen; omega)
  have hc3 := fun wx => kilnTrees_any Zb2 wx (by unfold maxLen; omega)
  rw [hdF] at hc2
  rw [hdB] at hc3
  by_cases hlen : 4000 < Zf2.size
  · have hlt : (4000 : Int) < (Zf2.size : Int) := by omega
    clear hc2 hc3 hsh hfs hdF hdB hF0 hB0 hT0 hF hB hT hL hx HZf1 HZf2 HZb1 HZb2 HZt1 HZt2
    go_wp2_with fail
    go_ret
    exact ⟨rfl, HB4.out.alloc (by omega) _⟩
  · have hlt : ¬ (4000 : Int) < (Zf2.size : Int) := by omega
    obtain ⟨⟨h1, h2⟩, h3, h4⟩ := hsh (by omega)
    rw [h1, h2] at hc2
    rw [h3, h4] at hc3
    have HC2 := hide hc2
    have HC3 := hide hc3
    clear hc2 hc3 hsh hfs hdF hdB hF0 hB0 hT0 hF hB hT hL hx HZf1 HZf2 HZb1 HZb2 HZt1 HZt2 h1 h2 h3 h4
    generalize (Tr.mk K.let_ [120] [x.tree]).text = tt at *
    go_wp2_with fail
    refine (HC2.out _).mono ?_; rintro e w5 ⟨v5, rfl, hown5, hbel5⟩
    have hz5 : w4.heap.size + 1 ≤ w5.heap.size := by have := hbel5.size; simpa using this
    obtain ⟨hc5, hf5⟩ := bcell hbel5
    have HB5 : Hid (Below w.heap.size w w5) := (HB4.out.alloc (by omega) _).trans (hbel5.mono (by simp; omega))
    have HO5 := hide hown5
    clear hown5 hbel5
    go_wp2_with fail
    refine (HC3.out _).mono ?_; rintro e w6 ⟨v6, rfl, hown6, hbel6⟩
    have hz6 : w5.heap.size ≤ w6.heap.size := hbel6.size
    have hblk : w6.cell? ⟨w4.heap.size, 2, none⟩ = some (.string T) := by
      obtain ⟨hc6, _⟩ := bcell hbel6
      rw [hc6 _ _ (by omega), hc5 _ _ (by simp)]
      exact (four (heap_new _ _)).2.2.1
    have HB6 : Hid (Below w.heap.size w w6) := HB5.out.trans (hbel6.mono (by omega))
    have HO56 := hide (ownsRow_below HO5.out hbel6)
    have HO6 := hide hown6
    clear hown6 hbel6 hc5 hf5 HO5 HC2 HC3
    go_wp2_with fail
    have hlitE : Value.string Zt2 = strV tt := by rw [← HT0.out]; rfl
    have hownA := HO56.out.alloc (.cells #[.string Zt2] 9)
    have hownB := World.ownsRow_lit (base := w6.heap.size) (e := 9) (size := 1) w6 #[.string Zt2] 1 (Nat.le_refl _) (by first | decide | (intro v hv; simp at hv; subst hv; rfl) | (unfold maxLen; decide)) rfl
    rw [show (#[Value.string Zt2]).toList = [tt].map strV by rw [hlitE]; rfl] at hownB
    refine (keepSame_yes [tt] _ _ _ _ _ (by simp) hownA hownB).mono ?_; rintro e w7 ⟨rfl, nq7, hw7⟩
    have hbel7 : Below (w6.alloc (.cells #[.string Zt2] 9)).heap.size (w6.alloc (.cells #[.string Zt2] 9)) w7 := by rw [hw7]; exact below_drewN (Below.refl _ _) _
    have HOA := hide (ownsRow_below (HO6.out.alloc (.cells #[.string Zt2] 9)) hbel7)
    have HOB := hide (ownsRow_below hownB hbel7)
    have HB7 : Hid (Below w.heap.size w w7) := (HB6.out.alloc (by omega) _).trans (hbel7.mono (by simp; omega))
    clear hw7 hbel7 hownA hownB HO56 HO6
    go_wp2_with fail
    refine (keepSame_yes [tt] _ _ _ _ _ (by simp) HOA.out HOB.out).mono ?_; rintro e w8 ⟨rfl, nq8, hw8⟩
    have HB8 : Hid (Below w.heap.size w w8) := by rw [hw8]; exact below_drewN HB7.out _
    clear hw8
    go_wp2_with fail
    go_ret
    exact ⟨rfl, HB8.out⟩

end Go.Proofs.YtnocnkblhjifjaaGreatDoor
/-
  Proved: whatever raw numbers kilnkeep.Shaped is called with, it returns true, and they read as they did; the row's list is tied to the program's text (the card). Conditions: none beyond the row's own.
-/
namespace Go.Proofs.YtnocnkblhjifjaaGreatDoor.shapedP
open Go.ChangeShapes Go.WideShapes Go.ChangeAt Go.RowKit
set_option linter.unusedVariables false

theorem cell_lt {w : World} {a : Addr} {v : Value} (h : w.cell? a = some v) : a.block < w.heap.size := by
  by_cases hl : a.block < w.heap.size
  · exact hl
  · unfold World.cell? at h
    rw [Array.getElem?_eq_none (by omega)] at h
    simp at h

theorem own : ownKnob Tryz.prog.godebug = none := by kernel_rfl
theorem laidOut : laidOutB Tryz.prog = true := by kernel_rfl
theorem cellsInt : Tryz.prog.cellsOf 3 = 1 := by kernel_rfl

theorem door_met (os : Os) (args : Array Value) : laidMetH Tryz.prog Rows.shapedRow.laid ((World.laidAll Tryz.prog os Rows.shapedRow.laid).forCall (fun _ _ => 0) ⟨#[], args, []⟩).memory := by
  rw [MakeChecks.laidMetH_plain _ _ _ (by kernel_rfl)]
  exact laidMet_laidAll _ (by kernel_rfl) (by kernel_rfl)

set_option maxRecDepth 100000 in
theorem lifted (os : Os) (started : os.Started) (H : Type) (enc : TypeId × Value → H) :
    ReturnsInHanded {} Tryz.checked os 4 .any (fun w args => (Rows.shapedSpec.pre enc Tryz.prog Tryz.f4 Rows.shapedRow.domain false w args ∧ laidMetH Tryz.prog Rows.shapedRow.laid w) ∧ sizedMet enc Tryz.prog Tryz.f4 (OpenSpec.ofChange Rows.shapedSpec) false w args)
      (Rows.shapedSpec.post enc Tryz.prog Tryz.f4 false true false false) := by
  refine returnsInHanded_of_change_and (C := Tryz.checked) (X := fun w _ => laidMetH Tryz.prog Rows.shapedRow.laid w) (fun _ _ _ hh h => h.of_heap hh) own started (by kernel_rfl) Tryz.func4
    (ChangeSpec.witness_shaped (enc := enc) (C := Tryz.checked) (os := os) (X := fun w _ => laidMetH Tryz.prog Rows.shapedRow.laid w) false (World.laidAll Tryz.prog os Rows.shapedRow.laid) #[.slice none 0 0] 8 (World.laidAll_os _ _ _)
      (World.shaped_of_ZipB (by kernel_rfl) (by kernel_rfl)) (by kernel_rfl) (by kernel_rfl) (by kernel_rfl) (door_met os _)) ?_
  intro W base args ds gs before hval0 hW hc _ hL _
  have hval : ∀ (j : Nat) t v, Tryz.f4.params[j]? = some t → args[j]? = some v → Value.okWide Tryz.prog W .any base t v := hval0
  have hW' := hW
  obtain ⟨p, q, hA0, hV, rfl, hfz, hnd⟩ := hW
  have hA : DataW.TrodAll enc Tryz.prog W 0 (fun _ => true) true Tryz.f4.params.toList args.toList ds p := hA0
  rw [Tryz.params4] at hA hval
  obtain ⟨v0, vs0, d0, ds0, p0, q0, hargs, rfl, rfl, h0, r0⟩ := trodAll_cons hA
  obtain ⟨rfl, rfl, rfl⟩ := trodAll_nil r0
  obtain rfl : args = #[v0] := by cases args; simp_all
  obtain ⟨rfl, rfl⟩ := trodVars_none hV
  obtain ⟨a0, len, cap, rfl⟩ := okWide_slice Tryz.underlying30 (hval 0 30 v0 rfl rfl)
  have h0k := h0
  obtain ⟨fu0, hf0⟩ := h0
  clear hA0 hval0
  simp only [List.append_nil] at hW'
  have hlt : ∀ x ∈ p0, x.block < W.heap.size := fun x hx => by simpa using hW'.lt x (by simpa using hx)
  obtain ⟨raw, hraw⟩ : ∃ raw, RawL W.heap.size (.slice a0 len cap) raw W := by
    rcases open_ints Tryz.underlying30 Tryz.underlying3 cellsInt hf0 with ⟨hcs, hx⟩ | ⟨a, len', cap', zs, hcs, _, hl, hm, hz, hx, hcell, hwz⟩
    · simp [Value.cells] at hcs
      obtain ⟨rfl, rfl, rfl⟩ := hcs
      exact ⟨[], Or.inl ⟨rfl, rfl⟩, Nat.zero_le _, fun c hc => by cases hc⟩
    · simp [Value.cells] at hcs
      obtain ⟨rfl, rfl, rfl⟩ := hcs
      simp only [if_true] at hz
      simp only [Prod.mk.injEq] at hx
      obtain ⟨rfl, rfl⟩ := hx
      have hzl : (zs.take len).length = len := by simp; omega
      refine ⟨zs.take len, Or.inr ⟨a, cap, by rw [hzl], fun i hi => ?_⟩, by rw [hzl]; omega, fun c hc => ?_⟩
      · rw [hzl] at hi
        have h1 := hcell i (by omega)
        have h2 : a.block < W.heap.size := by
          have := cell_lt h1
          rw [block_add'] at this; exact this
        refine ⟨h2, by omega, ?_⟩
        rw [h1]; simp [List.getD_eq_getElem?_getD, hi]
      · have := hwz c (List.mem_of_mem_take hc)
        simp only [Lit.wf, Bool.and_eq_true, decide_eq_true_eq] at this
        exact this
  refine (walkShaped _ raw W hraw).mono fun e W' ⟨he, bel⟩ => ?_
  subst he
  have ARG : DataW.Trod enc Tryz.prog W' 0 (fun x => decide (x < W.heap.size)) true 30 (.slice a0 len cap) d0 p0 :=
    WideElems.Trod_stays laidOut (by kernel_rfl) (of_decide_eq_true (by kernel_rfl)) h0k (fun x hx => bel.same (hlt x hx)) (fun x hx => by simpa using hlt x hx)
  exact ⟨_, rfl, _, _, _, [], _, [], hW', trodAll_mk1 (shut_bool Tryz.underlying4 _), trodAll_mk1 ARG, rfl, bel.frame _, fun h => by cases h⟩

theorem named : Tryz.prog.funcNamed Rows.shapedRow.func = some 4 := by kernel_rfl

set_option maxHeartbeats 40000000 in
theorem closed : joinedFacts Tryz.prog 4 Tryz.f4 Rows.shapedSpec Rows.shapedRow = true := by
  unfold joinedFacts
  simp only [Bool.and_eq_true]
  repeat' apply And.intro
  all_goals (as_aux_lemma => kernel_rfl)

theorem over : Rows.ShapedSaid :=
  OpenClaim.holds_of_wide 4 Tryz.f4 rfl rfl rfl rfl rfl rfl rfl ⟨rfl, rfl, rfl, rfl, rfl⟩ rfl rfl rfl rfl rfl named Tryz.func4 closed
    (of_decide_eq_true (by as_aux_lemma => kernel_rfl)) (by unfold Func.isWrapper; first | (rw [if_pos (by decide +kernel)]; kernel_rfl) | (rw [if_neg (by decide +kernel)]; exact ⟨rfl, rfl⟩))
    (fun os started H enc _ => lifted os started H enc)

theorem plain (f : FuncId) (fn : Func) (hf : Tryz.pinned.checked.prog.funcNamed Rows.shapedRow.func = some f) (hfn : Tryz.pinned.checked.prog.funcs[f]? = some fn) :
    true = Tryz.pinned.checked.prog.looks [] ∧ ∀ (j : Nat) t, fn.params[j]? = some t → Tryz.pinned.checked.prog.wantsStandIn t = false := by
  obtain rfl : f = 4 := Option.some.inj ((show Tryz.prog.funcNamed Rows.shapedRow.func = some 4 by kernel_rfl).symm.trans hf) |>.symm
  obtain rfl : fn = Tryz.f4 := (Option.some.inj (Tryz.func4.symm.trans hfn)).symm
  refine ⟨by as_aux_lemma => kernel_rfl, fun j t ht => ?_⟩
  rw [Tryz.params4] at ht
  obtain rfl : t = 30 := by simpa using Array.mem_of_getElem? ht
  exact (show Tryz.prog.wantsStandIn 30 = false by kernel_rfl)

end Go.Proofs.YtnocnkblhjifjaaGreatDoor.shapedP
namespace Go.Proofs.YtnocnkblhjifjaaGreatDoor

theorem shaped_holds : Rows.ShapedCardSaid :=
  Claim7.holds_tied_plain_at .later [] _ _ _ _ shapedP.over (fun _ h => by cases h) (by as_aux_lemma => kernel_rfl) (fun _ h => by cases h) shaped_row_tie rfl ⟨rfl, rfl⟩ (by as_aux_lemma => kernel_rfl) rfl shapedP.plain (by as_aux_lemma => kernel_rfl)
#print axioms shaped_holds

end Go.Proofs.YtnocnkblhjifjaaGreatDoor
