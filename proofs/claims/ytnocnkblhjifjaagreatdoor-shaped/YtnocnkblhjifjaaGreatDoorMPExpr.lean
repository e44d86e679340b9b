import Derived.Test.YtnocnkblhjifjaaGreatDoorMPBind
/-
  Expressions and declarations (package parse), over the contract of functionOf.
-/
namespace Go.Proofs.YtnocnkblhjifjaaGreatDoor
open Go.RowKit

theorem expr_prog (ts : Toks) : (Classical.choice lf).expr ts =
    bif G.isW K.let_ ts then ((Classical.choice lf).binding ts.tail).bind fun b => (G.want K.in_ b.2.2.2).bind fun r => ((Classical.choice lf).expr r).bind fun x => some (.mk b.1 b.2.1 [b.2.2.1, x.1], x.2)
    else bif G.isW K.fun_ ts then (G.kind 110 ts.tail).bind fun one => (G.want K.arrow_ (G.every 110 one.2).2).bind fun r => ((Classical.choice lf).expr r).bind fun x => some (G.curried (one.1 :: (G.every 110 one.2).1) x.1, x.2)
    else bif G.isW K.if_ ts then (Classical.choice lf).ifE ts.tail else (Classical.choice lf).seqE ts := by
  rw [(Classical.choice lf).expr_eq]
  unfold LFam.ifE LFam.seqE LFam.setE
  rw [Option.bind_assoc]

theorem str1 (w : World) (x : List UInt8) : (w.alloc (.cells #[.string (bs x)] tyStr)).ownsRow w.heap.size tyStr 1 (.slice (some ⟨w.heap.size, 0, none⟩) 1 1) [x].length ([x].map strV) :=
  World.ownsRow_lit (base := w.heap.size) (size := 1) w _ 1 (Nat.le_refl _) (by unfold maxLen; omega) rfl

/-- The reader beside a row of texts of another block that grows. -/
theorem RqT.grown {rb tb : Nat} {ts : Toks} {w w' : World} {d : Nat} (h : RqT rb tb ts w) (hg : w.grownBy w' (some d)) (h1 : rb ≠ d) (h2 : tb ≠ d) : RqT rb tb ts w' := by
  obtain ⟨o, cap, cs, e1, e2, e3⟩ := h.own
  refine ⟨h.len, h.toks, o, cap, cs, ?_, ?_, e3⟩
  · rw [hg.block rb (lt_of_heap e1) (fun e => h1 (Option.some.inj e))]; exact e1
  · rw [hg.block tb (lt_of_heap e2) (fun e => h2 (Option.some.inj e))]; exact e2

set_option maxRecDepth 100000 in
set_option maxHeartbeats 8000000 in
theorem p_expr_step {rb m : Nat} (hF : FunOf) (hX : Below_ rb m) (ts : Toks) (w : World) (hm : wt ts ≤ m) (h : Rq rb ts w) : ExprAt rb ts w := by
  unfold ExprAt
  obtain ⟨i0, hi, hz0, hz1, hz2⟩ := info_parts Tryz.infoStr
  have H1 := hide (accept_w (x := K.let_) bsK_let (by decide) h)
  have HA2 := hide (fun (ts : Toks) (w : World) (h : Rq rb ts w) => accept_w (x := K.fun_) bsK_fun (by decide) h)
  have HA3 := hide (fun (ts : Toks) (w : World) (h : Rq rb ts w) => accept_w (x := K.if_) bsK_if (by decide) h)
  have HIn := hide (fun (ts : Toks) (w : World) (h : Rq rb ts w) => expect_w (x := K.in_) bsK_in (by decide) h)
  have HAr := hide (fun (ts : Toks) (w : World) (h : Rq rb ts w) => expect_w (x := K.arrow_) bsK_arrow (by decide) h)
  have HX := hide (fun (ts : Toks) (w : World) (hm : wt ts < m) (h : Rq rb ts w) => (hX ts w hm h).1)
  have HBd := hide (fun (ts : Toks) (w : World) (hm : wt ts ≤ m) (h : Rq rb ts w) => p_binding hF (fun ts w hm h => (hX ts w hm h).1) ts w hm h)
  have HNm := hide (fun (ts : Toks) (w : World) (h : Rq rb ts w) => name_any h)
  have HNs := hide (fun (tb : Nat) (ts : Toks) (w : World) (htb : tb < w.heap.size) (h : RqT rb tb ts w) => p_namesT ts w htb h)
  have HCh := hide (fun (ts : Toks) (w : World) (hm : wt ts < m) (h : Rq rb ts w) => p_choice hX ts w hm h)
  have HSq := hide (fun (w : World) (h : Rq rb ts w) => p_sequence hX ts w hm h)
  have HF := hide hF
  have HE := hide (expr_prog ts)
  unfold ExprAt at HX
  clear hX h hF
  go_enter Tryz.func144, Tryz.ntmps144
  go_wp2_with fail
  refine (H1.out).mono ?_; rintro e w1 ⟨hk1, ⟨ho1, rfl, hr1⟩ | ⟨ho1, rfl, hr1⟩⟩
  · have HC := hide (HA2.out ts w1 hr1)
    go_wp2_with fail
    refine (HC.out).mono ?_; rintro e w2 ⟨hk2, ⟨ho2, rfl, hr2⟩ | ⟨ho2, rfl, hr2⟩⟩
    · have HC := hide (HA3.out ts w2 hr2)
      go_wp2_with fail
      refine (HC.out).mono ?_; rintro e w3 ⟨hk3, ⟨ho3, rfl, hr3⟩ | ⟨ho3, rfl, hr3⟩⟩
      · have HC := hide (HSq.out w3 hr3)
        go_wp2_with fail
        refine (HC.out).mono ?_; intro e wz ha
        have HQ := hide (AnsN.as (o' := (Classical.choice lf).expr ts) ((hk1.to hk2).to hk3) (by rw [HE.out, ho1, ho2, ho3] <;> rfl) ha)
        rcases ha.ends with rfl | ⟨v, rfl⟩
        · unfold gaveUp noForm
          clear ha
          go_wp2
          exact ⟨rfl, HQ.out⟩
        · clear ha
          go_wp2
          go_ret
          exact HQ.out
      · have hlt := wt_isW_lt ho3
        have HC := hide (HCh.out ts.tail w3 (by omega) hr3)
        go_wp2_with fail
        refine (HC.out).mono ?_; intro e wz ha
        have HQ := hide (AnsN.as (o' := (Classical.choice lf).expr ts) ((hk1.to hk2).to hk3) (by rw [HE.out, ho1, ho2, ho3] <;> rfl) ha)
        rcases ha.ends with rfl | ⟨v, rfl⟩
        · unfold gaveUp noForm
          clear ha
          go_wp2
          exact ⟨rfl, HQ.out⟩
        · clear ha
          go_wp2
          go_ret
          exact HQ.out
    · have hlt := wt_isW_lt ho2
      have hE2 : (Classical.choice lf).expr ts = (G.kind 110 ts.tail).bind fun one => (G.want K.arrow_ (G.every 110 one.2).2).bind fun r => ((Classical.choice lf).expr r).bind fun x => some (G.curried (one.1 :: (G.every 110 one.2).1) x.1, x.2) := by rw [HE.out, ho1, ho2] <;> rfl
      have HE2 := hide hE2
      have HC := hide (HNm.out ts.tail w2 hr2)
      clear hE2
      go_wp2_with fail
      refine (HC.out).mono ?_; rintro e w3 ⟨hk3, ⟨ho3, rfl⟩ | ⟨x3, r3, ho3, rfl, hr3⟩⟩
      · have HQ := hide (AnsN.no (c := 0) (o := (Classical.choice lf).expr ts) ((hk1.to hk2).to hk3) (by rw [HE2.out, ho3] <;> rfl))
        unfold gaveUp noForm
        go_wp2
        exact ⟨rfl, HQ.out⟩
      · have hw3 := wt_kindO (by decide) ho3
        have hw3 : wt ts.tail = x3.length + 20 + wt r3 := hw3
        have hw4 := every_wt 110 r3
        have hE3 : (Classical.choice lf).expr ts = (G.want K.arrow_ (G.every 110 r3).2).bind fun r => ((Classical.choice lf).expr r).bind fun x => some (G.curried (x3 :: (G.every 110 r3).1) x.1, x.2) := by rw [HE2.out, ho3] <;> rfl
        have HE3 := hide hE3
        obtain ⟨tb, htb, hT3⟩ := hr3.tb
        have hrb3 := hr3.lt
        have hTa : RqT rb tb r3 (w3.alloc (.cells #[.string (bs x3)] tyStr)) := by
          obtain ⟨o, cap, cs, e1, e2, e3⟩ := hT3.own
          exact ⟨hT3.len, hT3.toks, o, cap, cs, by rw [Below.heap_alloc _ _ _ (lt_of_heap e1)]; exact e1, by rw [Below.heap_alloc _ _ _ (lt_of_heap e2)]; exact e2, e3⟩
        have HC := hide (HNs.out tb r3 (w3.alloc (.cells #[.string (bs x3)] tyStr)) (by simp; omega) hTa)
        have hlit := str1 w3 x3
        have HK3 := hide (((hk1.to hk2).to hk3).alloc (.cells #[.string (bs x3)] tyStr))
        have HisR := hide hTa.rq.isR
        clear hE3 HE2 hTa hT3 hr3 hr2 hr1
        go_wp2_with fail
        refine (HC.out).mono ?_; rintro e w4 ⟨v4, rfl, hk4, hv4, hr4, hl4⟩
        have hlit4 := ownsRow_kept (w' := w4) hlit fun k c f _ he => kq_other (T := tyStr) (by decide) HisR.out hk4 he
        have hsz3 := ((hk1.to hk2).to hk3).size
        have hsz4 : w3.heap.size < w4.heap.size := by have := hk4.size; simp at this; omega
        have HQ4 := hide (HK3.out.to hk4)
        rcases ownsRow_forms hv4 with ⟨rfl, hn0⟩ | ⟨g, cap, rfl⟩
        · have hap : ∀ ty, (Builtin.append_ #[22, 22] ty #[.slice (some ⟨w3.heap.size, 0, none⟩) 1 1, .slice none 0 0]).run Tryz.prog w4 = .ok (.slice (some ⟨w3.heap.size, 0, none⟩) 1 1) w4 := by
            intro ty
            have := run_append_room_src (P := Tryz.prog) w4 22 22 ty tyStr i0 Tryz.underlying22 hi w3.heap.size 0 1 1 (.slice none 0 0) 0 [] (Src.ofNil w4 Tryz.underlying22 0) (by decide) (fun j hj => by simp at hj) (fun j hj => by simp at hj)
            rw [this]
            simp [World.setCells]
          have hrowA : w4.ownsRow 0 tyStr 1 (.slice (some ⟨w3.heap.size, 0, none⟩) 1 1) (x3 :: (G.every 110 r3).1).length ((x3 :: (G.every 110 r3).1).map strV) := by rw [List.length_eq_zero_iff.1 hn0]; exact ownsRow_base hlit4 (Nat.zero_le _)
          have hkA : Kq rb w w4 := HQ4.out
          have hrA : Rq rb (G.every 110 r3).2 w4 := hr4.rq
          have HD := hide (HAr.out _ w4 hrA)
          have HKA := hide hkA
          have HRA := hide hrA
          have HRow := hide hrowA
          clear hrowA hkA hrA hlit hlit4 hv4 hr4
          go_wp2_with fail
          refine (HD.out).mono ?_; rintro e w6 ⟨hk6, ⟨ho6, rfl⟩ | ⟨r6, ho6, rfl, hr6⟩⟩
          · have HQ := hide (AnsN.no (c := 0) (o := (Classical.choice lf).expr ts) (HKA.out.to hk6) (by rw [HE3.out, ho6] <;> rfl))
            unfold gaveUp noForm
            go_wp2
            exact ⟨rfl, HQ.out⟩
          · have hw6 := wt_want ho6
            have HG := hide (HX.out r6 w6 (by omega) hr6)
            have HRow6 := hide (ownsRow_kept (w' := w6) HRow.out fun k c f _ he => kq_other (T := tyStr) (by decide) HRA.out.isR hk6 he)
            go_wp2_with fail
            refine (HG.out).mono ?_; rintro e w7 ⟨hk7, ⟨ho7, rfl⟩ | ⟨t7, r7, b7, ho7, rfl, hm7, hr7⟩⟩
            · have HQ := hide (AnsN.no (c := 0) (o := (Classical.choice lf).expr ts) ((HKA.out.to hk6).to hk7) (by rw [HE3.out, ho6, Option.bind_some, ho7] <;> rfl))
              unfold gaveUp noForm
              go_wp2
              exact ⟨rfl, HQ.out⟩
            · have HRow7 := hide (ownsRow_kept (w' := w7) HRow6.out fun k c f _ he => kq_other (T := tyStr) (by decide) hr6.isR hk7 he)
              have hq7 := (HKA.out.to hk6).to hk7
              have HFn := hide (HF.out w w7 (.slice (some ⟨w3.heap.size, 0, none⟩) 1 1) (x3 :: (G.every 110 r3).1) t7 b7 hq7.size HRow7.out (by rw [List.length_cons]; omega) (hm7.since (HKA.out.to hk6)))
              have HFin := hide (show (Classical.choice lf).expr ts = some (G.curried (x3 :: (G.every 110 r3).1) t7, r7) by rw [HE3.out, ho6, Option.bind_some, ho7] <;> rfl)
              have HR7 := hide hr7
              have HQ7 := hide hq7
              clear hr6 hr7 hm7 hq7 ho7 ho6 hk7 hk6 HE3 HD HG HRow HRow6 HRow7 HRA HKA
              go_wp2_with fail
              refine (HFn.out).mono ?_; rintro e w8 ⟨b8, rfl, h8⟩
              have HQ := hide (AnsN.yes (c := 0) (o := (Classical.choice lf).expr ts) (HQ7.out.to (Kq.of_below h8.out.2)) HFin.out h8.out.1 (HR7.out.onto h8.out.2))
              clear h8 HFn HFin HR7 HQ7
              unfold ptrV at *
              go_wp2
              go_ret
              exact HQ.out
        · have hnews : ∀ j u, ((G.every 110 r3).1.map strV)[j]? = some u → w4.cell? ((⟨g, 0, none⟩ : Addr).add j) = some u := hv4.cells (g := g) rfl
          have hone : ∀ u ∈ (G.every 110 r3).1.map strV, u.oneCell' = true := by
            intro u hu
            obtain ⟨x, _, rfl⟩ := List.mem_map.1 hu
            rfl
          have hlit5 : w4.ownsRow w3.heap.size tyStr 1 (.slice (some ⟨w3.heap.size, 0, none⟩) 1 1) 1 [.string (bs x3)] := hlit4
          clear hlit hlit4
          go_wp2_with (at_builtin; refine wpList_append_own _ rfl _ _ 22 rfl w3.heap.size tyStr i0 (.string ByteArray.empty) 1 16 Tryz.underlying22 hi hz0 hz1 hz2 rfl (by decide) _ _ _ rfl hlit5 ⟨g, 0, none⟩ (G.every 110 r3).1.length cap ((G.every 110 r3).1.map strV) rfl (by simp) hnews hone (by unfold maxLen; omega) (by omega) (by omega) ?_)
          intro v5 w5 hown5 hgr5 _
          clear hnews hone hlit5 hv4
          have hrowA : w5.ownsRow 0 tyStr 1 v5 (x3 :: (G.every 110 r3).1).length ((x3 :: (G.every 110 r3).1).map strV) := by
            rw [List.length_cons, List.map_cons, Nat.add_comm]; exact ownsRow_base hown5 (Nat.zero_le _)
          have hkA : Kq rb w w5 := HQ4.out.grownOwn hgr5 (fun g hg => by have e : w3.heap.size = g := (by simpa [Value.ownBlock] using hg); omega)
          have hrA : Rq rb (G.every 110 r3).2 w5 := ((hr4.grown (d := w3.heap.size) hgr5 (by omega) (by omega))).rq
          have HD := hide (HAr.out _ w5 hrA)
          have HKA := hide hkA
          have HRA := hide hrA
          have HRow := hide hrowA
          clear hrowA hkA hrA hown5 hgr5 hr4
          go_wp2_with fail
          refine (HD.out).mono ?_; rintro e w6 ⟨hk6, ⟨ho6, rfl⟩ | ⟨r6, ho6, rfl, hr6⟩⟩
          · have HQ := hide (AnsN.no (c := 0) (o := (Classical.choice lf).expr ts) (HKA.out.to hk6) (by rw [HE3.out, ho6] <;> rfl))
            unfold gaveUp noForm
            go_wp2
            exact ⟨rfl, HQ.out⟩
          · have hw6 := wt_want ho6
            have HG := hide (HX.out r6 w6 (by omega) hr6)
            have HRow6 := hide (ownsRow_kept (w' := w6) HRow.out fun k c f _ he => kq_other (T := tyStr) (by decide) HRA.out.isR hk6 he)
            go_wp2_with fail
            refine (HG.out).mono ?_; rintro e w7 ⟨hk7, ⟨ho7, rfl⟩ | ⟨t7, r7, b7, ho7, rfl, hm7, hr7⟩⟩
            · have HQ := hide (AnsN.no (c := 0) (o := (Classical.choice lf).expr ts) ((HKA.out.to hk6).to hk7) (by rw [HE3.out, ho6, Option.bind_some, ho7] <;> rfl))
              unfold gaveUp noForm
              go_wp2
              exact ⟨rfl, HQ.out⟩
            · have HRow7 := hide (ownsRow_kept (w' := w7) HRow6.out fun k c f _ he => kq_other (T := tyStr) (by decide) hr6.isR hk7 he)
              have hq7 := (HKA.out.to hk6).to hk7
              have HFn := hide (HF.out w w7 v5 (x3 :: (G.every 110 r3).1) t7 b7 hq7.size HRow7.out (by rw [List.length_cons]; omega) (hm7.since (HKA.out.to hk6)))
              have HFin := hide (show (Classical.choice lf).expr ts = some (G.curried (x3 :: (G.every 110 r3).1) t7, r7) by rw [HE3.out, ho6, Option.bind_some, ho7] <;> rfl)
              have HR7 := hide hr7
              have HQ7 := hide hq7
              clear hr6 hr7 hm7 hq7 ho7 ho6 hk7 hk6 HE3 HD HG HRow HRow6 HRow7 HRA HKA
              go_wp2_with fail
              refine (HFn.out).mono ?_; rintro e w8 ⟨b8, rfl, h8⟩
              have HQ := hide (AnsN.yes (c := 0) (o := (Classical.choice lf).expr ts) (HQ7.out.to (Kq.of_below h8.out.2)) HFin.out h8.out.1 (HR7.out.onto h8.out.2))
              clear h8 HFn HFin HR7 HQ7
              unfold ptrV at *
              go_wp2
              go_ret
              exact HQ.out
  · have hlt := wt_isW_lt ho1
    have hE1 : (Classical.choice lf).expr ts = ((Classical.choice lf).binding ts.tail).bind fun b => (G.want K.in_ b.2.2.2).bind fun r => ((Classical.choice lf).expr r).bind fun x => some (.mk b.1 b.2.1 [b.2.2.1, x.1], x.2) := by rw [HE.out, ho1] <;> rfl
    have HE1 := hide hE1
    have HC := hide (HBd.out ts.tail w1 (by omega) hr1)
    clear hE1
    go_wp2_with fail
    refine (HC.out).mono ?_; rintro e w2 ⟨hk2, ⟨ho2, rfl⟩ | ⟨is2, x2, t2, r2, b2, k2, ho2, hi2, rfl, hm2, hr2⟩⟩
    · have HQ := hide (AnsN.no (c := 0) (o := (Classical.choice lf).expr ts) (hk1.to hk2) (by rw [HE1.out, ho2] <;> rfl))
      unfold gaveUp noForm
      go_wp2
      exact ⟨rfl, HQ.out⟩
    · have hw2 := ((Classical.choice lf).binding_w ho2).2
      have hw2 : mu t2 + (9 + x2.length) + wt r2 ≤ wt ts.tail := hw2
      have HD := hide (HIn.out r2 w2 hr2)
      go_wp2_with fail
      refine (HD.out).mono ?_; rintro e w3 ⟨hk3, ⟨ho3, rfl⟩ | ⟨r3, ho3, rfl, hr3⟩⟩
      · have HQ := hide (AnsN.no (c := 0) (o := (Classical.choice lf).expr ts) ((hk1.to hk2).to hk3) (by rw [HE1.out, ho2, Option.bind_some, ho3] <;> rfl))
        unfold gaveUp noForm
        go_wp2
        exact ⟨rfl, HQ.out⟩
      · have hw3 := wt_want ho3
        have HG := hide (HX.out r3 w3 (by omega) hr3)
        go_wp2_with fail
        refine (HG.out).mono ?_; rintro e w4 ⟨hk4, ⟨ho4, rfl⟩ | ⟨t4, r4, b4, ho4, rfl, hm4, hr4⟩⟩
        · have HQ := hide (AnsN.no (c := 0) (o := (Classical.choice lf).expr ts) (((hk1.to hk2).to hk3).to hk4) (by rw [HE1.out, ho2, Option.bind_some, ho3, Option.bind_some, ho4] <;> rfl))
          unfold gaveUp noForm
          go_wp2
          exact ⟨rfl, HQ.out⟩
        · have hkd : KindOf 0 is2 x2 k2 x2 [0, 0] := by
            rcases hi2 with ⟨rfl, rfl⟩ | ⟨rfl, rfl⟩
            · exact KindOf.let_ x2
            · exact KindOf.rec_ x2
          have HQ := hide (node2 (o := (Classical.choice lf).expr ts) hkd (((hk1.to hk2).to hk3).to hk4) (((hm2.since hk1).kq hr2 hk3).kq hr3 hk4) (hm4.since ((hk1.to hk2).to hk3)) hr4 (by rw [HE1.out, ho2, Option.bind_some, ho3, Option.bind_some, ho4] <;> rfl))
          have HN := hide (New2 w4 b2 b4 k2 (bs x2))
          clear hm2 hm4 hr2 hr3 hr4 ho2 ho3 ho4 hk1 hk2 hk3 hk4 hkd hi2 HE1
          unfold ptrV at *
          go_wp2_with fail
          refine (HN.out).mono ?_; rintro e w9 ⟨rfl, rfl⟩
          go_wp2
          go_ret
          exact HQ.out

theorem p_below {rb : Nat} (hF : FunOf) : ∀ m, Below_ rb m := by
  intro m
  induction m with
  | zero => intro ts w h _; exact absurd h (Nat.not_lt_zero _)
  | succ m ih => intro ts w h hr; exact ⟨p_expr_step hF ih ts w (by omega) hr, p_atom_step ih ts w (by omega) hr⟩

theorem p_expression {rb : Nat} (hF : FunOf) (ts : Toks) (w : World) (h : Rq rb ts w) : Calls Tryz.prog 144 #[ptrV rb] w (AnsN rb 0 w ((Classical.choice lf).expr ts)) := ((p_below hF (wt ts + 1)) ts w (by omega) h).1

end Go.Proofs.YtnocnkblhjifjaaGreatDoor
