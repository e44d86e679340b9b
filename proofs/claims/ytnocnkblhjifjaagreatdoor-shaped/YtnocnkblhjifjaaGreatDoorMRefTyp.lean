import Derived.Test.YtnocnkblhjifjaaGreatDoorMRefAppend
/-
  (*kilnref.Reader).typ by its contract; atypes and typ together.
-/
namespace Go.Proofs.YtnocnkblhjifjaaGreatDoor
open Go.RowKit

set_option maxHeartbeats 4000000 in
theorem typ_any (T : List (List UInt8)) (rb : Nat) (lv : Value) (e : Nat) (N : Nat) (hA : ∀ m, m < N → SaidAtypes T rb lv e m) (hT : ∀ m, m < N → SaidTyp T rb lv e m) : SaidTyp T rb lv e N := by
  intro X s s' r w hm h hX
  cases N with
  | zero => simp [atypesP.typP] at hm
  | succ n =>
    rw [atypesP.typP] at hm
    have htl := h.t_le
    have hel := h.e_le
    have hc := see_any h
    have HX := hide hX
    have HR := hide h
    clear hX
    cases k1 : isKind T e 110 s
    · have hk1 := isKind_eq k1
      cases k2 : isKind T e 108 s
      · have hk2 := isKind_eq k2
        cases k3 : isSign T e K.open_ s
        · rw [k1, k2, k3] at hm
          simp only [Bool.not_false, Bool.and_self, cond_true, Option.some.injEq, Prod.mk.injEq] at hm
          obtain ⟨rfl, rfl⟩ := hm
          have hw := fun (wx : World) (q : Rd T rb lv e X s wx) => want_any K.open_ q
          rw [bsK_open, show want T e K.open_ s = spoil s by simp [want, k3]] at hw
          clear k1 k2 k3 h
          generalize tokKind (see T e s) = kd at *
          generalize bs (see T e s) = tx at *
          have HC := hide hc
          have HW := hide hw
          clear hc hw hA hT
          go_enter Tryz.func213, Tryz.ntmps213
          go_wp2_with fail
          refine (HC.out).mono ?_; rintro e' w1 ⟨rfl, hb1⟩
          have hR1 := HR.out.below hb1
          have hz := hR1.lt
          obtain ⟨c0, c1, c2, c3, c5, cf⟩ := hR1.cell
          have HR1 := hide hR1
          clear hR1
          go_wp2_with fail
          refine (HW.out _ (HR1.out.alloc _)).mono ?_; rintro e' w2 ⟨rfl, hR2, hK2⟩
          have hKe := ((Kp.of_below hb1).alloc _).trans hK2
          have d3 : w2.cell? ⟨rb, 3, none⟩ = some (.bool true) := hR2.cell.2.2.2.1
          have HR2 := hide hR2
          clear hR2 hK2 c0 c1 c2 c3 c5 cf HR1
          go_wp2_with fail
          go_ret
          exact ⟨rfl, HR2.out, hKe⟩
        · rw [k1, k2, k3] at hm
          simp only [Bool.not_false, Bool.not_true, Bool.and_false, cond_false, Option.bind_eq_some_iff] at hm
          obtain ⟨a, ha, hm2⟩ := hm
          cases n with
          | zero => simp [atypesP.typ1P] at ha
          | succ m =>
            rw [atypesP.typ1P, k1, k2, cond_false, cond_false, Option.bind_eq_some_iff] at ha
            obtain ⟨q, hq, ha⟩ := ha
            have hae : a = (q.1, want T e K.shut_ q.2) := (Option.some.inj ha).symm
            subst hae
            have hpos := see_pos (T := T) (e := e) (s := s) (by decide) (sign_kind k3).1
            have HBAD := hide (show (adv s).bad = false from hpos.2)
            have hw := fun (wx : World) (q : Rd T rb lv e X s wx) => want_any K.open_ q
            rw [bsK_open, show want T e K.open_ s = adv s by simp [want, k3]] at hw
            rw [show want T e K.open_ s = adv s by simp [want, k3]] at hq
            have hw2 := fun (wx : World) (x : Rd T rb lv e X q.2 wx) => want_any K.shut_ x
            rw [bsK_shut] at hw2
            have HP := hide (fun (wx : World) (x : Rd T rb lv e X (adv s) wx) y => hT m (by omega) X (adv s) q.2 q.1 wx hq x y)
            clear k1 k2 k3 h hq ha
            generalize tokKind (see T e s) = kd at *
            generalize bs (see T e s) = tx at *
            generalize had : adv s = sa at *
            have HC := hide hc
            have HW := hide hw
            have HW2 := hide hw2
            clear hc hw hw2 hA had
            generalize hqw : (q.1, want T e K.shut_ q.2) = a at *
            have hq1 : q.1 = a.1 := by rw [← hqw]
            have hq2 : want T e K.shut_ q.2 = a.2 := by rw [← hqw]
            rw [hq1] at HP
            rw [hq2] at HW2
            clear hqw hq1 hq2
            cases ka : isSign T e K.arrow_ a.2
            · rw [ka, cond_false] at hm2
              obtain ⟨hr, hs⟩ : a.1 = r ∧ a.2 = s' := by
                have := Option.some.inj hm2; rw [this]; exact ⟨rfl, rfl⟩
              subst hr
              subst hs
              have hsg := fun (wx : World) (q : Rd T rb lv e X a.2 wx) => sign_any K.arrow_ q
              rw [bsK_arrow, ka, show signS T e K.arrow_ a.2 = a.2 by simp [signS, ka]] at hsg
              have HS := hide hsg
              clear hsg ka hm2
              go_enter Tryz.func213, Tryz.ntmps213
              go_wp2_with fail
              refine (HC.out).mono ?_; rintro e' w1 ⟨rfl, hb1⟩
              have hR1 := HR.out.below hb1
              have hz := hR1.lt
              obtain ⟨c0, c1, c2, c3, c5, cf⟩ := hR1.cell
              have HR1 := hide hR1
              clear hR1
              go_wp2_with fail
              refine (HW.out _ (HR1.out.alloc _)).mono ?_; rintro e' wb ⟨rfl, hRb, hKb⟩
              have hKb' := ((Kp.of_below hb1).alloc _).trans hKb
              have d3 := hRb.cell.2.2.2.1
              have HRb := hide hRb
              clear hRb hKb c0 c1 c2 c3 c5 cf HR1
              rw [HBAD.out] at d3
              go_wp2_with fail
              refine (HP.out _ HRb.out (later HX.out hKb'.size)).mono ?_; rintro e' wc ⟨rfl, hRc, hKc⟩
              have hKc' := hKb'.trans hKc
              have HRc := hide hRc
              clear hRc hKc
              go_wp2_with fail
              refine (HW2.out _ HRc.out).mono ?_; rintro e' w2 ⟨rfl, hR2, hK2⟩
              have hK2 := hKc'.trans hK2
              have HR2 := hide hR2
              clear hR2
              go_wp2_with fail
              refine (HS.out _ HR2.out).mono ?_; rintro e' w3 ⟨rfl, hR3, hK3⟩
              have HR3 := hide hR3
              have hKe := hK2.trans hK3
              clear hR3 hK3
              go_wp2_with fail
              go_ret
              exact ⟨rfl, HR3.out, hKe⟩
            · rw [ka, cond_true, Option.bind_eq_some_iff] at hm2
              obtain ⟨b, hb, hm3⟩ := hm2
              have hsg := fun (wx : World) (q : Rd T rb lv e X a.2 wx) => sign_any K.arrow_ q
              rw [bsK_arrow, ka, show signS T e K.arrow_ a.2 = adv a.2 by simp [signS, ka]] at hsg
              have HS := hide hsg
              have HCT := hide (fun (wx : World) (x : Rd T rb lv e X (adv a.2) wx) y => hT (m + 1) (by omega) X (adv a.2) b.2 b.1 wx hb x y)
              have hna := fun (pv : Value) (wx : World) (x : Rd T rb lv e X b.2 wx) y z => node_any (pv := pv) (w := wx) hm3 x y z
              rw [bsK_arrow, bsK_nil] at hna
              have HNA := hide hna
              clear hsg ka hb hm3 hna
              go_enter Tryz.func213, Tryz.ntmps213
              go_wp2_with fail
              refine (HC.out).mono ?_; rintro e' w1 ⟨rfl, hb1⟩
              have hR1 := HR.out.below hb1
              have hz := hR1.lt
              obtain ⟨c0, c1, c2, c3, c5, cf⟩ := hR1.cell
              have HR1 := hide hR1
              clear hR1
              go_wp2_with fail
              refine (HW.out _ (HR1.out.alloc _)).mono ?_; rintro e' wb ⟨rfl, hRb, hKb⟩
              have hKb' := ((Kp.of_below hb1).alloc _).trans hKb
              have d3 := hRb.cell.2.2.2.1
              have HRb := hide hRb
              clear hRb hKb c0 c1 c2 c3 c5 cf HR1
              rw [HBAD.out] at d3
              go_wp2_with fail
              refine (HP.out _ HRb.out (later HX.out hKb'.size)).mono ?_; rintro e' wc ⟨rfl, hRc, hKc⟩
              have hKc' := hKb'.trans hKc
              have HRc := hide hRc
              clear hRc hKc
              go_wp2_with fail
              refine (HW2.out _ HRc.out).mono ?_; rintro e' w2 ⟨rfl, hR2, hK2⟩
              have hK2 := hKc'.trans hK2
              have HR2 := hide hR2
              clear hR2
              go_wp2_with fail
              refine (HS.out _ HR2.out).mono ?_; rintro e' w3 ⟨rfl, hR3, hK3⟩
              have HR3 := hide hR3
              have hK3' := hK2.trans hK3
              clear hR3 hK3
              go_wp2_with fail
              refine (HCT.out _ HR3.out (later HX.out hK3'.size)).mono ?_; rintro e' w4 ⟨rfl, hR4, hK4⟩
              have HR4 := hide hR4
              have hK4' := hK3'.trans hK4
              clear hR4 hK4
              go_wp2_with fail
              refine (HNA.out _ _ (HR4.out.alloc _) (lit2 w4 a.1 b.1) (fresh HX.out hK4'.size)).mono ?_; rintro e' w5 ⟨rfl, hR5, hK5⟩
              have HR5 := hide hR5
              have hKe := (hK4'.alloc _).trans hK5
              clear hR5 hK5
              go_wp2_with fail
              go_ret
              exact ⟨rfl, HR5.out, hKe⟩
      · have hk2 := isKind_eq k2
        rw [k1, k2] at hm
        simp only [Bool.not_false, Bool.not_true, Bool.and_false, Bool.false_and, cond_false, Option.bind_eq_some_iff] at hm
        obtain ⟨a, ha, hm2⟩ := hm
        cases n with
        | zero => simp [atypesP.typ1P] at ha
        | succ m =>
          rw [atypesP.typ1P, k1, k2, cond_false, cond_true] at ha
          have hpos := see_pos (T := T) (e := e) (s := s) (by decide) (show tokKind (see T e s) = 108 by simpa [isKind] using k2)
          have hcn := fun (wx : World) (x : Rd T rb lv e X (adv s) wx) => node_any (pv := .slice none 0 0) (w := wx) ha x (World.ownsRow_nil _ _ _ _) (by simp [Value.ownBlock])
          rw [bsK_var] at hcn
          clear k1 k2 h ha
          generalize tokKind (see T e s) = kd at *
          generalize bs (see T e s) = tx at *
          have HC := hide hc
          have HN := hide hcn
          clear hc hcn hA
          cases ka : isSign T e K.arrow_ a.2
          · rw [ka, cond_false] at hm2
            obtain ⟨hr, hs⟩ : a.1 = r ∧ a.2 = s' := by
              have := Option.some.inj hm2; rw [this]; exact ⟨rfl, rfl⟩
            subst hr
            subst hs
            have hsg := fun (wx : World) (q : Rd T rb lv e X a.2 wx) => sign_any K.arrow_ q
            rw [bsK_arrow, ka, show signS T e K.arrow_ a.2 = a.2 by simp [signS, ka]] at hsg
            have HS := hide hsg
            clear hsg ka hm2
            go_enter Tryz.func213, Tryz.ntmps213
            go_wp2_with fail
            refine (HC.out).mono ?_; rintro e' w1 ⟨rfl, hb1⟩
            have hR1 := HR.out.below hb1
            have hz := hR1.lt
            obtain ⟨c0, c1, c2, c3, c5, cf⟩ := hR1.cell
            have HR1 := hide (hR1.setPos hpos.1)
            clear hR1
            go_wp2_with fail
            refine (HN.out _ (HR1.out.alloc _)).mono ?_; rintro e' w2 ⟨rfl, hR2, hK2⟩
            have hK2 := (((Kp.of_below hb1).setR _ _).alloc _).trans hK2
            have HR2 := hide hR2
            clear hR2 c0 c1 c2 c3 c5 cf HR1
            go_wp2_with fail
            refine (HS.out _ HR2.out).mono ?_; rintro e' w3 ⟨rfl, hR3, hK3⟩
            have HR3 := hide hR3
            have hKe := hK2.trans hK3
            clear hR3 hK3
            go_wp2_with fail
            go_ret
            exact ⟨rfl, HR3.out, hKe⟩
          · rw [ka, cond_true, Option.bind_eq_some_iff] at hm2
            obtain ⟨b, hb, hm3⟩ := hm2
            have hsg := fun (wx : World) (q : Rd T rb lv e X a.2 wx) => sign_any K.arrow_ q
            rw [bsK_arrow, ka, show signS T e K.arrow_ a.2 = adv a.2 by simp [signS, ka]] at hsg
            have HS := hide hsg
            have HCT := hide (fun (wx : World) (x : Rd T rb lv e X (adv a.2) wx) y => hT (m + 1) (by omega) X (adv a.2) b.2 b.1 wx hb x y)
            have hna := fun (pv : Value) (wx : World) (x : Rd T rb lv e X b.2 wx) y z => node_any (pv := pv) (w := wx) hm3 x y z
            rw [bsK_arrow, bsK_nil] at hna
            have HNA := hide hna
            clear hsg ka hb hm3 hna
            go_enter Tryz.func213, Tryz.ntmps213
            go_wp2_with fail
            refine (HC.out).mono ?_; rintro e' w1 ⟨rfl, hb1⟩
            have hR1 := HR.out.below hb1
            have hz := hR1.lt
            obtain ⟨c0, c1, c2, c3, c5, cf⟩ := hR1.cell
            have HR1 := hide (hR1.setPos hpos.1)
            clear hR1
            go_wp2_with fail
            refine (HN.out _ (HR1.out.alloc _)).mono ?_; rintro e' w2 ⟨rfl, hR2, hK2⟩
            have hK2 := (((Kp.of_below hb1).setR _ _).alloc _).trans hK2
            have HR2 := hide hR2
            clear hR2 c0 c1 c2 c3 c5 cf HR1
            go_wp2_with fail
            refine (HS.out _ HR2.out).mono ?_; rintro e' w3 ⟨rfl, hR3, hK3⟩
            have HR3 := hide hR3
            have hK3' := hK2.trans hK3
            clear hR3 hK3
            go_wp2_with fail
            refine (HCT.out _ HR3.out (later HX.out hK3'.size)).mono ?_; rintro e' w4 ⟨rfl, hR4, hK4⟩
            have HR4 := hide hR4
            have hK4' := hK3'.trans hK4
            clear hR4 hK4
            go_wp2_with fail
            refine (HNA.out _ _ (HR4.out.alloc _) (lit2 w4 a.1 b.1) (fresh HX.out hK4'.size)).mono ?_; rintro e' w5 ⟨rfl, hR5, hK5⟩
            have HR5 := hide hR5
            have hKe := (hK4'.alloc _).trans hK5
            clear hR5 hK5
            go_wp2_with fail
            go_ret
            exact ⟨rfl, HR5.out, hKe⟩
    · have hk1 := isKind_eq k1
      rw [k1] at hm
      simp only [Bool.not_true, Bool.false_and, cond_false, Option.bind_eq_some_iff] at hm
      obtain ⟨a, ha, hm2⟩ := hm
      cases n with
      | zero => simp [atypesP.typ1P] at ha
      | succ m =>
        rw [atypesP.typ1P, k1, cond_true, Option.bind_eq_some_iff] at ha
        obtain ⟨l, hl, ha⟩ := ha
        have hpos := see_pos (T := T) (e := e) (s := s) (by decide) (show tokKind (see T e s) = 110 by simpa [isKind] using k1)
        have HA := hide (fun (wx : World) (x : Rd T rb lv e X (adv s) wx) y => hA m (by omega) X (adv s) l.2 l.1 wx hl x y)
        have hcn := fun (pv : Value) (wx : World) (x : Rd T rb lv e X l.2 wx) y z => node_any (pv := pv) (w := wx) ha x y z
        rw [bsK_named] at hcn
        clear k1 h ha hl
        generalize tokKind (see T e s) = kd at *
        generalize bs (see T e s) = tx at *
        have HC := hide hc
        have HN := hide hcn
        clear hc hcn hA
        cases ka : isSign T e K.arrow_ a.2
        · rw [ka, cond_false] at hm2
          obtain ⟨hr, hs⟩ : a.1 = r ∧ a.2 = s' := by
            have := Option.some.inj hm2; rw [this]; exact ⟨rfl, rfl⟩
          subst hr
          subst hs
          have hsg := fun (wx : World) (q : Rd T rb lv e X a.2 wx) => sign_any K.arrow_ q
          rw [bsK_arrow, ka, show signS T e K.arrow_ a.2 = a.2 by simp [signS, ka]] at hsg
          have HS := hide hsg
          clear hsg ka hm2
          go_enter Tryz.func213, Tryz.ntmps213
          go_wp2_with fail
          refine (HC.out).mono ?_; rintro e' w1 ⟨rfl, hb1⟩
          have hR1 := HR.out.below hb1
          have hz := hR1.lt
          obtain ⟨c0, c1, c2, c3, c5, cf⟩ := hR1.cell
          have HR1 := hide (hR1.setPos hpos.1)
          clear hR1
          go_wp2_with fail
          refine (HA.out _ (HR1.out.alloc _) (later HX.out ((((Kp.of_below hb1).setR 1 (.int .i64 (s.pos + 1))).alloc _).size))).mono ?_
          rintro e' wa ⟨va, rfl, howna, hRa, hKa⟩
          have hKa' := (((Kp.of_below hb1).setR 1 (.int .i64 (s.pos + 1))).alloc _).trans hKa
          have htok := hKa.tok (n := w1.heap.size) (by simp [World.setCell]) (by simpa [World.setCell] using hz) (by decide) 1
          have hfr := fresh_row HX.out ((((Kp.of_below hb1).setR 1 (.int .i64 (s.pos + 1))).alloc (.cells #[.int .u8 kd, .string tx] tyToken)).size) howna
          have HFR := hide hfr
          have HRa := hide hRa.less
          have HOA := hide (ownsRow_le howna (Nat.zero_le _))
          clear hRa hKa howna hfr c0 c1 c2 c3 c5 cf HR1
          simp only [List.getElem?_toArray, List.getElem?_cons_succ, List.getElem?_cons_zero] at htok
          go_wp2_with fail
          refine (HN.out _ _ HRa.out HOA.out HFR.out).mono ?_; rintro e' w2 ⟨rfl, hR2, hK2⟩
          have HR2 := hide hR2
          have hK2 := hKa'.trans hK2
          clear hR2 htok
          go_wp2_with fail
          refine (HS.out _ HR2.out).mono ?_; rintro e' w3 ⟨rfl, hR3, hK3⟩
          have HR3 := hide hR3
          have hKe := hK2.trans hK3
          clear hR3 hK3
          go_wp2_with fail
          go_ret
          exact ⟨rfl, HR3.out, hKe⟩
        · rw [ka, cond_true, Option.bind_eq_some_iff] at hm2
          obtain ⟨b, hb, hm3⟩ := hm2
          have hsg := fun (wx : World) (q : Rd T rb lv e X a.2 wx) => sign_any K.arrow_ q
          rw [bsK_arrow, ka, show signS T e K.arrow_ a.2 = adv a.2 by simp [signS, ka]] at hsg
          have HS := hide hsg
          have HCT := hide (fun (wx : World) (x : Rd T rb lv e X (adv a.2) wx) y => hT (m + 1) (by omega) X (adv a.2) b.2 b.1 wx hb x y)
          have hna := fun (pv : Value) (wx : World) (x : Rd T rb lv e X b.2 wx) y z => node_any (pv := pv) (w := wx) hm3 x y z
          rw [bsK_arrow, bsK_nil] at hna
          have HNA := hide hna
          clear hsg ka hb hm3 hna
          go_enter Tryz.func213, Tryz.ntmps213
          go_wp2_with fail
          refine (HC.out).mono ?_; rintro e' w1 ⟨rfl, hb1⟩
          have hR1 := HR.out.below hb1
          have hz := hR1.lt
          obtain ⟨c0, c1, c2, c3, c5, cf⟩ := hR1.cell
          have HR1 := hide (hR1.setPos hpos.1)
          clear hR1
          go_wp2_with fail
          refine (HA.out _ (HR1.out.alloc _) (later HX.out ((((Kp.of_below hb1).setR 1 (.int .i64 (s.pos + 1))).alloc _).size))).mono ?_
          rintro e' wa ⟨va, rfl, howna, hRa, hKa⟩
          have hKa' := (((Kp.of_below hb1).setR 1 (.int .i64 (s.pos + 1))).alloc _).trans hKa
          have htok := hKa.tok (n := w1.heap.size) (by simp [World.setCell]) (by simpa [World.setCell] using hz) (by decide) 1
          have hfr := fresh_row HX.out ((((Kp.of_below hb1).setR 1 (.int .i64 (s.pos + 1))).alloc (.cells #[.int .u8 kd, .string tx] tyToken)).size) howna
          have HFR := hide hfr
          have HRa := hide hRa.less
          have HOA := hide (ownsRow_le howna (Nat.zero_le _))
          clear hRa hKa howna hfr c0 c1 c2 c3 c5 cf HR1
          simp only [List.getElem?_toArray, List.getElem?_cons_succ, List.getElem?_cons_zero] at htok
          go_wp2_with fail
          refine (HN.out _ _ HRa.out HOA.out HFR.out).mono ?_; rintro e' w2 ⟨rfl, hR2, hK2⟩
          have HR2 := hide hR2
          have hK2 := hKa'.trans hK2
          clear hR2 htok
          go_wp2_with fail
          refine (HS.out _ HR2.out).mono ?_; rintro e' w3 ⟨rfl, hR3, hK3⟩
          have HR3 := hide hR3
          have hK3' := hK2.trans hK3
          clear hR3 hK3
          go_wp2_with fail
          refine (HCT.out _ HR3.out (later HX.out hK3'.size)).mono ?_; rintro e' w4 ⟨rfl, hR4, hK4⟩
          have HR4 := hide hR4
          have hK4' := hK3'.trans hK4
          clear hR4 hK4
          go_wp2_with fail
          refine (HNA.out _ _ (HR4.out.alloc _) (lit2 w4 a.1 b.1) (fresh HX.out hK4'.size)).mono ?_; rintro e' w5 ⟨rfl, hR5, hK5⟩
          have HR5 := hide hR5
          have hKe := (hK4'.alloc _).trans hK5
          clear hR5 hK5
          go_wp2_with fail
          go_ret
          exact ⟨rfl, HR5.out, hKe⟩

theorem types_said (T : List (List UInt8)) (rb : Nat) (lv : Value) (e : Nat) : ∀ N, N ≤ 1000000 → SaidAtypes T rb lv e N ∧ SaidTyp T rb lv e N := by
  intro N
  induction N using Nat.strongRecOn with
  | _ N ih =>
    intro hN
    exact ⟨atypes_any T rb lv e N hN (fun m hm => (ih m hm (by omega)).2), typ_any T rb lv e N (fun m hm => (ih m hm (by omega)).1) (fun m hm => (ih m hm (by omega)).2)⟩

end Go.Proofs.YtnocnkblhjifjaaGreatDoor
