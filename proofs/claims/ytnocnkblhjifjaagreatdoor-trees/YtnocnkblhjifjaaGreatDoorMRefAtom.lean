import Derived.Test.YtnocnkblhjifjaaGreatDoorMRefPattern
/-
  (*kilnref.Reader).atom by its contract.
-/
namespace Go.Proofs.YtnocnkblhjifjaaGreatDoor
open Go.RowKit

set_option maxHeartbeats 4000000 in
theorem atom_any (T : List (List UInt8)) (rb : Nat) (lv : Value) (e : Nat) (N : Nat) (hE : ∀ m, m < N → SaidExpr T rb lv e m) (hA : ∀ m, m < N → SaidAtom T rb lv e m) (hM : ∀ m, m < N → SaidMatch T rb lv e m) : SaidAtom T rb lv e N := by
  intro X s s' r ok w hm h hX
  cases N with
  | zero => simp [bindingP.atomP] at hm
  | succ n =>
    rw [bindingP.atomP, Option.bind_eq_some_iff] at hm
    obtain ⟨p, hp, hm⟩ := hm
    have hlt := h.lt
    have HX := hide hX
    have HP0 := hide (plain_any (r := p.1) (ok := p.2.1) (s' := p.2.2) hp h)
    have hml := h.mts_le
    have HEE := hide hE
    have HAA := hide hA
    have HMM := hide hM
    clear h hX hE hA hM
    cases hp2 : p.2.1
    · have hpe := plain_false hp hp2
      subst hpe
      rw [cond_false] at hm
      simp only at HP0
      clear hp hp2
      cases k1 : isSign T e K.open_ s
      · rw [k1, cond_false] at hm
        have hx := fun (wx : World) (q : Rd T rb lv e X (s) wx) => sign_no k1 q
        rw [bsK_open] at hx
        have HS1 := hide hx
        clear hx k1
        cases k2 : isSign T e K.bang_ s
        · rw [k2, cond_false] at hm
          have hx := fun (wx : World) (q : Rd T rb lv e X (s) wx) => sign_no k2 q
          rw [bsK_bang] at hx
          have HS2 := hide hx
          clear hx k2
          cases k3 : isSign T e K.match_ s
          · rw [k3, cond_false] at hm
            simp only [Option.some.injEq, Prod.mk.injEq] at hm
            obtain ⟨rfl, rfl, rfl⟩ := hm
            have hx := fun (wx : World) (q : Rd T rb lv e X (s) wx) => sign_no k3 q
            rw [bsK_match] at hx
            have HS3 := hide hx
            clear hx k3
            go_enter Tryz.func369, Tryz.ntmps369
            go_wp2_with fail
            refine (HP0.out).mono ?_; rintro e' w1 ⟨rfl, hR1, hL1⟩
            have HR1 := hide hR1
            clear hR1
            go_wp2_with fail
            refine (HS1.out _ HR1.out).mono ?_; rintro e' w2 ⟨rfl, hR2, hK2⟩
            have HR2 := hide hR2
            have hL2 := hL1.trans hK2
            clear hR2 hK2
            go_wp2_with fail
            refine (HS2.out _ HR2.out).mono ?_; rintro e' w3 ⟨rfl, hR3, hK3⟩
            have HR3 := hide hR3
            have hL3 := hL2.trans hK3
            clear hR3 hK3
            go_wp2_with fail
            refine (HS3.out _ HR3.out).mono ?_; rintro e' w4 ⟨rfl, hR4, hK4⟩
            have HR4 := hide hR4
            have hL4 := hL3.trans hK4
            clear hR4 hK4
            go_wp2_with fail
            go_ret2
            exact ⟨rfl, HR4.out, hL4⟩
          · rw [k3, cond_true, Option.bind_eq_some_iff] at hm
            obtain ⟨q, hq, hm⟩ := hm
            simp only [Option.some.injEq, Prod.mk.injEq] at hm
            obtain ⟨rfl, rfl, rfl⟩ := hm
            have HM := hide (fun (wx : World) (x : Rd T rb lv e X (adv s) wx) y => HMM.out n (by omega) X (adv s) q.2 q.1 wx hq (by show s.mts < s.pos + 1; omega) x y)
            clear hq
            have hx := fun (wx : World) (q : Rd T rb lv e X (s) wx) => sign_yes k3 q
            rw [bsK_match] at hx
            have HS3 := hide hx
            clear hx k3
            go_enter Tryz.func369, Tryz.ntmps369
            go_wp2_with fail
            refine (HP0.out).mono ?_; rintro e' w1 ⟨rfl, hR1, hL1⟩
            have HR1 := hide hR1
            clear hR1
            go_wp2_with fail
            refine (HS1.out _ HR1.out).mono ?_; rintro e' w2 ⟨rfl, hR2, hK2⟩
            have HR2 := hide hR2
            have hL2 := hL1.trans hK2
            clear hR2 hK2
            go_wp2_with fail
            refine (HS2.out _ HR2.out).mono ?_; rintro e' w3 ⟨rfl, hR3, hK3⟩
            have HR3 := hide hR3
            have hL3 := hL2.trans hK3
            clear hR3 hK3
            go_wp2_with fail
            refine (HS3.out _ HR3.out).mono ?_; rintro e' w4 ⟨rfl, hR4, hK4⟩
            have HR4 := hide hR4
            have hL4 := hL3.trans hK4
            clear hR4 hK4
            go_wp2_with fail
            refine (HM.out _ HR4.out (later HX.out hL4.size)).mono ?_; rintro e' w5 ⟨rfl, hR5, hK5⟩
            have HR5 := hide hR5
            have hL5 := hL4.trans hK5
            clear hR5 hK5
            go_wp2_with fail
            go_ret2
            exact ⟨rfl, HR5.out, hL5⟩
        · rw [k2, cond_true, Option.bind_eq_some_iff] at hm
          obtain ⟨a, ha, hm⟩ := hm
          rw [Option.bind_eq_some_iff] at hm
          obtain ⟨q, hq, hm⟩ := hm
          simp only [Option.some.injEq, Prod.mk.injEq] at hm
          obtain ⟨rfl, rfl, rfl⟩ := hm
          have hx := fun (wx : World) (q : Rd T rb lv e X (s) wx) => sign_yes k2 q
          rw [bsK_bang] at hx
          have HS2 := hide hx
          clear hx k2
          have HAT := hide (fun (wx : World) (x : Rd T rb lv e X (adv s) wx) y => HAA.out n (by omega) X (adv s) a.2.2 a.1 a.2.1 wx ha x y)
          cases hok : a.2.1
          · rw [hok, cond_false] at hq
            rw [hok] at HAT
            have hnb := fun (pv : Value) (wx : World) (x : Rd T rb lv e X (spoil a.2.2) wx) y z => node_any (pv := pv) (w := wx) hq x y z
            rw [bsK_bang, bsK_nil] at hnb
            have HNB := hide hnb
            clear hnb hq ha hok
            go_enter Tryz.func369, Tryz.ntmps369
            go_wp2_with fail
            refine (HP0.out).mono ?_; rintro e' w1 ⟨rfl, hR1, hL1⟩
            have HR1 := hide hR1
            clear hR1
            go_wp2_with fail
            refine (HS1.out _ HR1.out).mono ?_; rintro e' w2 ⟨rfl, hR2, hK2⟩
            have HR2 := hide hR2
            have hL2 := hL1.trans hK2
            clear hR2 hK2
            go_wp2_with fail
            refine (HS2.out _ HR2.out).mono ?_; rintro e' w3 ⟨rfl, hR3, hK3⟩
            have HR3 := hide hR3
            have hL3 := hL2.trans hK3
            clear hR3 hK3
            go_wp2_with fail
            refine (HAT.out _ HR3.out (later HX.out hL3.size)).mono ?_; rintro e' w4 ⟨rfl, hR4, hK4⟩
            have HR4 := hide hR4
            have hL4 := hL3.trans hK4
            clear hR4 hK4
            have hz4 := HR4.out.lt
            obtain ⟨c0, c1, c2, c3, c5, cf⟩ := HR4.out.cell
            have HR4' := hide HR4.out.setBad
            have hL4' := hL4.setR 3 (.bool true)
            go_wp2_with fail
            have hsz4 : w4.heap.size = (w4.setCell ⟨rb, 3, none⟩ (.bool true)).heap.size := by simp [World.setCell]
            rw [hsz4]
            refine (HNB.out _ _ (HR4'.out.alloc _) (lit1 _ a.1) (fresh HX.out hL4'.size)).mono ?_; rintro e' w5 ⟨rfl, hR5, hK5⟩
            have HR5 := hide hR5
            have hL5 := (hL4'.alloc _).trans hK5
            clear hR5 hK5 hsz4 c0 c1 c2 c3 c5 cf
            go_wp2_with fail
            go_ret2
            exact ⟨rfl, HR5.out, hL5⟩
          · rw [hok, cond_true] at hq
            rw [hok] at HAT
            have hnb := fun (pv : Value) (wx : World) (x : Rd T rb lv e X a.2.2 wx) y z => node_any (pv := pv) (w := wx) hq x y z
            rw [bsK_bang, bsK_nil] at hnb
            have HNB := hide hnb
            clear hnb hq ha hok
            go_enter Tryz.func369, Tryz.ntmps369
            go_wp2_with fail
            refine (HP0.out).mono ?_; rintro e' w1 ⟨rfl, hR1, hL1⟩
            have HR1 := hide hR1
            clear hR1
            go_wp2_with fail
            refine (HS1.out _ HR1.out).mono ?_; rintro e' w2 ⟨rfl, hR2, hK2⟩
            have HR2 := hide hR2
            have hL2 := hL1.trans hK2
            clear hR2 hK2
            go_wp2_with fail
            refine (HS2.out _ HR2.out).mono ?_; rintro e' w3 ⟨rfl, hR3, hK3⟩
            have HR3 := hide hR3
            have hL3 := hL2.trans hK3
            clear hR3 hK3
            go_wp2_with fail
            refine (HAT.out _ HR3.out (later HX.out hL3.size)).mono ?_; rintro e' w4 ⟨rfl, hR4, hK4⟩
            have HR4 := hide hR4
            have hL4 := hL3.trans hK4
            clear hR4 hK4
            go_wp2_with fail
            refine (HNB.out _ _ (HR4.out.alloc _) (lit1 w4 a.1) (fresh HX.out hL4.size)).mono ?_; rintro e' w5 ⟨rfl, hR5, hK5⟩
            have HR5 := hide hR5
            have hL5 := (hL4.alloc _).trans hK5
            clear hR5 hK5
            go_wp2_with fail
            go_ret2
            exact ⟨rfl, HR5.out, hL5⟩
      · rw [k1, cond_true] at hm
        have hx := fun (wx : World) (q : Rd T rb lv e X (s) wx) => sign_yes k1 q
        rw [bsK_open] at hx
        have HS1 := hide hx
        clear hx k1
        cases k2 : isSign T e K.shut_ (adv s)
        · rw [k2, cond_false, Option.bind_eq_some_iff] at hm
          obtain ⟨q, hq, hm⟩ := hm
          simp only [Option.some.injEq, Prod.mk.injEq] at hm
          obtain ⟨rfl, rfl, rfl⟩ := hm
          have hx := fun (wx : World) (q : Rd T rb lv e X (adv s) wx) => sign_no k2 q
          rw [bsK_shut] at hx
          have HS2 := hide hx
          clear hx k2
          have HEX := hide (fun (wx : World) (x : Rd T rb lv e X (adv s) wx) y => HEE.out n (by omega) X (adv s) q.2 q.1 wx hq x y)
          have hw := fun (wx : World) (x : Rd T rb lv e X q.2 wx) => want_any K.shut_ x
          rw [bsK_shut] at hw
          have HW := hide hw
          clear hw hq
          go_enter Tryz.func369, Tryz.ntmps369
          go_wp2_with fail
          refine (HP0.out).mono ?_; rintro e' w1 ⟨rfl, hR1, hL1⟩
          have HR1 := hide hR1
          clear hR1
          go_wp2_with fail
          refine (HS1.out _ HR1.out).mono ?_; rintro e' w2 ⟨rfl, hR2, hK2⟩
          have HR2 := hide hR2
          have hL2 := hL1.trans hK2
          clear hR2 hK2
          go_wp2_with fail
          refine (HS2.out _ HR2.out).mono ?_; rintro e' w3 ⟨rfl, hR3, hK3⟩
          have HR3 := hide hR3
          have hL3 := hL2.trans hK3
          clear hR3 hK3
          go_wp2_with fail
          refine (HEX.out _ HR3.out (later HX.out hL3.size)).mono ?_; rintro e' w4 ⟨rfl, hR4, hK4⟩
          have HR4 := hide hR4
          have hL4 := hL3.trans hK4
          clear hR4 hK4
          go_wp2_with fail
          refine (HW.out _ HR4.out).mono ?_; rintro e' w5 ⟨rfl, hR5, hK5⟩
          have HR5 := hide hR5
          have hL5 := hL4.trans hK5
          clear hR5 hK5
          go_wp2_with fail
          go_ret2
          exact ⟨rfl, HR5.out, hL5⟩
        · rw [k2, cond_true, Option.bind_eq_some_iff] at hm
          obtain ⟨q, hq, hm⟩ := hm
          simp only [Option.some.injEq, Prod.mk.injEq] at hm
          obtain ⟨rfl, rfl, rfl⟩ := hm
          have hx := fun (wx : World) (q : Rd T rb lv e X (adv s) wx) => sign_yes k2 q
          rw [bsK_shut] at hx
          have HS2 := hide hx
          clear hx k2
          have hn := fun (wx : World) (x : Rd T rb lv e X (adv (adv s)) wx) => node_nil (w := wx) hq x
          rw [bsK_const, bsK_unit] at hn
          have HN := hide hn
          clear hn hq
          go_enter Tryz.func369, Tryz.ntmps369
          go_wp2_with fail
          refine (HP0.out).mono ?_; rintro e' w1 ⟨rfl, hR1, hL1⟩
          have HR1 := hide hR1
          clear hR1
          go_wp2_with fail
          refine (HS1.out _ HR1.out).mono ?_; rintro e' w2 ⟨rfl, hR2, hK2⟩
          have HR2 := hide hR2
          have hL2 := hL1.trans hK2
          clear hR2 hK2
          go_wp2_with fail
          refine (HS2.out _ HR2.out).mono ?_; rintro e' w3 ⟨rfl, hR3, hK3⟩
          have HR3 := hide hR3
          have hL3 := hL2.trans hK3
          clear hR3 hK3
          go_wp2_with fail
          refine (HN.out _ HR3.out).mono ?_; rintro e' w4 ⟨rfl, hR4, hK4⟩
          have HR4 := hide hR4
          have hL4 := hL3.trans hK4
          clear hR4 hK4
          go_wp2_with fail
          go_ret2
          exact ⟨rfl, HR4.out, hL4⟩
    · rw [hp2, cond_true] at hm
      rw [hp2] at HP0
      obtain rfl := Option.some.inj hm
      simp only at hp2 HP0
      subst hp2
      clear hp hm
      go_enter Tryz.func369, Tryz.ntmps369
      go_wp2_with fail
      refine (HP0.out).mono ?_; rintro e' w1 ⟨rfl, hR1, hL1⟩
      have HR1 := hide hR1
      clear hR1
      go_wp2_with fail
      go_ret2
      exact ⟨rfl, HR1.out, hL1⟩

end Go.Proofs.YtnocnkblhjifjaaGreatDoor
/-
  (*kilnref.Reader).app by its contract.
-/
namespace Go.Proofs.YtnocnkblhjifjaaGreatDoor
open Go.RowKit

theorem apps_step {r : List Nat} {j : Nat} (hj : j < r.length) {f : Nat} {s : RS} {z : Nat × RS} (h : appsP (r.drop j) f s = some z) : ∃ q, nodeP K.app_ [] [f, r[j]] s = some q ∧ appsP (r.drop (j + 1)) q.1 q.2 = some z := by
  rw [List.drop_eq_getElem_cons hj] at h
  simp only [appsP, Option.bind_eq_some_iff] at h
  exact h

set_option maxHeartbeats 4000000 in
theorem app_any (T : List (List UInt8)) (rb : Nat) (lv : Value) (e : Nat) (N : Nat) (hN : N ≤ 1000000) (hA : ∀ m, m < N → SaidAtoms T rb lv e m) : SaidApp T rb lv e N := by
  intro X s s' rr w hm h hX
  cases N with
  | zero => simp [bindingP.appP] at hm
  | succ n =>
    rw [bindingP.appP] at hm
    have htl := h.t_le
    have hel := h.e_le
    have hc := see_any h
    have HX := hide hX
    have HR := hide h
    have HAA := hide hA
    clear hX hA
    cases k1 : isKind T e 99 s
    · have hk1 := isKind_eq k1
      rw [k1, cond_false, Option.bind_eq_some_iff] at hm
      obtain ⟨l, hl, hm⟩ := hm
      have HA := hide (fun (wx : World) (x : Rd T rb lv e X s wx) y => HAA.out n (by omega) X s l.2 l.1 wx hl x y)
      clear k1 h hl HAA
      generalize tokKind (see T e s) = kd at *
      generalize bs (see T e s) = tx at *
      have HC := hide hc
      clear hc
      obtain ⟨ll, l2⟩ := l
      simp only at hm HA
      cases ll with
      | nil =>
        simp only [Option.some.injEq, Prod.mk.injEq] at hm
        obtain ⟨rfl, rfl⟩ := hm
        go_enter Tryz.func267, Tryz.ntmps267
        go_wp2_with fail
        refine (HC.out).mono ?_; rintro e' w1 ⟨rfl, hb1⟩
        have HR1 := hide ((HR.out.below hb1).alloc (.cells #[.int .u8 kd, .string tx] tyToken))
        have hL1 := (Kp.of_below (rb := rb) hb1).alloc (.cells #[.int .u8 kd, .string tx] tyToken)
        clear HR hb1
        go_wp2_with fail
        refine (HA.out _ HR1.out (later HX.out hL1.size)).mono ?_; rintro e' w2 ⟨v, rfl, _, hown, hR2, hK2⟩
        have hL2 := hL1.trans hK2
        obtain ⟨c0, c1, c2, c3, c5, cf⟩ := hR2.cell
        have HR2 := hide hR2.less
        have HV := hide (ownsRow_forms hown)
        clear hR2 hK2 hown
        rcases HV.out with ⟨rfl, _⟩ | ⟨g, cap, rfl⟩
        · clear HV
          go_wp2_with fail
          go_ret
          exact ⟨rfl, HR2.out.setBad, hL2.setR _ _⟩
        · clear HV
          go_wp2_with fail
          go_ret
          exact ⟨rfl, HR2.out.setBad, hL2.setR _ _⟩
      | cons f r =>
        simp only at hm
        have hlen0 : ((r.length + 1 : Nat) : Int) ≠ 0 := by omega
        have hA0 : Hid (appsP (r.drop 0) f l2 = some (rr, s')) := hm
        clear hm
        go_enter Tryz.func267, Tryz.ntmps267
        go_wp2_with fail
        refine (HC.out).mono ?_; rintro e' w1 ⟨rfl, hb1⟩
        have HR1 := hide ((HR.out.below hb1).alloc (.cells #[.int .u8 kd, .string tx] tyToken))
        have hL1 := (Kp.of_below (rb := rb) hb1).alloc (.cells #[.int .u8 kd, .string tx] tyToken)
        clear HR hb1
        go_wp2_with fail
        refine (HA.out _ HR1.out (later HX.out hL1.size)).mono ?_; rintro e' w2 ⟨v, rfl, hln, hown, hR2, hK2⟩
        have hL2 := hL1.trans hK2
        rcases ownsRow_forms hown with ⟨_, hn0⟩ | ⟨g, cap, rfl⟩
        · simp at hn0
        rw [List.length_cons] at hln
        have hb0 : (((r.length + 1 : Nat) : Int) == 0) = false := by simp; omega
        have hcl0 : w2.cell? ⟨g, 0, none⟩ = some (.int .i64 f) := by
          rw [hown.cellAt 0 (by simp)]; rfl
        have HOWN := hide hown
        have HR2 := hide hR2.less
        clear hR2 hK2 hown HR1 hL1 HA HC
        go_wp2_with fail
        go_loopg [6, 7] r.length (fun gk fv iv wr => ∃ (j fc : Nat) (sc : RS), j + gk = r.length ∧ fv = .int .i64 fc ∧ iv = .int .i64 ((j + 1 : Nat) : Int) ∧ Kp rb w2 wr ∧ Hid (Rd T rb lv e X sc wr) ∧ Hid (appsP (r.drop j) fc sc = some (rr, s')))
        case atStart => exact ⟨0, f, l2, by omega, rfl, rfl, Kp.refl _ _, HR2, hA0⟩
        case round =>
          clear hA0 hcl0
          obtain ⟨j, fc, sc, hjg, rfl, rfl, hK, HRc, HP⟩ := hrel
          by_cases hj : j < r.length
          · obtain ⟨q, hq1, hq2⟩ := apps_step hj HP.out
            have hcl : wr.cell? ⟨g, j + 1, none⟩ = some (.int .i64 r[j]) := by
              rw [(HR2.out.keep hK HOWN.out (by decide) (by decide)).cellAt (j + 1) (by simp; omega)]
              simp [hj, intV]
            have hna := fun (pv : Value) (wx : World) (x : Rd T rb lv e X sc wx) y z => node_any (pv := pv) (w := wx) hq1 x y z
            rw [bsK_app, bsK_nil] at hna
            generalize hrj : r[j] = aj at *
            have HNA := hide hna
            have HQ2 := hide hq2
            have hLr := hL2.trans hK
            clear hna hq1 hq2 hrj
            go_wp2_with fail
            refine (HNA.out _ _ (HRc.out.alloc _) (lit2 wr fc aj) (fresh HX.out hLr.size)).mono ?_; rintro e' w3 ⟨rfl, hR3, hK3⟩
            have HR3 := hide hR3
            have hK3' := (hK.alloc (.cells #[.int .i64 fc, .int .i64 aj] tyInt)).trans hK3
            clear hR3 hK3 hcl
            go_wp2_with fail
            go_roundg (r.length - (j + 1))
            case rel => exact ⟨j + 1, q.1, q.2, by omega, rfl, by go_num, hK3', HR3, HQ2⟩
            case measure => omega
          · have hje : j = r.length := by omega
            have hfin : (fc, sc) = (rr, s') := by
              have := HP.out
              rw [List.drop_of_length_le (by omega)] at this
              exact Option.some.inj this
            simp only [Prod.mk.injEq] at hfin
            obtain ⟨rfl, rfl⟩ := hfin
            go_wp2_with fail
            go_ret
            exact ⟨rfl, HRc.out, hL2.trans hK⟩
    · have hk1 := isKind_eq k1
      rw [k1, cond_true, Option.bind_eq_some_iff] at hm
      obtain ⟨l, hl, hm⟩ := hm
      have hpos := see_pos (T := T) (e := e) (s := s) (by decide) (show tokKind (see T e s) = 99 by simpa [isKind] using k1)
      have HA := hide (fun (wx : World) (x : Rd T rb lv e X (adv s) wx) y => HAA.out n (by omega) X (adv s) l.2 l.1 wx hl x y)
      have hcn := fun (pv : Value) (wx : World) (x : Rd T rb lv e X l.2 wx) y z => node_any (pv := pv) (w := wx) hm x y z
      rw [bsK_con] at hcn
      clear k1 h hl hm HAA
      generalize tokKind (see T e s) = kd at *
      generalize bs (see T e s) = tx at *
      have HC := hide hc
      have HN := hide hcn
      clear hc hcn
      go_enter Tryz.func267, Tryz.ntmps267
      go_wp2_with fail
      refine (HC.out).mono ?_; rintro e' w1 ⟨rfl, hb1⟩
      have hR1 := HR.out.below hb1
      have hz := hR1.lt
      obtain ⟨c0, c1, c2, c3, c5, cf⟩ := hR1.cell
      have HR1 := hide (hR1.setPos hpos.1)
      clear hR1
      go_wp2_with fail
      refine (HA.out _ (HR1.out.alloc _) (later HX.out ((((Kp.of_below hb1).setR 1 (.int .i64 (s.pos + 1))).alloc _).size))).mono ?_
      rintro e' wa ⟨va, rfl, _, howna, hRa, hKa⟩
      have hKa' := (((Kp.of_below hb1).setR 1 (.int .i64 (s.pos + 1))).alloc _).trans hKa
      have htok := hKa.tok (n := w1.heap.size) (by simp [World.setCell]) (by simpa [World.setCell] using hz) (by decide) 1
      have hfr := fresh_row HX.out ((((Kp.of_below hb1).setR 1 (.int .i64 (s.pos + 1))).alloc (.cells #[.int .u8 kd, .string tx] tyToken)).size) howna
      have HFR := hide hfr
      have HRa := hide hRa.less
      have HOA := hide (ownsRow_le howna (Nat.zero_le _))
      clear hRa hKa howna hfr c0 c1 c2 c3 c5 cf HR1
      simp only [List.getElem?_toArray, List.getElem?_cons_succ, List.getElem?_cons_zero] at htok
      go_wp2_with fail
      refine (HN.out _ _ HRa.out HOA.out HFR.out).mono ?_; rintro e' w2 ⟨rfl, hR2, hK2⟩
      have HR2 := hide hR2
      have hK2' := hKa'.trans hK2
      clear hR2 htok
      go_wp2_with fail
      go_ret
      exact ⟨rfl, HR2.out, hK2'⟩

end Go.Proofs.YtnocnkblhjifjaaGreatDoor
