import Derived.Test.YtnocnkblhjifjaaGreatDoorMRefLevel
import Derived.Laws.AppendOwnNone
/-
  (*kilnref.Reader).expr by its contract.
-/
namespace Go.Proofs.YtnocnkblhjifjaaGreatDoor
open Go.RowKit

set_option maxRecDepth 100000 in
set_option maxHeartbeats 8000000 in
theorem expr_any (T : List (List UInt8)) (rb : Nat) (lv : Value) (e : Nat) (N : Nat) (hE : ∀ m, m < N → SaidExpr T rb lv e m) (hB : ∀ m, m < N → SaidBinding T rb lv e m) (hL : ∀ m, m < N → SaidLevel T rb lv e m) : SaidExpr T rb lv e N := by
  intro X s s' r w hm h hX
  cases N with
  | zero => simp [bindingP.exprP] at hm
  | succ n =>
    rw [bindingP.exprP] at hm
    have htl := h.t_le
    have hel := h.e_le
    obtain ⟨_, _, _, c3, _, _⟩ := h.cell
    have HX := hide hX
    have HR0 := hide h
    have HEE := hide hE
    have HBB := hide hB
    have HLL := hide hL
    clear h hX hE hB hL
    cases hbad : s.bad
    · rw [hbad] at c3
      rw [hbad, cond_false] at hm
      clear hbad
      cases k1 : isSign T e K.let_ s
      · rw [k1, cond_false] at hm
        have hy := fun (wx : World) (zq : Rd T rb lv e X (s) wx) => sign_no k1 zq
        rw [bsK_let] at hy
        have HS1 := hide hy
        clear hy k1
        cases k2 : isSign T e K.fun_ s
        · rw [k2, cond_false] at hm
          have hy := fun (wx : World) (zq : Rd T rb lv e X (s) wx) => sign_no k2 zq
          rw [bsK_fun] at hy
          have HS2 := hide hy
          clear hy k2
          cases k3 : isSign T e K.if_ s
          · rw [k3, cond_false, Option.bind_eq_some_iff] at hm
            have hy := fun (wx : World) (zq : Rd T rb lv e X (s) wx) => sign_no k3 zq
            rw [bsK_if] at hy
            have HS3 := hide hy
            clear hy k3
            obtain ⟨a, ha, hm⟩ := hm
            rw [Option.bind_eq_some_iff] at hm
            obtain ⟨q, hq, hm⟩ := hm
            have HA : Hid (∀ wx : World, Rd T rb lv e X (s) wx → (∀ g, X g → g < wx.heap.size) → Calls Tryz.prog 215 #[.pointer (some ⟨rb, 0, none⟩), .int .i64 0] wx fun e' w' => e' = .returned (.int .i64 a.1) ∧ Rd T rb lv e X a.2 w' ∧ Kp rb wx w') := fun wx zq y => HLL.out n (by omega) 0 X (s) a.2 a.1 wx (by omega) ha zq y
            cases n with
            | zero => simp [bindingP.setP] at hq
            | succ m =>
              rw [bindingP.setP] at hq
              cases k4 : isSign T e K.set_ a.2
              · rw [k4, cond_false] at hq
                have hqa : a = q := Option.some.inj hq
                subst hqa
                have hy := fun (wx : World) (zq : Rd T rb lv e X (a.2) wx) => sign_no k4 zq
                rw [bsK_set] at hy
                have HST := hide hy
                clear hy k4
                cases k5 : isSign T e K.semi_ a.2
                · rw [k5, cond_false] at hm
                  have hy := fun (wx : World) (zq : Rd T rb lv e X (a.2) wx) => sign_no k5 zq
                  rw [bsK_semi] at hy
                  have HSM := hide hy
                  clear hy k5
                  have hm' : a = (r, s') := Option.some.inj hm
                  subst hm'
                  clear hm hq ha
                  go_enter Tryz.func155, Tryz.ntmps155
                  go_wp2_with fail
                  refine (HS1.out _ HR0.out).mono ?_; rintro e' w1 ⟨rfl, hR1, hK1⟩
                  have HR1 := hide hR1
                  have hL1 := hK1
                  clear hR1 hK1
                  go_wp2_with fail
                  refine (HS2.out _ HR1.out).mono ?_; rintro e' w2 ⟨rfl, hR2, hK2⟩
                  have HR2 := hide hR2
                  have hL2 := hL1.trans hK2
                  clear hR2 hK2
                  go_wp2_with fail
                  refine (HS3.out _ HR2.out).mono ?_; rintro e' w3 ⟨rfl, hR3, hK3⟩
                  have HR3 := hide hR3
                  have hL3 := hL2.trans hK3
                  clear hR3 hK3
                  go_wp2_with fail
                  refine (HA.out _ HR3.out (later HX.out hL3.size)).mono ?_; rintro e' w4 ⟨rfl, hR4, hK4⟩
                  have HR4 := hide hR4
                  have hL4 := hL3.trans hK4
                  clear hR4 hK4
                  go_wp2_with fail
                  refine (HST.out _ HR4.out).mono ?_; rintro e' w5 ⟨rfl, hR5, hK5⟩
                  have HR5 := hide hR5
                  have hL5 := hL4.trans hK5
                  clear hR5 hK5
                  go_wp2_with fail
                  refine (HSM.out _ HR5.out).mono ?_; rintro e' w6 ⟨rfl, hR6, hK6⟩
                  have HR6 := hide hR6
                  have hL6 := hL5.trans hK6
                  clear hR6 hK6
                  go_wp2_with fail
                  go_ret
                  exact ⟨rfl, HR6.out, hL6⟩
                · rw [k5, cond_true, Option.bind_eq_some_iff] at hm
                  have hy := fun (wx : World) (zq : Rd T rb lv e X (a.2) wx) => sign_yes k5 zq
                  rw [bsK_semi] at hy
                  have HSM := hide hy
                  clear hy k5
                  obtain ⟨b, hb, hm⟩ := hm
                  have HB := hide (fun (wx : World) (zq : Rd T rb lv e X (adv a.2) wx) y => HEE.out (m + 1) (by omega) X (adv a.2) b.2 b.1 wx hb zq y)
                  have hy := fun (pv : Value) (wx : World) (zq : Rd T rb lv e X (b.2) wx) y z => node_any (pv := pv) (w := wx) hm zq y z
                  rw [bsK_seq, bsK_nil] at hy
                  have HN := hide hy
                  clear hy
                  clear hm hb hq ha
                  go_enter Tryz.func155, Tryz.ntmps155
                  go_wp2_with fail
                  refine (HS1.out _ HR0.out).mono ?_; rintro e' w1 ⟨rfl, hR1, hK1⟩
                  have HR1 := hide hR1
                  have hL1 := hK1
                  clear hR1 hK1
                  go_wp2_with fail
                  refine (HS2.out _ HR1.out).mono ?_; rintro e' w2 ⟨rfl, hR2, hK2⟩
                  have HR2 := hide hR2
                  have hL2 := hL1.trans hK2
                  clear hR2 hK2
                  go_wp2_with fail
                  refine (HS3.out _ HR2.out).mono ?_; rintro e' w3 ⟨rfl, hR3, hK3⟩
                  have HR3 := hide hR3
                  have hL3 := hL2.trans hK3
                  clear hR3 hK3
                  go_wp2_with fail
                  refine (HA.out _ HR3.out (later HX.out hL3.size)).mono ?_; rintro e' w4 ⟨rfl, hR4, hK4⟩
                  have HR4 := hide hR4
                  have hL4 := hL3.trans hK4
                  clear hR4 hK4
                  go_wp2_with fail
                  refine (HST.out _ HR4.out).mono ?_; rintro e' w5 ⟨rfl, hR5, hK5⟩
                  have HR5 := hide hR5
                  have hL5 := hL4.trans hK5
                  clear hR5 hK5
                  go_wp2_with fail
                  refine (HSM.out _ HR5.out).mono ?_; rintro e' w6 ⟨rfl, hR6, hK6⟩
                  have HR6 := hide hR6
                  have hL6 := hL5.trans hK6
                  clear hR6 hK6
                  go_wp2_with fail
                  refine (HB.out _ HR6.out (later HX.out hL6.size)).mono ?_; rintro e' w7 ⟨rfl, hR7, hK7⟩
                  have HR7 := hide hR7
                  have hL7 := hL6.trans hK7
                  clear hR7 hK7
                  go_wp2_with fail
                  refine (HN.out _ _ (HR7.out.alloc _) (lit2 w7 a.1 b.1) (fresh HX.out hL7.size)).mono ?_; rintro e' w8 ⟨rfl, hR8, hK8⟩
                  have HR8 := hide hR8
                  have hL8 := (hL7.alloc _).trans hK8
                  clear hR8 hK8
                  go_wp2_with fail
                  go_ret
                  exact ⟨rfl, HR8.out, hL8⟩
              · rw [k4, cond_true, Option.bind_eq_some_iff] at hq
                obtain ⟨c, hc, hq⟩ := hq
                have hy := fun (wx : World) (zq : Rd T rb lv e X (a.2) wx) => sign_yes k4 zq
                rw [bsK_set] at hy
                have HST := hide hy
                clear hy k4
                have HL2 : Hid (∀ wx : World, Rd T rb lv e X (adv a.2) wx → (∀ g, X g → g < wx.heap.size) → Calls Tryz.prog 215 #[.pointer (some ⟨rb, 0, none⟩), .int .i64 0] wx fun e' w' => e' = .returned (.int .i64 c.1) ∧ Rd T rb lv e X c.2 w' ∧ Kp rb wx w') := fun wx zq y => HLL.out m (by omega) 0 X (adv a.2) c.2 c.1 wx (by omega) hc zq y
                have hy := fun (pv : Value) (wx : World) (zq : Rd T rb lv e X (c.2) wx) y z => node_any (pv := pv) (w := wx) hq zq y z
                rw [bsK_setN, bsK_nil] at hy
                have HN1 := hide hy
                clear hy
                cases k5 : isSign T e K.semi_ q.2
                · rw [k5, cond_false] at hm
                  have hy := fun (wx : World) (zq : Rd T rb lv e X (q.2) wx) => sign_no k5 zq
                  rw [bsK_semi] at hy
                  have HSM := hide hy
                  clear hy k5
                  have hm' : q = (r, s') := Option.some.inj hm
                  subst hm'
                  clear hm hq ha hc
                  go_enter Tryz.func155, Tryz.ntmps155
                  go_wp2_with fail
                  refine (HS1.out _ HR0.out).mono ?_; rintro e' w1 ⟨rfl, hR1, hK1⟩
                  have HR1 := hide hR1
                  have hL1 := hK1
                  clear hR1 hK1
                  go_wp2_with fail
                  refine (HS2.out _ HR1.out).mono ?_; rintro e' w2 ⟨rfl, hR2, hK2⟩
                  have HR2 := hide hR2
                  have hL2 := hL1.trans hK2
                  clear hR2 hK2
                  go_wp2_with fail
                  refine (HS3.out _ HR2.out).mono ?_; rintro e' w3 ⟨rfl, hR3, hK3⟩
                  have HR3 := hide hR3
                  have hL3 := hL2.trans hK3
                  clear hR3 hK3
                  go_wp2_with fail
                  refine (HA.out _ HR3.out (later HX.out hL3.size)).mono ?_; rintro e' w4 ⟨rfl, hR4, hK4⟩
                  have HR4 := hide hR4
                  have hL4 := hL3.trans hK4
                  clear hR4 hK4
                  go_wp2_with fail
                  refine (HST.out _ HR4.out).mono ?_; rintro e' w5 ⟨rfl, hR5, hK5⟩
                  have HR5 := hide hR5
                  have hL5 := hL4.trans hK5
                  clear hR5 hK5
                  go_wp2_with fail
                  refine (HL2.out _ HR5.out (later HX.out hL5.size)).mono ?_; rintro e' w6 ⟨rfl, hR6, hK6⟩
                  have HR6 := hide hR6
                  have hL6 := hL5.trans hK6
                  clear hR6 hK6
                  go_wp2_with fail
                  refine (HN1.out _ _ (HR6.out.alloc _) (lit2 w6 a.1 c.1) (fresh HX.out hL6.size)).mono ?_; rintro e' w7 ⟨rfl, hR7, hK7⟩
                  have HR7 := hide hR7
                  have hL7 := (hL6.alloc _).trans hK7
                  clear hR7 hK7
                  go_wp2_with fail
                  refine (HSM.out _ HR7.out).mono ?_; rintro e' w8 ⟨rfl, hR8, hK8⟩
                  have HR8 := hide hR8
                  have hL8 := hL7.trans hK8
                  clear hR8 hK8
                  go_wp2_with fail
                  go_ret
                  exact ⟨rfl, HR8.out, hL8⟩
                · rw [k5, cond_true, Option.bind_eq_some_iff] at hm
                  have hy := fun (wx : World) (zq : Rd T rb lv e X (q.2) wx) => sign_yes k5 zq
                  rw [bsK_semi] at hy
                  have HSM := hide hy
                  clear hy k5
                  obtain ⟨b, hb, hm⟩ := hm
                  have HB := hide (fun (wx : World) (zq : Rd T rb lv e X (adv q.2) wx) y => HEE.out (m + 1) (by omega) X (adv q.2) b.2 b.1 wx hb zq y)
                  have hy := fun (pv : Value) (wx : World) (zq : Rd T rb lv e X (b.2) wx) y z => node_any (pv := pv) (w := wx) hm zq y z
                  rw [bsK_seq, bsK_nil] at hy
                  have HN := hide hy
                  clear hy
                  clear hm hb hq ha hc
                  go_enter Tryz.func155, Tryz.ntmps155
                  go_wp2_with fail
                  refine (HS1.out _ HR0.out).mono ?_; rintro e' w1 ⟨rfl, hR1, hK1⟩
                  have HR1 := hide hR1
                  have hL1 := hK1
                  clear hR1 hK1
                  go_wp2_with fail
                  refine (HS2.out _ HR1.out).mono ?_; rintro e' w2 ⟨rfl, hR2, hK2⟩
                  have HR2 := hide hR2
                  have hL2 := hL1.trans hK2
                  clear hR2 hK2
                  go_wp2_with fail
                  refine (HS3.out _ HR2.out).mono ?_; rintro e' w3 ⟨rfl, hR3, hK3⟩
                  have HR3 := hide hR3
                  have hL3 := hL2.trans hK3
                  clear hR3 hK3
                  go_wp2_with fail
                  refine (HA.out _ HR3.out (later HX.out hL3.size)).mono ?_; rintro e' w4 ⟨rfl, hR4, hK4⟩
                  have HR4 := hide hR4
                  have hL4 := hL3.trans hK4
                  clear hR4 hK4
                  go_wp2_with fail
                  refine (HST.out _ HR4.out).mono ?_; rintro e' w5 ⟨rfl, hR5, hK5⟩
                  have HR5 := hide hR5
                  have hL5 := hL4.trans hK5
                  clear hR5 hK5
                  go_wp2_with fail
                  refine (HL2.out _ HR5.out (later HX.out hL5.size)).mono ?_; rintro e' w6 ⟨rfl, hR6, hK6⟩
                  have HR6 := hide hR6
                  have hL6 := hL5.trans hK6
                  clear hR6 hK6
                  go_wp2_with fail
                  refine (HN1.out _ _ (HR6.out.alloc _) (lit2 w6 a.1 c.1) (fresh HX.out hL6.size)).mono ?_; rintro e' w7 ⟨rfl, hR7, hK7⟩
                  have HR7 := hide hR7
                  have hL7 := (hL6.alloc _).trans hK7
                  clear hR7 hK7
                  go_wp2_with fail
                  refine (HSM.out _ HR7.out).mono ?_; rintro e' w8 ⟨rfl, hR8, hK8⟩
                  have HR8 := hide hR8
                  have hL8 := hL7.trans hK8
                  clear hR8 hK8
                  go_wp2_with fail
                  refine (HB.out _ HR8.out (later HX.out hL8.size)).mono ?_; rintro e' w9 ⟨rfl, hR9, hK9⟩
                  have HR9 := hide hR9
                  have hL9 := hL8.trans hK9
                  clear hR9 hK9
                  go_wp2_with fail
                  refine (HN.out _ _ (HR9.out.alloc _) (lit2 w9 q.1 b.1) (fresh HX.out hL9.size)).mono ?_; rintro e' w10 ⟨rfl, hR10, hK10⟩
                  have HR10 := hide hR10
                  have hL10 := (hL9.alloc _).trans hK10
                  clear hR10 hK10
                  go_wp2_with fail
                  go_ret
                  exact ⟨rfl, HR10.out, hL10⟩
          · rw [k3, cond_true, Option.bind_eq_some_iff] at hm
            have hy := fun (wx : World) (zq : Rd T rb lv e X (s) wx) => sign_yes k3 zq
            rw [bsK_if] at hy
            have HS3 := hide hy
            clear hy k3
            obtain ⟨a, ha, hm⟩ := hm
            rw [Option.bind_eq_some_iff] at hm
            obtain ⟨b, hb, hm⟩ := hm
            rw [Option.bind_eq_some_iff] at hm
            obtain ⟨c, hc, hm⟩ := hm
            have HA := hide (fun (wx : World) (zq : Rd T rb lv e X (adv s) wx) y => HEE.out (n) (by omega) X (adv s) a.2 a.1 wx ha zq y)
            have hy := fun (wx : World) (zq : Rd T rb lv e X (a.2) wx) => want_any K.then_ zq
            rw [bsK_then] at hy
            have HW1 := hide hy
            clear hy
            have HB := hide (fun (wx : World) (zq : Rd T rb lv e X (want T e K.then_ a.2) wx) y => HEE.out (n) (by omega) X (want T e K.then_ a.2) b.2 b.1 wx hb zq y)
            have hy := fun (wx : World) (zq : Rd T rb lv e X (b.2) wx) => want_any K.else_ zq
            rw [bsK_else] at hy
            have HW2 := hide hy
            clear hy
            have HC := hide (fun (wx : World) (zq : Rd T rb lv e X (want T e K.else_ b.2) wx) y => HEE.out (n) (by omega) X (want T e K.else_ b.2) c.2 c.1 wx hc zq y)
            have hy := fun (pv : Value) (wx : World) (zq : Rd T rb lv e X (c.2) wx) y z => node_any (pv := pv) (w := wx) hm zq y z
            rw [bsK_if, bsK_nil] at hy
            have HN := hide hy
            clear hy
            clear hm ha hb hc
            go_enter Tryz.func155, Tryz.ntmps155
            go_wp2_with fail
            refine (HS1.out _ HR0.out).mono ?_; rintro e' w1 ⟨rfl, hR1, hK1⟩
            have HR1 := hide hR1
            have hL1 := hK1
            clear hR1 hK1
            go_wp2_with fail
            refine (HS2.out _ HR1.out).mono ?_; rintro e' w2 ⟨rfl, hR2, hK2⟩
            have HR2 := hide hR2
            have hL2 := hL1.trans hK2
            clear hR2 hK2
            go_wp2_with fail
            refine (HS3.out _ HR2.out).mono ?_; rintro e' w3 ⟨rfl, hR3, hK3⟩
            have HR3 := hide hR3
            have hL3 := hL2.trans hK3
            clear hR3 hK3
            go_wp2_with fail
            refine (HA.out _ HR3.out (later HX.out hL3.size)).mono ?_; rintro e' w4 ⟨rfl, hR4, hK4⟩
            have HR4 := hide hR4
            have hL4 := hL3.trans hK4
            clear hR4 hK4
            go_wp2_with fail
            refine (HW1.out _ HR4.out).mono ?_; rintro e' w5 ⟨rfl, hR5, hK5⟩
            have HR5 := hide hR5
            have hL5 := hL4.trans hK5
            clear hR5 hK5
            go_wp2_with fail
            refine (HB.out _ HR5.out (later HX.out hL5.size)).mono ?_; rintro e' w6 ⟨rfl, hR6, hK6⟩
            have HR6 := hide hR6
            have hL6 := hL5.trans hK6
            clear hR6 hK6
            go_wp2_with fail
            refine (HW2.out _ HR6.out).mono ?_; rintro e' w7 ⟨rfl, hR7, hK7⟩
            have HR7 := hide hR7
            have hL7 := hL6.trans hK7
            clear hR7 hK7
            go_wp2_with fail
            refine (HC.out _ HR7.out (later HX.out hL7.size)).mono ?_; rintro e' w8 ⟨rfl, hR8, hK8⟩
            have HR8 := hide hR8
            have hL8 := hL7.trans hK8
            clear hR8 hK8
            go_wp2_with fail
            refine (HN.out _ _ (HR8.out.alloc _) (lit3 w8 a.1 b.1 c.1) (fresh HX.out hL8.size)).mono ?_; rintro e' w9 ⟨rfl, hR9, hK9⟩
            have HR9 := hide hR9
            have hL9 := (hL8.alloc _).trans hK9
            clear hR9 hK9
            go_wp2_with fail
            go_ret
            exact ⟨rfl, HR9.out, hL9⟩
        · rw [k2, cond_true] at hm
          simp only [Option.bind_eq_some_iff] at hm
          obtain ⟨x, hx, hm⟩ := hm
          obtain ⟨i0, hi, hz0, hz1, hz2⟩ := info_parts Tryz.infoStrR
          have HKD := hide (fun (wx : World) (q : Rd T rb lv e X (adv s) wx) => kind_any 110 (by decide) q)
          have HEV := hide (fun (wx : World) (q : Rd T rb lv e X (kindS T e 110 (adv s)) wx) => every_any 110 (by decide) q)
          have hlen := every_len T e 110 (kindS T e 110 (adv s))
          have HCU := hide (fun (b0 : Nat) (nv : Value) (wx : World) (q : Rd T rb lv e X x.2 wx) y z => curried_any (b0 := b0) (nv := nv) (w := wx) hm (by simp; omega) q y z)
          have hw := fun (wx : World) (q : Rd T rb lv e X (everyP T e 110 (kindS T e 110 (adv s))).2 wx) => want_any K.arrow_ q
          rw [bsK_arrow] at hw
          have HW := hide hw
          have HEX := hide (fun (wx : World) (q : Rd T rb lv e X (want T e K.arrow_ (everyP T e 110 (kindS T e 110 (adv s))).2) wx) y => HEE.out n (by omega) X _ x.2 x.1 wx hx q y)
          have hV : strV (kindT T e 110 (adv s)) = .string (bs (kindT T e 110 (adv s))) := rfl
          clear hw hx hm
          have hy := fun (wx : World) (zq : Rd T rb lv e X (s) wx) => sign_yes k2 zq
          rw [bsK_fun] at hy
          have HS2 := hide hy
          clear hy k2
          generalize kindT T e 110 (adv s) = one at *
          generalize bs one = b1 at *
          have HV := hide hV
          clear hV
          generalize (everyP T e 110 (kindS T e 110 (adv s))).1 = more at *
          generalize (everyP T e 110 (kindS T e 110 (adv s))).2 = sv at *
          generalize kindS T e 110 (adv s) = sk at *
          generalize want T e K.arrow_ sv = sw at *
          go_enter Tryz.func155, Tryz.ntmps155
          go_wp2_with fail
          refine (HS1.out _ HR0.out).mono ?_; rintro e' w1 ⟨rfl, hR1, hK1⟩
          have HR1 := hide hR1
          have hL1 := hK1
          clear hR1 hK1
          go_wp2_with fail
          refine (HS2.out _ HR1.out).mono ?_; rintro e' w2 ⟨rfl, hR2, hK2⟩
          have HR2 := hide hR2
          have hL2 := hL1.trans hK2
          clear hR2 hK2
          go_wp2_with fail
          refine (HKD.out _ HR2.out).mono ?_; rintro e' w3 ⟨rfl, hR3, hK3⟩
          have HR3 := hide hR3
          have hL3 := hL2.trans hK3
          clear hR3 hK3
          go_wp2_with fail
          refine (HEV.out _ HR3.out).mono ?_; rintro e' w4 ⟨v, rfl, hown, hR4, hK4⟩
          have HR4 := hide hR4
          have hL4 := hL3.trans hK4
          clear hR4 hK4
          go_wp2_with fail
          refine (HW.out _ HR4.out).mono ?_; rintro e' w5 ⟨rfl, hR5, hK5⟩
          have hown5 := HR4.out.keep hK5 hown (by decide) (by decide)
          have HR5 := hide hR5
          have hL5 := hL4.trans hK5
          clear hR5 hK5 hown
          go_wp2_with fail
          refine (HEX.out _ HR5.out (later HX.out hL5.size)).mono ?_; rintro e' w6 ⟨rfl, hR6, hK6⟩
          have hown6 := HR5.out.keep hK6 hown5 (by decide) (by decide)
          have HR6 := hide hR6
          have hL6 := hL5.trans hK6
          have hsz6 := hL6.size
          clear hR6 hK6 hown5
          have hone : (w6.alloc (.cells #[.string b1] tyStr)).ownsRow w6.heap.size tyStr 1 (.slice (some ⟨w6.heap.size, 0, none⟩) 1 1) 1 [.string b1] := World.ownsRow_lit (base := w6.heap.size) (size := 1) w6 _ 1 (Nat.le_refl _) (by unfold maxLen; omega) rfl
          rcases ownsRow_forms hown6 with ⟨rfl, hml⟩ | ⟨g, cap, rfl⟩
          · have hmn : more = [] := List.length_eq_zero_iff.1 hml
            have HO := hide (show (w6.alloc (.cells #[.string b1] tyStr)).ownsRow w6.heap.size tyStr 1 (.slice (some ⟨w6.heap.size, 0, none⟩) 1 1) (one :: more).length ((one :: more).map strV) by rw [hmn, List.map_cons, HV.out]; exact hone)
            clear hmn hml
            go_wp2_with (at_builtin; refine wpList_append_own_none rfl _ _ 22 rfl w6.heap.size tyStr i0 1 Tryz.underlying22 hi _ _ _ rfl hone rfl ?_)
            clear hown6 hone
            go_wp2_with fail
            refine (HCU.out _ _ _ (HR6.out.alloc _) (later HX.out (Nat.le_trans hsz6 (by simp))) HO.out).mono ?_; rintro e' w7 ⟨rfl, hR7, hK7⟩
            have HR7 := hide hR7
            have hL7 := (hL6.alloc _).trans hK7
            clear hR7 hK7
            go_wp2_with fail
            go_ret
            exact ⟨rfl, HR7.out, hL7⟩
          · have hcells := (hown6.alloc (.cells #[.string b1] tyStr)).cells (g := g) rfl
            have HCL := hide hcells
            clear hcells
            go_wp2_with (at_builtin; refine wpList_append_own _ rfl _ _ 22 rfl w6.heap.size tyStr i0 (.string ByteArray.empty) 1 16 Tryz.underlying22 hi hz0 hz1 hz2 rfl (by decide) _ _ _ rfl hone ⟨g, 0, none⟩ more.length cap (more.map strV) rfl ?c0 ?c1 ?c2 ?c3 ?c4 ?c5 ?_)
            case c0 => simp
            case c1 => exact HCL.out
            case c2 => intro u hu; simp at hu; obtain ⟨t, _, rfl⟩ := hu; rfl
            case c3 => unfold maxLen; omega
            case c4 => omega
            case c5 => simp
            · intro v' w7 hown' hgrow _
              have HO := hide (show w7.ownsRow w6.heap.size tyStr 1 v' (one :: more).length ((one :: more).map strV) by rw [List.length_cons, Nat.add_comm, List.map_cons, HV.out]; exact hown')
              have HR7 := hide ((HR6.out.alloc _).grownRow hgrow hone (by decide) (by decide) (by decide) (fun h => absurd h (by decide)))
              have hL7 := (hL6.alloc _).grownOwn hgrow (fun k hk => by simp [Value.ownBlock] at hk; omega)
              clear hown' hgrow hown6 hone HCL
              go_wp2_with fail
              refine (HCU.out _ _ _ HR7.out (later HX.out hL7.size) HO.out).mono ?_; rintro e' w8 ⟨rfl, hR8, hK8⟩
              have HR8 := hide hR8
              have hL8 := hL7.trans hK8
              clear hR8 hK8
              go_wp2_with fail
              go_ret
              exact ⟨rfl, HR8.out, hL8⟩
      · rw [k1, cond_true, Option.bind_eq_some_iff] at hm
        have hy := fun (wx : World) (zq : Rd T rb lv e X (s) wx) => sign_yes k1 zq
        rw [bsK_let] at hy
        have HS1 := hide hy
        clear hy k1
        obtain ⟨b, hb, hm⟩ := hm
        rw [Option.bind_eq_some_iff] at hm
        obtain ⟨x, hx, hm⟩ := hm
        have HB := hide (fun (wx : World) (q : Rd T rb lv e X (adv s) wx) y => HBB.out n (by omega) X (adv s) b.2.2.2 b.1 b.2.1 b.2.2.1 wx hb q y)
        have hy := fun (wx : World) (zq : Rd T rb lv e X (b.2.2.2) wx) => want_any K.in_ zq
        rw [bsK_in] at hy
        have HWI := hide hy
        clear hy
        have HEX := hide (fun (wx : World) (zq : Rd T rb lv e X (want T e K.in_ b.2.2.2) wx) y => HEE.out (n) (by omega) X (want T e K.in_ b.2.2.2) x.2 x.1 wx hx zq y)
        have hy := fun (pv : Value) (wx : World) (zq : Rd T rb lv e X (x.2) wx) y z => node_any (pv := pv) (w := wx) hm zq y z
        have HN := hide hy
        clear hy
        clear hm hb hx
        generalize bs b.1 = bi at *
        generalize bs b.2.1 = bn at *
        go_enter Tryz.func155, Tryz.ntmps155
        go_wp2_with fail
        refine (HS1.out _ HR0.out).mono ?_; rintro e' w1 ⟨rfl, hR1, hK1⟩
        have HR1 := hide hR1
        have hL1 := hK1
        clear hR1 hK1
        go_wp2_with fail
        refine (HB.out _ HR1.out (later HX.out hL1.size)).mono ?_; rintro e' w2 ⟨rfl, hR2, hK2⟩
        have HR2 := hide hR2
        have hL2 := hL1.trans hK2
        clear hR2 hK2
        go_wp2_with fail
        refine (HWI.out _ HR2.out).mono ?_; rintro e' w3 ⟨rfl, hR3, hK3⟩
        have HR3 := hide hR3
        have hL3 := hL2.trans hK3
        clear hR3 hK3
        go_wp2_with fail
        refine (HEX.out _ HR3.out (later HX.out hL3.size)).mono ?_; rintro e' w4 ⟨rfl, hR4, hK4⟩
        have HR4 := hide hR4
        have hL4 := hL3.trans hK4
        clear hR4 hK4
        go_wp2_with fail
        refine (HN.out _ _ (HR4.out.alloc _) (lit2 w4 b.2.2.1 x.1) (fresh HX.out hL4.size)).mono ?_; rintro e' w5 ⟨rfl, hR5, hK5⟩
        have HR5 := hide hR5
        have hL5 := (hL4.alloc _).trans hK5
        clear hR5 hK5
        go_wp2_with fail
        go_ret
        exact ⟨rfl, HR5.out, hL5⟩
    · rw [hbad] at c3
      rw [hbad, cond_true] at hm
      simp only [Option.some.injEq, Prod.mk.injEq] at hm
      obtain ⟨rfl, rfl⟩ := hm
      clear hbad
      go_enter Tryz.func155, Tryz.ntmps155
      go_wp2_with fail
      go_ret
      exact ⟨rfl, HR0.out, Kp.refl _ _⟩

end Go.Proofs.YtnocnkblhjifjaaGreatDoor
