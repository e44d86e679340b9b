import Derived.Test.YtogghlglcddnkaaGreatDoorMRefTyp
/-
  (*kilnref.Reader).apattern and pattern by their contracts.
-/
namespace Go.Proofs.YtogghlglcddnkaaGreatDoor
open Go.RowKit

section
variable (T : List (List UInt8)) (rb : Nat) (lv : Value) (e : Nat)

def SaidPattern (n : Nat) : Prop := ∀ (X : Nat → Prop) (s s' : RS) (r : Nat) (w : World), patternP T e n s = some (r, s') → Rd T rb lv e X s w → (∀ g, X g → g < w.heap.size) →
  Calls Tryz.prog 288 #[.pointer (some ⟨rb, 0, none⟩)] w fun e' w' => e' = .returned (.int .i64 r) ∧ Rd T rb lv e X s' w' ∧ Kp rb w w'

def SaidApattern (n : Nat) : Prop := ∀ (X : Nat → Prop) (s s' : RS) (r : Nat) (ok : Bool) (w : World), patternP.apatternP T e n s = some (r, ok, s') → Rd T rb lv e X s w → (∀ g, X g → g < w.heap.size) →
  Calls Tryz.prog 302 #[.pointer (some ⟨rb, 0, none⟩)] w fun e' w' => e' = .returned (.tuple #[.int .i64 r, .bool ok]) ∧ Rd T rb lv e X s' w' ∧ Kp rb w w'
end

theorem plain_false {T : List (List UInt8)} {e : Nat} {s : RS} {p : Nat × Bool × RS} (h : plainP T e s = some p) (hp : p.2.1 = false) : p = (0, false, s) := by
  unfold plainP at h
  cases k1 : isKind T e 100 s
  · rw [k1, cond_false] at h
    cases k2 : isKind T e 110 s
    · rw [k2, cond_false] at h
      cases k3 : isKind T e 99 s
      · rw [k3, cond_false] at h
        cases k4 : (isSign T e K.true_ s || isSign T e K.false_ s)
        · rw [k4, cond_false] at h
          exact (Option.some.inj h).symm
        · rw [k4, cond_true, Option.bind_eq_some_iff] at h
          obtain ⟨q, _, h⟩ := h
          rw [← Option.some.inj h] at hp; cases hp
      · rw [k3, cond_true, Option.bind_eq_some_iff] at h
        obtain ⟨q, _, h⟩ := h
        rw [← Option.some.inj h] at hp; cases hp
    · rw [k2, cond_true, Option.bind_eq_some_iff] at h
      obtain ⟨q, _, h⟩ := h
      rw [← Option.some.inj h] at hp; cases hp
  · rw [k1, cond_true, Option.bind_eq_some_iff] at h
    obtain ⟨q, _, h⟩ := h
    rw [← Option.some.inj h] at hp; cases hp

/-- A sign that comes: it is taken. -/
theorem sign_yes {T : List (List UInt8)} {rb : Nat} {lv : Value} {e : Nat} {X : Nat → Prop} {s : RS} {w : World} {x : List UInt8} (hx : isSign T e x s = true) (h : Rd T rb lv e X s w) :
    Calls Tryz.prog 114 #[.pointer (some ⟨rb, 0, none⟩), .string (bs x)] w fun e' w' => e' = .returned (.bool true) ∧ Rd T rb lv e X (adv s) w' ∧ Kp rb w w' := by
  have := sign_any x h
  rw [hx, show signS T e x s = adv s by simp [signS, hx]] at this
  exact this

theorem sign_no {T : List (List UInt8)} {rb : Nat} {lv : Value} {e : Nat} {X : Nat → Prop} {s : RS} {w : World} {x : List UInt8} (hx : isSign T e x s = false) (h : Rd T rb lv e X s w) :
    Calls Tryz.prog 114 #[.pointer (some ⟨rb, 0, none⟩), .string (bs x)] w fun e' w' => e' = .returned (.bool false) ∧ Rd T rb lv e X s w' ∧ Kp rb w w' := by
  have := sign_any x h
  rw [hx, show signS T e x s = s by simp [signS, hx]] at this
  exact this

theorem node_nil {T : List (List UInt8)} {rb : Nat} {lv : Value} {e : Nat} {X : Nat → Prop} {s s' : RS} {w : World} {is name : List UInt8} {r : Nat}
    (hm : nodeP is name [] s = some (r, s')) (h : Rd T rb lv e X s w) :
    Calls Tryz.prog 117 #[.pointer (some ⟨rb, 0, none⟩), .string (bs is), .string (bs name), .slice none 0 0] w fun e' w' => e' = .returned (.int .i64 r) ∧ Rd T rb lv e X s' w' ∧ Kp rb w w' :=
  node_any hm h (World.ownsRow_nil _ _ _ _) (by simp [Value.ownBlock])

set_option maxHeartbeats 4000000 in
theorem apattern_any (T : List (List UInt8)) (rb : Nat) (lv : Value) (e : Nat) (N : Nat) (hP : ∀ m, m < N → SaidPattern T rb lv e m) : SaidApattern T rb lv e N := by
  intro X s s' r ok w hm h hX
  cases N with
  | zero => simp [patternP.apatternP] at hm
  | succ n =>
    rw [patternP.apatternP, Option.bind_eq_some_iff] at hm
    obtain ⟨p, hp, hm⟩ := hm
    have hlt := h.lt
    have HX := hide hX
    have HP0 := hide (plain_any (r := p.1) (ok := p.2.1) (s' := p.2.2) hp h)
    clear h hX
    cases hp2 : p.2.1
    · have hpe := plain_false hp hp2
      subst hpe
      rw [cond_false] at hm
      simp only at HP0
      clear hp hp2
      cases k1 : isSign T e K.under_ s
      · rw [k1, cond_false] at hm
        have hs1 := fun (wx : World) (q : Rd T rb lv e X s wx) => sign_no k1 q
        rw [bsK_under] at hs1
        have HS1 := hide hs1
        clear hs1 k1
        cases k2 : isSign T e K.open_ s
        · rw [k2, cond_false] at hm
          simp only [Option.some.injEq, Prod.mk.injEq] at hm
          obtain ⟨rfl, rfl, rfl⟩ := hm
          have hs2 := fun (wx : World) (q : Rd T rb lv e X s wx) => sign_no k2 q
          rw [bsK_open] at hs2
          have HS2 := hide hs2
          clear hs2 k2 hP
          go_enter Tryz.func302, Tryz.ntmps302
          go_wp2_with fail
          refine (HP0.out).mono ?_; rintro e' w1 ⟨rfl, hR1, hK1⟩
          have HR1 := hide hR1
          clear hR1
          go_wp2_with fail
          refine (HS1.out _ HR1.out).mono ?_; rintro e' w2 ⟨rfl, hR2, hK2⟩
          have HR2 := hide hR2
          have hK2' := hK1.trans hK2
          clear hR2 hK2
          go_wp2_with fail
          refine (HS2.out _ HR2.out).mono ?_; rintro e' w3 ⟨rfl, hR3, hK3⟩
          have HR3 := hide hR3
          have hK3' := hK2'.trans hK3
          clear hR3 hK3
          go_wp2_with fail
          go_ret2
          exact ⟨rfl, HR3.out, hK3'⟩
        · rw [k2, cond_true] at hm
          have hs2 := fun (wx : World) (q : Rd T rb lv e X s wx) => sign_yes k2 q
          rw [bsK_open] at hs2
          have HS2 := hide hs2
          clear hs2 k2
          cases k3 : isSign T e K.shut_ (adv s)
          · rw [k3, cond_false, Option.bind_eq_some_iff] at hm
            obtain ⟨q, hq, hm⟩ := hm
            simp only [Option.some.injEq, Prod.mk.injEq] at hm
            obtain ⟨rfl, rfl, rfl⟩ := hm
            have hs3 := fun (wx : World) (x : Rd T rb lv e X (adv s) wx) => sign_no k3 x
            rw [bsK_shut] at hs3
            have HS3 := hide hs3
            have HPT := hide (fun (wx : World) (x : Rd T rb lv e X (adv s) wx) y => hP n (by omega) X (adv s) q.2 q.1 wx hq x y)
            have hw := fun (wx : World) (x : Rd T rb lv e X q.2 wx) => want_any K.shut_ x
            rw [bsK_shut] at hw
            have HW := hide hw
            clear hs3 k3 hq hw hP
            go_enter Tryz.func302, Tryz.ntmps302
            go_wp2_with fail
            refine (HP0.out).mono ?_; rintro e' w1 ⟨rfl, hR1, hK1⟩
            have HR1 := hide hR1
            clear hR1
            go_wp2_with fail
            refine (HS1.out _ HR1.out).mono ?_; rintro e' w2 ⟨rfl, hR2, hK2⟩
            have HR2 := hide hR2
            have hK2' := hK1.trans hK2
            clear hR2 hK2
            go_wp2_with fail
            refine (HS2.out _ HR2.out).mono ?_; rintro e' w3 ⟨rfl, hR3, hK3⟩
            have HR3 := hide hR3
            have hK3' := hK2'.trans hK3
            clear hR3 hK3
            go_wp2_with fail
            refine (HS3.out _ HR3.out).mono ?_; rintro e' w4 ⟨rfl, hR4, hK4⟩
            have HR4 := hide hR4
            have hK4' := hK3'.trans hK4
            clear hR4 hK4
            go_wp2_with fail
            refine (HPT.out _ HR4.out (later HX.out hK4'.size)).mono ?_; rintro e' w5 ⟨rfl, hR5, hK5⟩
            have HR5 := hide hR5
            have hK5' := hK4'.trans hK5
            clear hR5 hK5
            go_wp2_with fail
            refine (HW.out _ HR5.out).mono ?_; rintro e' w6 ⟨rfl, hR6, hK6⟩
            have HR6 := hide hR6
            have hK6' := hK5'.trans hK6
            clear hR6 hK6
            go_wp2_with fail
            go_ret2
            exact ⟨rfl, HR6.out, hK6'⟩
          · rw [k3, cond_true, Option.bind_eq_some_iff] at hm
            obtain ⟨q, hq, hm⟩ := hm
            simp only [Option.some.injEq, Prod.mk.injEq] at hm
            obtain ⟨rfl, rfl, rfl⟩ := hm
            have hs3 := fun (wx : World) (x : Rd T rb lv e X (adv s) wx) => sign_yes k3 x
            rw [bsK_shut] at hs3
            have HS3 := hide hs3
            have hn := fun (wx : World) (x : Rd T rb lv e X (adv (adv s)) wx) => node_nil (w := wx) hq x
            rw [bsK_const, bsK_unit] at hn
            have HN := hide hn
            clear hs3 k3 hq hn hP
            go_enter Tryz.func302, Tryz.ntmps302
            go_wp2_with fail
            refine (HP0.out).mono ?_; rintro e' w1 ⟨rfl, hR1, hK1⟩
            have HR1 := hide hR1
            clear hR1
            go_wp2_with fail
            refine (HS1.out _ HR1.out).mono ?_; rintro e' w2 ⟨rfl, hR2, hK2⟩
            have HR2 := hide hR2
            have hK2' := hK1.trans hK2
            clear hR2 hK2
            go_wp2_with fail
            refine (HS2.out _ HR2.out).mono ?_; rintro e' w3 ⟨rfl, hR3, hK3⟩
            have HR3 := hide hR3
            have hK3' := hK2'.trans hK3
            clear hR3 hK3
            go_wp2_with fail
            refine (HS3.out _ HR3.out).mono ?_; rintro e' w4 ⟨rfl, hR4, hK4⟩
            have HR4 := hide hR4
            have hK4' := hK3'.trans hK4
            clear hR4 hK4
            go_wp2_with fail
            refine (HN.out _ HR4.out).mono ?_; rintro e' w5 ⟨rfl, hR5, hK5⟩
            have HR5 := hide hR5
            have hK5' := hK4'.trans hK5
            clear hR5 hK5
            go_wp2_with fail
            go_ret2
            exact ⟨rfl, HR5.out, hK5'⟩
      · rw [k1, cond_true, Option.bind_eq_some_iff] at hm
        obtain ⟨q, hq, hm⟩ := hm
        simp only [Option.some.injEq, Prod.mk.injEq] at hm
        obtain ⟨rfl, rfl, rfl⟩ := hm
        have hs1 := fun (wx : World) (x : Rd T rb lv e X s wx) => sign_yes k1 x
        rw [bsK_under] at hs1
        have HS1 := hide hs1
        have hn := fun (wx : World) (x : Rd T rb lv e X (adv s) wx) => node_nil (w := wx) hq x
        rw [bsK_const, bsK_under] at hn
        have HN := hide hn
        clear hs1 k1 hq hn hP
        go_enter Tryz.func302, Tryz.ntmps302
        go_wp2_with fail
        refine (HP0.out).mono ?_; rintro e' w1 ⟨rfl, hR1, hK1⟩
        have HR1 := hide hR1
        clear hR1
        go_wp2_with fail
        refine (HS1.out _ HR1.out).mono ?_; rintro e' w2 ⟨rfl, hR2, hK2⟩
        have HR2 := hide hR2
        have hK2' := hK1.trans hK2
        clear hR2 hK2
        go_wp2_with fail
        refine (HN.out _ HR2.out).mono ?_; rintro e' w3 ⟨rfl, hR3, hK3⟩
        have HR3 := hide hR3
        have hK3' := hK2'.trans hK3
        clear hR3 hK3
        go_wp2_with fail
        go_ret2
        exact ⟨rfl, HR3.out, hK3'⟩
    · rw [hp2, cond_true] at hm
      rw [hp2] at HP0
      obtain rfl := Option.some.inj hm
      simp only at hp2 HP0
      subst hp2
      clear hp hP hm
      go_enter Tryz.func302, Tryz.ntmps302
      go_wp2_with fail
      refine (HP0.out).mono ?_; rintro e' w1 ⟨rfl, hR1, hK1⟩
      have HR1 := hide hR1
      clear hR1
      go_wp2_with fail
      go_ret2
      exact ⟨rfl, HR1.out, hK1⟩

end Go.Proofs.YtogghlglcddnkaaGreatDoor
/-
  (*kilnref.Reader).pattern by its contract; patterns together.
-/
namespace Go.Proofs.YtogghlglcddnkaaGreatDoor
open Go.RowKit

set_option maxHeartbeats 4000000 in
theorem pattern_any (T : List (List UInt8)) (rb : Nat) (lv : Value) (e : Nat) (N : Nat) (hN : N ≤ 1000000) (hA : ∀ m, m < N → SaidApattern T rb lv e m) : SaidPattern T rb lv e N := by
  intro X s s' r w hm h hX
  cases N with
  | zero => simp [patternP] at hm
  | succ n =>
    rw [patternP] at hm
    have htl := h.t_le
    have hel := h.e_le
    have hc := see_any h
    have HX := hide hX
    have HR := hide h
    have HA := hide hA
    clear hX hA
    cases k1 : isKind T e 99 s
    · have hn : (tokKind (see T e s) != 99) = true := by simpa [isKind, bne] using k1
      rw [k1, cond_false, Option.bind_eq_some_iff] at hm
      obtain ⟨q, hq, hm⟩ := hm
      simp only [Option.some.injEq, Prod.mk.injEq] at hm
      obtain ⟨rfl, rfl⟩ := hm
      have HQ := hide (fun (wx : World) (x : Rd T rb lv e X s wx) y => HA.out n (by omega) X s q.2.2 q.1 q.2.1 wx hq x y)
      clear k1 hq h HA
      generalize tokKind (see T e s) = kd at *
      generalize bs (see T e s) = tx at *
      have HC := hide hc
      clear hc
      cases hok : q.2.1
      · rw [cond_false]
        rw [hok] at HQ
        clear hok
        go_enter Tryz.func288, Tryz.ntmps288
        go_wp2_with fail
        refine (HC.out).mono ?_; rintro e' w1 ⟨rfl, hb1⟩
        have HR1 := hide ((HR.out.below hb1).alloc (.cells #[.int .u8 kd, .string tx] tyToken))
        have hK1 := (Kp.of_below (rb := rb) hb1).alloc (.cells #[.int .u8 kd, .string tx] tyToken)
        clear HR hb1
        go_wp2_with fail
        refine (HQ.out _ HR1.out (later HX.out hK1.size)).mono ?_; rintro e' w2 ⟨rfl, hR2, hK2⟩
        have hK2' := hK1.trans hK2
        obtain ⟨c0, c1, c2, c3, c5, cf⟩ := hR2.cell
        have HR2 := hide hR2
        clear hR2 hK2
        go_wp2_with fail
        go_ret
        exact ⟨rfl, HR2.out.setBad, hK2'.setR _ _⟩
      · rw [cond_true]
        rw [hok] at HQ
        clear hok
        go_enter Tryz.func288, Tryz.ntmps288
        go_wp2_with fail
        refine (HC.out).mono ?_; rintro e' w1 ⟨rfl, hb1⟩
        have HR1 := hide ((HR.out.below hb1).alloc (.cells #[.int .u8 kd, .string tx] tyToken))
        have hK1 := (Kp.of_below (rb := rb) hb1).alloc (.cells #[.int .u8 kd, .string tx] tyToken)
        clear HR hb1
        go_wp2_with fail
        refine (HQ.out _ HR1.out (later HX.out hK1.size)).mono ?_; rintro e' w2 ⟨rfl, hR2, hK2⟩
        have hK2' := hK1.trans hK2
        have HR2 := hide hR2
        clear hR2 hK2
        go_wp2_with fail
        go_ret
        exact ⟨rfl, HR2.out, hK2'⟩
    · have hn : (tokKind (see T e s) != 99) = false := by simpa [isKind, bne] using k1
      rw [k1, cond_true, Option.bind_eq_some_iff] at hm
      obtain ⟨l, hl, hm⟩ := hm
      have hpos := see_pos (T := T) (e := e) (s := s) (by decide) (show tokKind (see T e s) = 99 by simpa [isKind] using k1)
      have hcn := fun (pv : Value) (wx : World) (x : Rd T rb lv e X l.2 wx) y z => node_any (pv := pv) (w := wx) hm x y z
      rw [bsK_con] at hcn
      have HE0 : Hid (patternP.apatternsP T e n (adv s) = some (l.1, l.2) ∧ [] ++ l.1 = l.1) := ⟨hl, rfl⟩
      clear k1 hl h hm
      generalize tokKind (see T e s) = kd at *
      generalize bs (see T e s) = tx at *
      have HC := hide hc
      have HN := hide hcn
      clear hc hcn
      go_enter Tryz.func288, Tryz.ntmps288
      go_wp2_with fail
      refine (HC.out).mono ?_; rintro e' w1 ⟨rfl, hb1⟩
      have hR1 := HR.out.below hb1
      have hz := hR1.lt
      obtain ⟨c0, c1, c2, c3, c5, cf⟩ := hR1.cell
      have HR1 := hide (also_nil ((hR1.setPos hpos.1).alloc (.cells #[.int .u8 kd, .string tx] tyToken)))
      have hK1 := ((Kp.of_below (rb := rb) hb1).setR 1 (.int .i64 (s.pos + 1))).alloc (.cells #[.int .u8 kd, .string tx] tyToken)
      clear hR1 HR hb1
      go_wp2_with fail
      have hw0 : ((w1.setCell ⟨rb, 1, none⟩ (.int .i64 (s.pos + 1))).heap.size) = w1.heap.size := by simp [World.setCell]
      generalize hwl : (w1.setCell ⟨rb, 1, none⟩ (.int .i64 (s.pos + 1))) = wl at *
      have HW0 := hide hw0
      have hzl : rb < wl.heap.size := by omega
      clear c0 c1 c2 c3 c5 cf hwl hw0
      go_loopg [6] n (fun gk v wr => ∃ (s1 : RS) (acc rest : List Nat), gk ≤ n ∧ acc.length + gk ≤ n ∧ wr.ownsRow (wl.alloc (.cells #[.int .u8 kd, .string tx] tyToken)).heap.size tyInt 1 v acc.length (acc.map intV) ∧ Kp rb (wl.alloc (.cells #[.int .u8 kd, .string tx] tyToken)) wr ∧ Hid (Rd T rb lv e (also X v) s1 wr) ∧ Hid (patternP.apatternsP T e gk s1 = some (rest, l.2) ∧ acc ++ rest = l.1))
      case atStart => exact ⟨adv s, [], l.1, Nat.le_refl _, by simp, World.ownsRow_nil _ _ _ _, Kp.refl _ _, HR1, HE0⟩
      case round =>
        clear HR1 HE0
        obtain ⟨s1, acc, rest, hgk, hlen, hown, hK, HR, HE⟩ := hrel
        obtain ⟨hm, hacc⟩ := HE.out
        clear HE
        cases gk with
        | zero => simp [patternP.apatternsP] at hm
        | succ m =>
          rw [patternP.apatternsP, Option.bind_eq_some_iff] at hm
          obtain ⟨q, hq, hm⟩ := hm
          have HQ := hide (fun (wx : World) (x : Rd T rb lv e (also X u6) s1 wx) y => HA.out m (by omega) (also X u6) s1 q.2.2 q.1 q.2.1 wx hq x y)
          have hKa := hK1.trans hK
          clear hq
          cases hok : q.2.1
          · rw [hok, cond_false] at hm
            simp only [Option.some.injEq, Prod.mk.injEq] at hm
            obtain ⟨rfl, hs2⟩ := hm
            rw [List.append_nil] at hacc
            rw [hok, hs2] at HQ
            rw [← hacc] at HN
            clear hok hs2
            go_wp2_with fail
            refine (HQ.out _ HR.out (also_lt HX.out hKa.size hown)).mono ?_; rintro e' w3 ⟨rfl, hR3, hK3⟩
            have hown3 := HR.out.keep hK3 hown (by decide) (by decide)
            have htok := (hK.trans hK3).tok (n := w1.heap.size) HW0.out.symm hzl (by decide) 1
            simp only [List.getElem?_toArray, List.getElem?_cons_succ, List.getElem?_cons_zero] at htok
            have HR3 := hide hR3.less
            have HFR := hide (fresh_row HX.out hK1.size hown3)
            have HO3 := hide (ownsRow_le hown3 (Nat.zero_le _))
            have hK3' := hKa.trans hK3
            clear hR3 hown3 hK3
            go_wp2_with fail
            refine (HN.out _ _ HR3.out HO3.out HFR.out).mono ?_; rintro e' w4 ⟨rfl, hR4, hK4⟩
            have HR4 := hide hR4
            have hK4' := hK3'.trans hK4
            clear hR4
            go_wp2_with fail
            go_ret
            exact ⟨rfl, HR4.out, hK4'⟩
          · rw [hok, cond_true, Option.bind_eq_some_iff] at hm
            obtain ⟨rl, hrl, hm⟩ := hm
            simp only [Option.some.injEq, Prod.mk.injEq] at hm
            obtain ⟨hrest, hs2⟩ := hm
            rw [hok] at HQ
            have HE : Hid (patternP.apatternsP T e m q.2.2 = some (rl.1, l.2) ∧ (acc ++ [q.1]) ++ rl.1 = l.1) := ⟨by rw [hrl, ← hs2], by rw [← hacc, ← hrest, List.append_assoc]; rfl⟩
            clear hok hrl hrest hs2 hacc
            go_wp2_with fail
            refine (HQ.out _ HR.out (also_lt HX.out hKa.size hown)).mono ?_; rintro e' w3 ⟨rfl, hR3, hK3⟩
            have hown3 := HR.out.keep hK3 hown (by decide) (by decide)
            have hKb := hK.trans hK3
            have hsz := hKb.size
            have HR3 := hide hR3
            clear hR3 hK3 hown hK HR HQ
            go_wp2_with (at_builtin; refine append_int rfl _ _ rfl q.1 hown3 (by omega) hsz rfl rfl ?_)
            intro v' w4 hown4 hgrow hblk
            have HR4 := hide (HR3.out.appended hown3 hgrow hblk.out)
            have hK4 := (hKb.alloc (.cells #[.int .i64 q.1] tyInt)).grownOwn hgrow (fun g hg => (hown3.lt g hg).1)
            clear hown3 hgrow hblk HR3 hKb
            go_wp2_with fail
            go_roundg m
            case rel => exact ⟨q.2.2, acc ++ [q.1], rl.1, by omega, by simp; omega, by simpa using hown4, hK4, HR4, HE⟩
            case measure => omega

theorem patterns_said (T : List (List UInt8)) (rb : Nat) (lv : Value) (e : Nat) : ∀ N, N ≤ 1000000 → SaidPattern T rb lv e N ∧ SaidApattern T rb lv e N := by
  intro N
  induction N using Nat.strongRecOn with
  | _ N ih =>
    intro hN
    exact ⟨pattern_any T rb lv e N hN (fun m hm => (ih m hm (by omega)).2), apattern_any T rb lv e N (fun m hm => (ih m hm (by omega)).1)⟩

end Go.Proofs.YtogghlglcddnkaaGreatDoor
/-
  What the functions of the document's reader that read expressions are to do; (*kilnref.Reader).atoms by its contract.
-/
namespace Go.Proofs.YtogghlglcddnkaaGreatDoor
open Go.RowKit

section
variable (T : List (List UInt8)) (rb : Nat) (lv : Value) (e : Nat)

def SaidExpr (n : Nat) : Prop := ∀ (X : Nat → Prop) (s s' : RS) (r : Nat) (w : World), bindingP.exprP T e n s = some (r, s') → Rd T rb lv e X s w → (∀ g, X g → g < w.heap.size) →
  Calls Tryz.prog 120 #[.pointer (some ⟨rb, 0, none⟩)] w fun e' w' => e' = .returned (.int .i64 r) ∧ Rd T rb lv e X s' w' ∧ Kp rb w w'

def SaidBinding (n : Nat) : Prop := ∀ (X : Nat → Prop) (s s' : RS) (is name : List UInt8) (r : Nat) (w : World), bindingP T e n s = some (is, name, r, s') → Rd T rb lv e X s w → (∀ g, X g → g < w.heap.size) →
  Calls Tryz.prog 121 #[.pointer (some ⟨rb, 0, none⟩)] w fun e' w' => e' = .returned (.tuple #[.string (bs is), .string (bs name), .int .i64 r]) ∧ Rd T rb lv e X s' w' ∧ Kp rb w w'

def SaidLevel (n : Nat) : Prop := ∀ (k : Nat) (X : Nat → Prop) (s s' : RS) (r : Nat) (w : World), k ≤ 3 → bindingP.levelP T e n k s = some (r, s') → Rd T rb lv e X s w → (∀ g, X g → g < w.heap.size) →
  Calls Tryz.prog 170 #[.pointer (some ⟨rb, 0, none⟩), .int .i64 k] w fun e' w' => e' = .returned (.int .i64 r) ∧ Rd T rb lv e X s' w' ∧ Kp rb w w'

def SaidApp (n : Nat) : Prop := ∀ (X : Nat → Prop) (s s' : RS) (r : Nat) (w : World), bindingP.appP T e n s = some (r, s') → Rd T rb lv e X s w → (∀ g, X g → g < w.heap.size) →
  Calls Tryz.prog 207 #[.pointer (some ⟨rb, 0, none⟩)] w fun e' w' => e' = .returned (.int .i64 r) ∧ Rd T rb lv e X s' w' ∧ Kp rb w w'

def SaidAtoms (n : Nat) : Prop := ∀ (X : Nat → Prop) (s s' : RS) (l : List Nat) (w : World), bindingP.atomsP T e n s = some (l, s') → Rd T rb lv e X s w → (∀ g, X g → g < w.heap.size) →
  Calls Tryz.prog 232 #[.pointer (some ⟨rb, 0, none⟩)] w fun e' w' => ∃ v, e' = .returned v ∧ l.length ≤ n ∧ w'.ownsRow w.heap.size tyInt 1 v l.length (l.map intV) ∧ Rd T rb lv e (also X v) s' w' ∧ Kp rb w w'

def SaidAtom (n : Nat) : Prop := ∀ (X : Nat → Prop) (s s' : RS) (r : Nat) (ok : Bool) (w : World), bindingP.atomP T e n s = some (r, ok, s') → Rd T rb lv e X s w → (∀ g, X g → g < w.heap.size) →
  Calls Tryz.prog 253 #[.pointer (some ⟨rb, 0, none⟩)] w fun e' w' => e' = .returned (.tuple #[.int .i64 r, .bool ok]) ∧ Rd T rb lv e X s' w' ∧ Kp rb w w'

def SaidMatch (n : Nat) : Prop := ∀ (X : Nat → Prop) (s s' : RS) (r : Nat) (w : World), bindingP.matchP T e n s = some (r, s') → s.mts < s.pos → Rd T rb lv e X s w → (∀ g, X g → g < w.heap.size) →
  Calls Tryz.prog 275 #[.pointer (some ⟨rb, 0, none⟩)] w fun e' w' => e' = .returned (.int .i64 r) ∧ Rd T rb lv e X s' w' ∧ Kp rb w w'
end

set_option maxHeartbeats 4000000 in
theorem atoms_any (T : List (List UInt8)) (rb : Nat) (lv : Value) (e : Nat) (N : Nat) (hN : N ≤ 1000000) (hA : ∀ m, m < N → SaidAtom T rb lv e m) : SaidAtoms T rb lv e N := by
  intro X s s' l w hm h hX
  have HR0 := hide (also_nil h)
  have HA := hide hA
  have HX := hide hX
  have HE0 : Hid (bindingP.atomsP T e N s = some (l, s') ∧ [] ++ l = l) := ⟨hm, rfl⟩
  clear h hA hX hm
  go_enter Tryz.func232, Tryz.ntmps232
  go_wp2_with fail
  go_loopg [3] N (fun gk v wr => ∃ (s1 : RS) (acc rest : List Nat), gk ≤ N ∧ acc.length + gk ≤ N ∧ wr.ownsRow w.heap.size tyInt 1 v acc.length (acc.map intV) ∧ Kp rb w wr ∧ Hid (Rd T rb lv e (also X v) s1 wr) ∧ Hid (bindingP.atomsP T e gk s1 = some (rest, s') ∧ acc ++ rest = l))
  case atStart => exact ⟨s, [], l, Nat.le_refl _, by simp, World.ownsRow_nil _ _ _ _, Kp.refl _ _, HR0, HE0⟩
  case round =>
    clear HR0 HE0
    obtain ⟨s1, acc, rest, hgk, hlen, hown, hK, HR, HE⟩ := hrel
    obtain ⟨hm, hacc⟩ := HE.out
    clear HE
    cases gk with
    | zero => simp [bindingP.atomsP] at hm
    | succ m =>
      rw [bindingP.atomsP] at hm
      obtain ⟨c0, c1, c2, c3, c5, cf⟩ := HR.out.cell
      cases hbad : s1.bad
      · rw [hbad, cond_false, Option.bind_eq_some_iff] at hm
        rw [hbad] at c3
        obtain ⟨q, hq, hm⟩ := hm
        have HQ := hide (fun (wx : World) (x : Rd T rb lv e (also X u3) s1 wx) y => HA.out m (by omega) (also X u3) s1 q.2.2 q.1 q.2.1 wx hq x y)
        clear hq hbad
        cases hok : q.2.1
        · rw [hok, cond_false] at hm
          simp only [Option.some.injEq, Prod.mk.injEq] at hm
          obtain ⟨rfl, hs2⟩ := hm
          rw [List.append_nil] at hacc
          rw [hok, hs2] at HQ
          subst hacc
          clear hok hs2
          go_wp2_with fail
          refine (HQ.out _ HR.out (also_lt HX.out hK.size hown)).mono ?_; rintro e' w3 ⟨rfl, hR3, hK3⟩
          have hown3 := HR.out.keep hK3 hown (by decide) (by decide)
          have HR3 := hide hR3
          have hK3' := hK.trans hK3
          clear hR3 hK3 c0 c1 c2 c3 c5 cf
          go_wp2_with fail
          go_ret
          exact ⟨_, rfl, by omega, hown3, HR3.out, hK3'⟩
        · rw [hok, cond_true, Option.bind_eq_some_iff] at hm
          obtain ⟨rl, hrl, hm⟩ := hm
          simp only [Option.some.injEq, Prod.mk.injEq] at hm
          obtain ⟨hrest, hs2⟩ := hm
          rw [hok] at HQ
          have HE : Hid (bindingP.atomsP T e m q.2.2 = some (rl.1, s') ∧ (acc ++ [q.1]) ++ rl.1 = l) := ⟨by rw [hrl, ← hs2], by rw [← hacc, ← hrest, List.append_assoc]; rfl⟩
          clear hok hrl hrest hs2 hacc
          go_wp2_with fail
          refine (HQ.out _ HR.out (also_lt HX.out hK.size hown)).mono ?_; rintro e' w3 ⟨rfl, hR3, hK3⟩
          have hown3 := HR.out.keep hK3 hown (by decide) (by decide)
          have hKb := hK.trans hK3
          have hsz := hKb.size
          have HR3 := hide hR3
          clear hR3 hK3 hown hK HR HQ c0 c1 c2 c3 c5 cf
          go_wp2_with (at_builtin; refine append_int rfl _ _ rfl q.1 hown3 (by omega) hsz rfl rfl ?_)
          intro v' w4 hown4 hgrow hblk
          have HR4 := hide (HR3.out.appended hown3 hgrow hblk.out)
          have hK4 := (hKb.alloc (.cells #[.int .i64 q.1] tyInt)).grownOwn hgrow (fun g hg => (hown3.lt g hg).1)
          clear hown3 hgrow hblk HR3 hKb
          go_wp2_with fail
          go_roundg m
          case rel => exact ⟨q.2.2, acc ++ [q.1], rl.1, by omega, by simp; omega, by simpa using hown4, hK4, HR4, HE⟩
          case measure => omega
      · rw [hbad, cond_true] at hm
        rw [hbad] at c3
        simp only [Option.some.injEq, Prod.mk.injEq] at hm
        obtain ⟨rfl, hs2⟩ := hm
        rw [List.append_nil] at hacc
        subst hacc
        rw [hs2] at HR
        clear hs2 hbad
        go_wp2_with fail
        go_ret
        exact ⟨_, rfl, by omega, hown, HR.out, hK⟩

end Go.Proofs.YtogghlglcddnkaaGreatDoor
