import Derived.Test.YtnocnkblhjifjaaGreatDoorMRefTyp
/-
  (*kilnref.Reader).apattern and pattern by their contracts.
-/
namespace Go.Proofs.YtnocnkblhjifjaaGreatDoor
open Go.RowKit

section
variable (T : List (List UInt8)) (rb : Nat) (lv : Value) (e : Nat)

def SaidPattern (n : Nat) : Prop := ∀ (X : Nat → Prop) (s s' : RS) (r : Nat) (w : World), patternP T e n s = some (r, s') → Rd T rb lv e X s w → (∀ g, X g → g < w.heap.size) →
  Calls Tryz.prog 415 #[.pointer (some ⟨rb, 0, none⟩)] w fun e' w' => e' = .returned (.int .i64 r) ∧ Rd T rb lv e X s' w' ∧ Kp rb w w'

def SaidApattern (n : Nat) : Prop := ∀ (X : Nat → Prop) (s s' : RS) (r : Nat) (ok : Bool) (w : World), patternP.apatternP T e n s = some (r, ok, s') → Rd T rb lv e X s w → (∀ g, X g → g < w.heap.size) →
  Calls Tryz.prog 429 #[.pointer (some ⟨rb, 0, none⟩)] w fun e' w' => e' = .returned (.tuple #[.int .i64 r, .bool ok]) ∧ Rd T rb lv e X s' w' ∧ Kp rb w w'
end

theorem plain_false {T : List (List UInt8)} {e : Nat} {s : RS} {p : Nat × Bool × RS} (h : plainP T e s = some p) (hp : p.2.1 = false) : p = (0, false, s) := by
  unfold plainP at h
  cases k1 : isKind T e 100 s
  · rw [k1, cond_false] at h
    cases k2 : isKind T e 110 s
    · rw [k2, cond_false] at h
      cases k3 : isKind T e 99 s
      · rw [k3, cond_false] at h
        cases k4 : (isSign T e K.true_ s || isSign T e K.false_ s)
        · rw [k4, cond_false] at h
          exact (Option.some.inj h).symm
        · rw [k4, cond_true, Option.bind_eq_some_iff] at h
          obtain ⟨q, _, h⟩ := h
          rw [← Option.some.inj h] at hp; cases hp
      · rw [k3, cond_true, Option.bind_eq_some_iff] at h
        obtain ⟨q, _, h⟩ := h
        rw [← Option.some.inj h] at hp; cases hp
    · rw [k2, cond_true, Option.bind_eq_some_iff] at h
      obtain ⟨q, _, h⟩ := h
      rw [← Option.some.inj h] at hp; cases hp
  · rw [k1, cond_true, Option.bind_eq_some_iff] at h
    obtain ⟨q, _, h⟩ := h
    rw [← Option.some.inj h] at hp; cases hp

/-- A sign that comes: it is taken. -/
theorem sign_yes {T : List (List UInt8)} {rb : Nat} {lv : Value} {e : Nat} {X : Nat → Prop} {s : RS} {w : World} {x : List UInt8} (hx : isSign T e x s = true) (h : Rd T rb lv e X s w) :
    Calls Tryz.prog 149 #[.pointer (some ⟨rb, 0, none⟩), .string (bs x)] w fun e' w' => e' = .returned (.bool true) ∧ Rd T rb lv e X (adv s) w' ∧ Kp rb w w' := by
  have := sign_any x h
  rw [hx, show signS T e x s = adv s by simp [signS, hx]] at this
  exact this

theorem sign_no {T : List (List UInt8)} {rb : Nat} {lv : Value} {e : Nat} {X : Nat → Prop} {s : RS} {w : World} {x : List UInt8} (hx : isSign T e x s = false) (h : Rd T rb lv e X s w) :
    Calls Tryz.prog 149 #[.pointer (some ⟨rb, 0, none⟩), .string (bs x)] w fun e' w' => e' = .returned (.bool false) ∧ Rd T rb lv e X s w' ∧ Kp rb w w' := by
  have := sign_any x h
  rw [hx, show signS T e x s = s by simp [signS, hx]] at this
  exact this

theorem node_nil {T : List (List UInt8)} {rb : Nat} {lv : Value} {e : Nat} {X : Nat → Prop} {s s' : RS} {w : World} {is name : List UInt8} {r : Nat}
    (hm : nodeP is name [] s = some (r, s')) (h : Rd T rb lv e X s w) :
    Calls Tryz.prog 152 #[.pointer (some ⟨rb, 0, none⟩), .string (bs is), .string (bs name), .slice none 0 0] w fun e' w' => e' = .returned (.int .i64 r) ∧ Rd T rb lv e X s' w' ∧ Kp rb w w' :=
  node_any hm h (World.ownsRow_nil _ _ _ _) (by simp [Value.ownBlock])

set_option maxHeartbeats 4000000 in
theorem apattern_any (T : List (List UInt8)) (rb : Nat) (lv : Value) (e : Nat) (N : Nat) (hP : ∀ m, m < N → SaidPattern T rb lv e m) : SaidApattern T rb lv e N := by
  intro X s s' r ok w hm h hX
  cases N with
  | zero => simp [patternP.apatternP] at hm
  | succ n =>
    rw [patternP.apatternP, Option.bind_eq_some_iff] at hm
    obtain ⟨p, hp, hm⟩ := hm
    have hlt := h.lt
    have HX := hide hX
    have HP0 := hide (plain_any (r := p.1) (ok := p.2.1) (s' := p.2.2) hp h)
    clear h hX
    cases hp2 : p.2.1
    · have hpe := plain_false hp hp2
      subst hpe
      rw [cond_false] at hm
      simp only at HP0
      clear hp hp2
      cases k1 : isSign T e K.under_ s
      · rw [k1, cond_false] at hm
        have hs1 := fun (wx : World) (q : Rd T rb lv e X s wx) => sign_no k1 q
        rw [bsK_under] at hs1
        have HS1 := hide hs1
        clear hs1 k1
        cases k2 : isSign T e K.open_ s
        · rw [k2, cond_false] at hm
          simp only [Option.some.injEq, Prod.mk.injEq] at hm
          obtain ⟨rfl, rfl, rfl⟩ := hm
          have hs2 := fun (wx : World) (q : Rd T rb lv e X s wx) => sign_no k2 q
          rw [bsK_open] at hs2
          have HS2 := hide hs2
          clear hs2 k2 hP
          go_enter Tryz.func429, Tryz.ntmps429
          go_wp2_with fail
          refine (HP0.out).mono ?_; rintro e' w1 ⟨rfl, hR1, hK1⟩
          have HR1 := hide hR1
          clear hR1
          go_wp2_with fail
          refine (HS1.out _ HR1.out).mono ?_; rintro e' w2 ⟨rfl, hR2, hK2⟩
          have HR2 := hide hR2
          have hK2' := hK1.trans hK2
          clear hR2 hK2
          go_wp2_with fail
          refine (HS2.out _ HR2.out).mono ?_; rintro e' w3 ⟨rfl, hR3, hK3⟩
          have HR3 := hide hR3
          have hK3' := hK2'.trans hK3
          clear hR3 hK3
          go_wp2_with fail
          go_ret2
          exact ⟨rfl, HR3.out, hK3'⟩
        · rw [k2, cond_true] at hm
          have hs2 := fun (wx : World) (q : Rd T rb lv e X s wx) => sign_yes k2 q
          rw [bsK_open] at hs2
          have HS2 := hide hs2
          clear hs2 k2
          cases k3 : isSign T e K.shut_ (adv s)
          · rw [k3, cond_false, Option.bind_eq_some_iff] at hm
            obtain ⟨q, hq, hm⟩ := hm
            simp only [Option.some.injEq, Prod.mk.injEq] at hm
            obtain ⟨rfl, rfl, rfl⟩ := hm
            have hs3 := fun (wx : World) (x : Rd T rb lv e X (adv s) wx) => sign_no k3 x
            rw [bsK_shut] at hs3
            have HS3 := hide hs3
            have HPT := hide (fun (wx : World) (x : Rd T rb lv e X (adv s) wx) y => hP n (by omega) X (adv s) q.2 q.1 wx hq x y)
            have hw := fun (wx : World) (x : Rd T rb lv e X q.2 wx) => want_any K.shut_ x
            rw [bsK_shut] at hw
            have HW := hide hw
            clear hs3 k3 hq hw hP
            go_enter Tryz.func429, Tryz.ntmps429
            go_wp2_with fail
            refine (HP0.out).mono ?_; rintro e' w1 ⟨rfl, hR1, hK1⟩
            have HR1 := hide hR1
            clear hR1
            go_wp2_with fail
            refine (HS1.out _ HR1.out).mono ?_; rintro e' w2 ⟨rfl, hR2, hK2⟩
            have HR2 := hide hR2
            have hK2' := hK1.trans hK2
            clear hR2 hK2
            go_wp2_with fail
            refine (HS2.out _ HR2.out).mono ?_; rintro e' w3 ⟨rfl, hR3, hK3⟩
            have HR3 := hide hR3
            have hK3' := hK2'.trans hK3
            clear hR3 hK3
            go_wp2_with fail
            refine (HS3.out _ HR3.out).mono ?_; rintro e' w4 ⟨rfl, hR4, hK4⟩
            have HR4 := hide hR4
            have hK4' := hK3'.trans hK4
            clear hR4 hK4
            go_wp2_with fail
            refine (HPT.out _ HR4.out (later HX.out hK4'.size)).mono ?_; rintro e' w5 ⟨rfl, hR5, hK5⟩
            have HR5 := hide hR5
            have hK5' := hK4'.trans hK5
            clear hR5 hK5
            go_wp2_with fail
            refine (HW.out _ HR5.out).mono ?_; rintro e' w6 ⟨rfl, hR6, hK6⟩
            have HR6 := hide hR6
            have hK6' := hK5'.trans hK6
            clear hR6 hK6
            go_wp2_with fail
            go_ret2
            exact ⟨rfl, HR6.out, hK6'⟩
          · rw [k3, cond_true, Option.bind_eq_some_iff] at hm
            obtain ⟨q, hq, hm⟩ := hm
            simp only [Option.some.injEq, Prod.mk.injEq] at hm
            obtain ⟨rfl, rfl, rfl⟩ := hm
            have hs3 := fun (wx : World) (x : Rd T rb lv e X (adv s) wx) => sign_yes k3 x
            rw [bsK_shut] at hs3
            have HS3 := hide hs3
            have hn := fun (wx : World) (x : Rd T rb lv e X (adv (adv s)) wx) => node_nil (w := wx) hq x
            rw [bsK_const, bsK_unit] at hn
            have HN := hide hn
            clear hs3 k3 hq hn hP
            go_enter Tryz.func429, Tryz.ntmps429
            go_wp2_with fail
            refine (HP0.out).mono ?_; rintro e' w1 ⟨rfl, hR1, hK1⟩
            have HR1 := hide hR1
            clear hR1
            go_wp2_with fail
            refine (HS1.out _ HR1.out).mono ?_; rintro e' w2 ⟨rfl, hR2, hK2⟩
            have HR2 := hide hR2
            have hK2' := hK1.trans hK2
            clear hR2 hK2
            go_wp2_with fail
            refine (HS2.out _ HR2.out).mono ?_; rintro e' w3 ⟨rfl, hR3, hK3⟩
            have HR3 := hide hR3
            have hK3' := hK2'.trans hK3
            clear hR3 hK3
            go_wp2_with fail
            refine (HS3.out _ HR3.out).mono ?_; rintro e' w4 ⟨rfl, hR4, hK4⟩
            have HR4 := hide hR4
            have hK4' := hK3'.trans hK4
            clear hR4 hK4
            go_wp2_with fail
            refine (HN.out _ HR4.out).mono ?_; rintro e' w5 ⟨rfl, hR5, hK5⟩
            have HR5 := hide hR5
            have hK5' := hK4'.trans hK5
            clear hR5 hK5
            go_wp2_with fail
            go_ret2
            exact ⟨rfl, HR5.out, hK5'⟩
      · rw [k1, cond_true, Option.bind_eq_some_iff] at hm
        obtain ⟨q, hq, hm⟩ := hm
        simp only [Option.some.injEq, Prod.mk.injEq] at hm
        obtain ⟨rfl, rfl, rfl⟩ := hm
        have hs1 := fun (wx : World) (x : Rd T rb lv e X s wx) => sign_yes k1 x
        rw [bsK_under] at hs1
        have HS1 := hide hs1
        have hn := fun (wx : World) (x : Rd T rb lv e X (adv s) wx) => node_nil (w := wx) hq x
        rw [bsK_const, bsK_under] at hn
        have HN := hide hn
        clear hs1 k1 hq hn hP
        go_enter Tryz.func429, Tryz.ntmps429
        go_wp2_with fail
        refine (HP0.out).mono ?_; rintro e' w1 ⟨rfl, hR1, hK1⟩
        have HR1 := hide hR1
        clear hR1
        go_wp2_with fail
        refine (HS1.out _ HR1.out).mono ?_; rintro e' w2 ⟨rfl, hR2, hK2⟩
        have HR2 := hide hR2
        have hK2' := hK1.trans hK2
        clear hR2 hK2
        go_wp2_with fail
        refine (HN.out _ HR2.out).mono ?_; rintro e' w3 ⟨rfl, hR3, hK3⟩
        have HR3 := hide hR3
        have hK3' := hK2'.trans hK3
        clear hR3 hK3
        go_wp2_with fail
        go_ret2
        exact ⟨rfl, HR3.out, hK3'⟩
    · rw [hp2, cond_true] at hm
      rw [hp2] at HP0
      obtain rfl := Option.some.inj hm
      simp only at hp2 HP0
      subst hp2
      clear hp hP hm
      go_enter Tryz.func429, Tryz.ntmps429
      go_wp2_with fail
      refine (HP0.out).mono ?_; rintro e' w1 ⟨rfl, hR1, hK1⟩
      have HR1 := hide hR1
      clear hR1
      go_wp2_with fail
      go_ret2
      exact ⟨rfl, HR1.out, hK1⟩

end Go.Proofs.YtnocnkblhjifjaaGreatDoor
