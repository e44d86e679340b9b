import Derived.Test.YtnocnkblhjifjaaGreatDoorMRefApattern
/-
  (*kilnref.Reader).pattern by its contract; patterns together.
-/
namespace Go.Proofs.YtnocnkblhjifjaaGreatDoor
open Go.RowKit

set_option maxHeartbeats 4000000 in
theorem pattern_any (T : List (List UInt8)) (rb : Nat) (lv : Value) (e : Nat) (N : Nat) (hN : N ≤ 1000000) (hA : ∀ m, m < N → SaidApattern T rb lv e m) : SaidPattern T rb lv e N := by
  intro X s s' r w hm h hX
  cases N with
  | zero => simp [patternP] at hm
  | succ n =>
    rw [patternP] at hm
    have htl := h.t_le
    have hel := h.e_le
    have hc := see_any h
    have HX := hide hX
    have HR := hide h
    have HA := hide hA
    clear hX hA
    cases k1 : isKind T e 99 s
    · have hn : (tokKind (see T e s) != 99) = true := by simpa [isKind, bne] using k1
      rw [k1, cond_false, Option.bind_eq_some_iff] at hm
      obtain ⟨q, hq, hm⟩ := hm
      simp only [Option.some.injEq, Prod.mk.injEq] at hm
      obtain ⟨rfl, rfl⟩ := hm
      have HQ := hide (fun (wx : World) (x : Rd T rb lv e X s wx) y => HA.out n (by omega) X s q.2.2 q.1 q.2.1 wx hq x y)
      clear k1 hq h HA
      generalize tokKind (see T e s) = kd at *
      generalize bs (see T e s) = tx at *
      have HC := hide hc
      clear hc
      cases hok : q.2.1
      · rw [cond_false]
        rw [hok] at HQ
        clear hok
        go_enter Tryz.func415, Tryz.ntmps415
        go_wp2_with fail
        refine (HC.out).mono ?_; rintro e' w1 ⟨rfl, hb1⟩
        have HR1 := hide ((HR.out.below hb1).alloc (.cells #[.int .u8 kd, .string tx] tyToken))
        have hK1 := (Kp.of_below (rb := rb) hb1).alloc (.cells #[.int .u8 kd, .string tx] tyToken)
        clear HR hb1
        go_wp2_with fail
        refine (HQ.out _ HR1.out (later HX.out hK1.size)).mono ?_; rintro e' w2 ⟨rfl, hR2, hK2⟩
        have hK2' := hK1.trans hK2
        obtain ⟨c0, c1, c2, c3, c5, cf⟩ := hR2.cell
        have HR2 := hide hR2
        clear hR2 hK2
        go_wp2_with fail
        go_ret
        exact ⟨rfl, HR2.out.setBad, hK2'.setR _ _⟩
      · rw [cond_true]
        rw [hok] at HQ
        clear hok
        go_enter Tryz.func415, Tryz.ntmps415
        go_wp2_with fail
        refine (HC.out).mono ?_; rintro e' w1 ⟨rfl, hb1⟩
        have HR1 := hide ((HR.out.below hb1).alloc (.cells #[.int .u8 kd, .string tx] tyToken))
        have hK1 := (Kp.of_below (rb := rb) hb1).alloc (.cells #[.int .u8 kd, .string tx] tyToken)
        clear HR hb1
        go_wp2_with fail
        refine (HQ.out _ HR1.out (later HX.out hK1.size)).mono ?_; rintro e' w2 ⟨rfl, hR2, hK2⟩
        have hK2' := hK1.trans hK2
        have HR2 := hide hR2
        clear hR2 hK2
        go_wp2_with fail
        go_ret
        exact ⟨rfl, HR2.out, hK2'⟩
    · have hn : (tokKind (see T e s) != 99) = false := by simpa [isKind, bne] using k1
      rw [k1, cond_true, Option.bind_eq_some_iff] at hm
      obtain ⟨l, hl, hm⟩ := hm
      have hpos := see_pos (T := T) (e := e) (s := s) (by decide) (show tokKind (see T e s) = 99 by simpa [isKind] using k1)
      have hcn := fun (pv : Value) (wx : World) (x : Rd T rb lv e X l.2 wx) y z => node_any (pv := pv) (w := wx) hm x y z
      rw [bsK_con] at hcn
      have HE0 : Hid (patternP.apatternsP T e n (adv s) = some (l.1, l.2) ∧ [] ++ l.1 = l.1) := ⟨hl, rfl⟩
      clear k1 hl h hm
      generalize tokKind (see T e s) = kd at *
      generalize bs (see T e s) = tx at *
      have HC := hide hc
      have HN := hide hcn
      clear hc hcn
      go_enter Tryz.func415, Tryz.ntmps415
      go_wp2_with fail
      refine (HC.out).mono ?_; rintro e' w1 ⟨rfl, hb1⟩
      have hR1 := HR.out.below hb1
      have hz := hR1.lt
      obtain ⟨c0, c1, c2, c3, c5, cf⟩ := hR1.cell
      have HR1 := hide (also_nil ((hR1.setPos hpos.1).alloc (.cells #[.int .u8 kd, .string tx] tyToken)))
      have hK1 := ((Kp.of_below (rb := rb) hb1).setR 1 (.int .i64 (s.pos + 1))).alloc (.cells #[.int .u8 kd, .string tx] tyToken)
      clear hR1 HR hb1
      go_wp2_with fail
      have hw0 : ((w1.setCell ⟨rb, 1, none⟩ (.int .i64 (s.pos + 1))).heap.size) = w1.heap.size := by simp [World.setCell]
      generalize hwl : (w1.setCell ⟨rb, 1, none⟩ (.int .i64 (s.pos + 1))) = wl at *
      have HW0 := hide hw0
      have hzl : rb < wl.heap.size := by omega
      clear c0 c1 c2 c3 c5 cf hwl hw0
      go_loopg [6] n (fun gk v wr => ∃ (s1 : RS) (acc rest : List Nat), gk ≤ n ∧ acc.length + gk ≤ n ∧ wr.ownsRow (wl.alloc (.cells #[.int .u8 kd, .string tx] tyToken)).heap.size tyInt 1 v acc.length (acc.map intV) ∧ Kp rb (wl.alloc (.cells #[.int .u8 kd, .string tx] tyToken)) wr ∧ Hid (Rd T rb lv e (also X v) s1 wr) ∧ Hid (patternP.apatternsP T e gk s1 = some (rest, l.2) ∧ acc ++ rest = l.1))
      case atStart => exact ⟨adv s, [], l.1, Nat.le_refl _, by simp, World.ownsRow_nil _ _ _ _, Kp.refl _ _, HR1, HE0⟩
      case round =>
        clear HR1 HE0
        obtain ⟨s1, acc, rest, hgk, hlen, hown, hK, HR, HE⟩ := hrel
        obtain ⟨hm, hacc⟩ := HE.out
        clear HE
        cases gk with
        | zero => simp [patternP.apatternsP] at hm
        | succ m =>
          rw [patternP.apatternsP, Option.bind_eq_some_iff] at hm
          obtain ⟨q, hq, hm⟩ := hm
          have HQ := hide (fun (wx : World) (x : Rd T rb lv e (also X u6) s1 wx) y => HA.out m (by omega) (also X u6) s1 q.2.2 q.1 q.2.1 wx hq x y)
          have hKa := hK1.trans hK
          clear hq
          cases hok : q.2.1
          · rw [hok, cond_false] at hm
            simp only [Option.some.injEq, Prod.mk.injEq] at hm
            obtain ⟨rfl, hs2⟩ := hm
            rw [List.append_nil] at hacc
            rw [hok, hs2] at HQ
            rw [← hacc] at HN
            clear hok hs2
            go_wp2_with fail
            refine (HQ.out _ HR.out (also_lt HX.out hKa.size hown)).mono ?_; rintro e' w3 ⟨rfl, hR3, hK3⟩
            have hown3 := HR.out.keep hK3 hown (by decide) (by decide)
            have htok := (hK.trans hK3).tok (n := w1.heap.size) HW0.out.symm hzl (by decide) 1
            simp only [List.getElem?_toArray, List.getElem?_cons_succ, List.getElem?_cons_zero] at htok
            have HR3 := hide hR3.less
            have HFR := hide (fresh_row HX.out hK1.size hown3)
            have HO3 := hide (ownsRow_le hown3 (Nat.zero_le _))
            have hK3' := hKa.trans hK3
            clear hR3 hown3 hK3
            go_wp2_with fail
            refine (HN.out _ _ HR3.out HO3.out HFR.out).mono ?_; rintro e' w4 ⟨rfl, hR4, hK4⟩
            have HR4 := hide hR4
            have hK4' := hK3'.trans hK4
            clear hR4
            go_wp2_with fail
            go_ret
            exact ⟨rfl, HR4.out, hK4'⟩
          · rw [hok, cond_true, Option.bind_eq_some_iff] at hm
            obtain ⟨rl, hrl, hm⟩ := hm
            simp only [Option.some.injEq, Prod.mk.injEq] at hm
            obtain ⟨hrest, hs2⟩ := hm
            rw [hok] at HQ
            have HE : Hid (patternP.apatternsP T e m q.2.2 = some (rl.1, l.2) ∧ (acc ++ [q.1]) ++ rl.1 = l.1) := ⟨by rw [hrl, ← hs2], by rw [← hacc, ← hrest, List.append_assoc]; rfl⟩
            clear hok hrl hrest hs2 hacc
            go_wp2_with fail
            refine (HQ.out _ HR.out (also_lt HX.out hKa.size hown)).mono ?_; rintro e' w3 ⟨rfl, hR3, hK3⟩
            have hown3 := HR.out.keep hK3 hown (by decide) (by decide)
            have hKb := hK.trans hK3
            have hsz := hKb.size
            have HR3 := hide hR3
            clear hR3 hK3 hown hK HR HQ
            go_wp2_with (at_builtin; refine append_int rfl _ _ rfl q.1 hown3 (by omega) hsz rfl rfl ?_)
            intro v' w4 hown4 hgrow hblk
            have HR4 := hide (HR3.out.appended hown3 hgrow hblk.out)
            have hK4 := (hKb.alloc (.cells #[.int .i64 q.1] tyInt)).grownOwn hgrow (fun g hg => (hown3.lt g hg).1)
            clear hown3 hgrow hblk HR3 hKb
            go_wp2_with fail
            go_roundg m
            case rel => exact ⟨q.2.2, acc ++ [q.1], rl.1, by omega, by simp; omega, by simpa using hown4, hK4, HR4, HE⟩
            case measure => omega

theorem patterns_said (T : List (List UInt8)) (rb : Nat) (lv : Value) (e : Nat) : ∀ N, N ≤ 1000000 → SaidPattern T rb lv e N ∧ SaidApattern T rb lv e N := by
  intro N
  induction N using Nat.strongRecOn with
  | _ N ih =>
    intro hN
    exact ⟨pattern_any T rb lv e N hN (fun m hm => (ih m hm (by omega)).2), apattern_any T rb lv e N (fun m hm => (ih m hm (by omega)).1)⟩

end Go.Proofs.YtnocnkblhjifjaaGreatDoor
/-
  What the functions of the document's reader that read expressions are to do; (*kilnref.Reader).atoms by its contract.
-/
namespace Go.Proofs.YtnocnkblhjifjaaGreatDoor
open Go.RowKit

section
variable (T : List (List UInt8)) (rb : Nat) (lv : Value) (e : Nat)

def SaidExpr (n : Nat) : Prop := ∀ (X : Nat → Prop) (s s' : RS) (r : Nat) (w : World), bindingP.exprP T e n s = some (r, s') → Rd T rb lv e X s w → (∀ g, X g → g < w.heap.size) →
  Calls Tryz.prog 155 #[.pointer (some ⟨rb, 0, none⟩)] w fun e' w' => e' = .returned (.int .i64 r) ∧ Rd T rb lv e X s' w' ∧ Kp rb w w'

def SaidBinding (n : Nat) : Prop := ∀ (X : Nat → Prop) (s s' : RS) (is name : List UInt8) (r : Nat) (w : World), bindingP T e n s = some (is, name, r, s') → Rd T rb lv e X s w → (∀ g, X g → g < w.heap.size) →
  Calls Tryz.prog 156 #[.pointer (some ⟨rb, 0, none⟩)] w fun e' w' => e' = .returned (.tuple #[.string (bs is), .string (bs name), .int .i64 r]) ∧ Rd T rb lv e X s' w' ∧ Kp rb w w'

def SaidLevel (n : Nat) : Prop := ∀ (k : Nat) (X : Nat → Prop) (s s' : RS) (r : Nat) (w : World), k ≤ 3 → bindingP.levelP T e n k s = some (r, s') → Rd T rb lv e X s w → (∀ g, X g → g < w.heap.size) →
  Calls Tryz.prog 215 #[.pointer (some ⟨rb, 0, none⟩), .int .i64 k] w fun e' w' => e' = .returned (.int .i64 r) ∧ Rd T rb lv e X s' w' ∧ Kp rb w w'

def SaidApp (n : Nat) : Prop := ∀ (X : Nat → Prop) (s s' : RS) (r : Nat) (w : World), bindingP.appP T e n s = some (r, s') → Rd T rb lv e X s w → (∀ g, X g → g < w.heap.size) →
  Calls Tryz.prog 267 #[.pointer (some ⟨rb, 0, none⟩)] w fun e' w' => e' = .returned (.int .i64 r) ∧ Rd T rb lv e X s' w' ∧ Kp rb w w'

def SaidAtoms (n : Nat) : Prop := ∀ (X : Nat → Prop) (s s' : RS) (l : List Nat) (w : World), bindingP.atomsP T e n s = some (l, s') → Rd T rb lv e X s w → (∀ g, X g → g < w.heap.size) →
  Calls Tryz.prog 315 #[.pointer (some ⟨rb, 0, none⟩)] w fun e' w' => ∃ v, e' = .returned v ∧ l.length ≤ n ∧ w'.ownsRow w.heap.size tyInt 1 v l.length (l.map intV) ∧ Rd T rb lv e (also X v) s' w' ∧ Kp rb w w'

def SaidAtom (n : Nat) : Prop := ∀ (X : Nat → Prop) (s s' : RS) (r : Nat) (ok : Bool) (w : World), bindingP.atomP T e n s = some (r, ok, s') → Rd T rb lv e X s w → (∀ g, X g → g < w.heap.size) →
  Calls Tryz.prog 369 #[.pointer (some ⟨rb, 0, none⟩)] w fun e' w' => e' = .returned (.tuple #[.int .i64 r, .bool ok]) ∧ Rd T rb lv e X s' w' ∧ Kp rb w w'

def SaidMatch (n : Nat) : Prop := ∀ (X : Nat → Prop) (s s' : RS) (r : Nat) (w : World), bindingP.matchP T e n s = some (r, s') → s.mts < s.pos → Rd T rb lv e X s w → (∀ g, X g → g < w.heap.size) →
  Calls Tryz.prog 399 #[.pointer (some ⟨rb, 0, none⟩)] w fun e' w' => e' = .returned (.int .i64 r) ∧ Rd T rb lv e X s' w' ∧ Kp rb w w'
end

set_option maxHeartbeats 4000000 in
theorem atoms_any (T : List (List UInt8)) (rb : Nat) (lv : Value) (e : Nat) (N : Nat) (hN : N ≤ 1000000) (hA : ∀ m, m < N → SaidAtom T rb lv e m) : SaidAtoms T rb lv e N := by
  intro X s s' l w hm h hX
  have HR0 := hide (also_nil h)
  have HA := hide hA
  have HX := hide hX
  have HE0 : Hid (bindingP.atomsP T e N s = some (l, s') ∧ [] ++ l = l) := ⟨hm, rfl⟩
  clear h hA hX hm
  go_enter Tryz.func315, Tryz.ntmps315
  go_wp2_with fail
  go_loopg [3] N (fun gk v wr => ∃ (s1 : RS) (acc rest : List Nat), gk ≤ N ∧ acc.length + gk ≤ N ∧ wr.ownsRow w.heap.size tyInt 1 v acc.length (acc.map intV) ∧ Kp rb w wr ∧ Hid (Rd T rb lv e (also X v) s1 wr) ∧ Hid (bindingP.atomsP T e gk s1 = some (rest, s') ∧ acc ++ rest = l))
  case atStart => exact ⟨s, [], l, Nat.le_refl _, by simp, World.ownsRow_nil _ _ _ _, Kp.refl _ _, HR0, HE0⟩
  case round =>
    clear HR0 HE0
    obtain ⟨s1, acc, rest, hgk, hlen, hown, hK, HR, HE⟩ := hrel
    obtain ⟨hm, hacc⟩ := HE.out
    clear HE
    cases gk with
    | zero => simp [bindingP.atomsP] at hm
    | succ m =>
      rw [bindingP.atomsP] at hm
      obtain ⟨c0, c1, c2, c3, c5, cf⟩ := HR.out.cell
      cases hbad : s1.bad
      · rw [hbad, cond_false, Option.bind_eq_some_iff] at hm
        rw [hbad] at c3
        obtain ⟨q, hq, hm⟩ := hm
        have HQ := hide (fun (wx : World) (x : Rd T rb lv e (also X u3) s1 wx) y => HA.out m (by omega) (also X u3) s1 q.2.2 q.1 q.2.1 wx hq x y)
        clear hq hbad
        cases hok : q.2.1
        · rw [hok, cond_false] at hm
          simp only [Option.some.injEq, Prod.mk.injEq] at hm
          obtain ⟨rfl, hs2⟩ := hm
          rw [List.append_nil] at hacc
          rw [hok, hs2] at HQ
          subst hacc
          clear hok hs2
          go_wp2_with fail
          refine (HQ.out _ HR.out (also_lt HX.out hK.size hown)).mono ?_; rintro e' w3 ⟨rfl, hR3, hK3⟩
          have hown3 := HR.out.keep hK3 hown (by decide) (by decide)
          have HR3 := hide hR3
          have hK3' := hK.trans hK3
          clear hR3 hK3 c0 c1 c2 c3 c5 cf
          go_wp2_with fail
          go_ret
          exact ⟨_, rfl, by omega, hown3, HR3.out, hK3'⟩
        · rw [hok, cond_true, Option.bind_eq_some_iff] at hm
          obtain ⟨rl, hrl, hm⟩ := hm
          simp only [Option.some.injEq, Prod.mk.injEq] at hm
          obtain ⟨hrest, hs2⟩ := hm
          rw [hok] at HQ
          have HE : Hid (bindingP.atomsP T e m q.2.2 = some (rl.1, s') ∧ (acc ++ [q.1]) ++ rl.1 = l) := ⟨by rw [hrl, ← hs2], by rw [← hacc, ← hrest, List.append_assoc]; rfl⟩
          clear hok hrl hrest hs2 hacc
          go_wp2_with fail
          refine (HQ.out _ HR.out (also_lt HX.out hK.size hown)).mono ?_; rintro e' w3 ⟨rfl, hR3, hK3⟩
          have hown3 := HR.out.keep hK3 hown (by decide) (by decide)
          have hKb := hK.trans hK3
          have hsz := hKb.size
          have HR3 := hide hR3
          clear hR3 hK3 hown hK HR HQ c0 c1 c2 c3 c5 cf
          go_wp2_with (at_builtin; refine append_int rfl _ _ rfl q.1 hown3 (by omega) hsz rfl rfl ?_)
          intro v' w4 hown4 hgrow hblk
          have HR4 := hide (HR3.out.appended hown3 hgrow hblk.out)
          have hK4 := (hKb.alloc (.cells #[.int .i64 q.1] tyInt)).grownOwn hgrow (fun g hg => (hown3.lt g hg).1)
          clear hown3 hgrow hblk HR3 hKb
          go_wp2_with fail
          go_roundg m
          case rel => exact ⟨q.2.2, acc ++ [q.1], rl.1, by omega, by simp; omega, by simpa using hown4, hK4, HR4, HE⟩
          case measure => omega
      · rw [hbad, cond_true] at hm
        rw [hbad] at c3
        simp only [Option.some.injEq, Prod.mk.injEq] at hm
        obtain ⟨rfl, hs2⟩ := hm
        rw [List.append_nil] at hacc
        subst hacc
        rw [hs2] at HR
        clear hs2 hbad
        go_wp2_with fail
        go_ret
        exact ⟨_, rfl, by omega, hown, HR.out, hK⟩

end Go.Proofs.YtnocnkblhjifjaaGreatDoor
