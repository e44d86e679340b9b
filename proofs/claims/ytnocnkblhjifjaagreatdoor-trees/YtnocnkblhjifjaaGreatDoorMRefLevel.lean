import Derived.Test.YtnocnkblhjifjaaGreatDoorMRefAtom
import Derived.Test.YtnocnkblhjifjaaGreatDoorMRefSmall
/-
  (*kilnref.Reader).level by its contract.
-/
namespace Go.Proofs.YtnocnkblhjifjaaGreatDoor
open Go.RowKit

theorem inL_contains (l : List UInt8) (c : UInt8) : inL l c.toNat = l.contains c := by
  rw [Bool.eq_iff_iff]
  simp only [inL, List.any_eq_true, beq_iff_eq, List.contains_iff_mem]
  constructor
  · rintro ⟨x, hx, h⟩
    have : x = c := UInt8.toNat_inj.1 (by omega)
    rw [← this]; exact hx
  · intro h
    exact ⟨c, h, rfl⟩

theorem in_level0 (c : UInt8) (wx : World) : Calls Tryz.prog 147 #[.string ⟨#[61, 60]⟩, .int .u8 c.toNat] wx fun e w' => e = .returned (.bool ((signsAt 0).contains c)) ∧ w' = wx := by
  have h := in_any (⟨#[61, 60]⟩ : ByteArray) c.toNat wx (by unfold maxLen; decide)
  rw [inL_contains] at h
  exact h

theorem in_level1 (c : UInt8) (wx : World) : Calls Tryz.prog 147 #[.string ⟨#[43, 45]⟩, .int .u8 c.toNat] wx fun e w' => e = .returned (.bool ((signsAt 1).contains c)) ∧ w' = wx := by
  have h := in_any (⟨#[43, 45]⟩ : ByteArray) c.toNat wx (by unfold maxLen; decide)
  rw [inL_contains] at h
  exact h

theorem in_level2 (c : UInt8) (wx : World) : Calls Tryz.prog 147 #[.string ⟨#[42, 47]⟩, .int .u8 c.toNat] wx fun e w' => e = .returned (.bool ((signsAt 2).contains c)) ∧ w' = wx := by
  have h := in_any (⟨#[42, 47]⟩ : ByteArray) c.toNat wx (by unfold maxLen; decide)
  rw [inL_contains] at h
  exact h

theorem level_idx0 (w : World) : (Instr.index 346 (.agg #[.string ⟨#[61, 60]⟩, .string ⟨#[43, 45]⟩, .string ⟨#[42, 47]⟩]) (.int .i64 0)).run Tryz.prog w = .ok (.string ⟨#[61, 60]⟩) w := by kernel_rfl
theorem level_idx1 (w : World) : (Instr.index 346 (.agg #[.string ⟨#[61, 60]⟩, .string ⟨#[43, 45]⟩, .string ⟨#[42, 47]⟩]) (.int .i64 1)).run Tryz.prog w = .ok (.string ⟨#[43, 45]⟩) w := by kernel_rfl
theorem level_idx2 (w : World) : (Instr.index 346 (.agg #[.string ⟨#[61, 60]⟩, .string ⟨#[43, 45]⟩, .string ⟨#[42, 47]⟩]) (.int .i64 2)).run Tryz.prog w = .ok (.string ⟨#[42, 47]⟩) w := by kernel_rfl

set_option maxRecDepth 100000 in
set_option maxHeartbeats 8000000 in
theorem level_any (T : List (List UInt8)) (rb : Nat) (lv : Value) (e : Nat) (N : Nat) (hA : ∀ m, m < N → SaidApp T rb lv e m) (hL : ∀ m, m < N → SaidLevel T rb lv e m) : SaidLevel T rb lv e N := by
  intro k X s s' rr w hk hm h hX
  cases N with
  | zero => simp [bindingP.levelP] at hm
  | succ n =>
    rw [bindingP.levelP] at hm
    have htl := h.t_le
    have hel := h.e_le
    have HX := hide hX
    have HR0 := hide h
    have HL := hide hL
    have HAA := hide hA
    clear h hX hL hA
    rcases (show k = 0 ∨ k = 1 ∨ k = 2 ∨ k = 3 by omega) with rfl | rfl | rfl | rfl
    · rw [if_neg (by decide), Option.bind_eq_some_iff] at hm
      obtain ⟨a, ha, hm⟩ := hm
      simp only [Nat.zero_add] at ha
      have HA : Hid (∀ wx : World, Rd T rb lv e X s wx → (∀ g, X g → g < wx.heap.size) → Calls Tryz.prog 215 #[.pointer (some ⟨rb, 0, none⟩), .int .i64 1] wx fun e' w' => e' = .returned (.int .i64 a.1) ∧ Rd T rb lv e X a.2 w' ∧ Kp rb wx w') := fun wx x y => HL.out n (by omega) 1 X s a.2 a.1 wx (by omega) ha x y
      have HE0 : Hid (bindingP.levelsP T e n 0 a.1 a.2 = some (rr, s')) := hm
      have hin := in_level0
      have HIN := hide hin
      clear ha hm hin
      have hidx := level_idx0
      go_enter Tryz.func215, Tryz.ntmps215
      go_wp2_with fail
      refine (HA.out _ HR0.out HX.out).mono ?_; rintro e' w0 ⟨rfl, hR0, hK0⟩
      have HRa := hide hR0
      clear hR0 HR0 HA
      go_wp2_with fail
      go_loopg [6] n (fun gk av wr => ∃ (ac : Nat) (sc : RS), gk ≤ n ∧ av = .int .i64 ac ∧ Kp rb w wr ∧ Hid (Rd T rb lv e X sc wr) ∧ Hid (bindingP.levelsP T e gk 0 ac sc = some (rr, s')))
      case atStart => exact ⟨a.1, a.2, Nat.le_refl _, rfl, hK0, HRa, HE0⟩
      case round =>
        clear HE0 HRa hK0
        obtain ⟨ac, sc, hgk, rfl, hK, HR, HE⟩ := hrel
        have hm := HE.out
        clear HE
        cases gk with
        | zero => simp [bindingP.levelsP] at hm
        | succ m =>
          rw [bindingP.levelsP] at hm
          have hc := see_any HR.out
          have hsl := HR.out.seeLen
          cases k1 : isKind T e 119 sc
          · rw [k1] at hm
            simp only [Bool.false_and, cond_false, Option.some.injEq, Prod.mk.injEq] at hm
            obtain ⟨rfl, rfl⟩ := hm
            have hk1 : (tokKind (see T e sc) != 119) = true := by simpa [isKind, bne] using k1
            clear k1
            generalize tokKind (see T e sc) = kd at *
            generalize bs (see T e sc) = tx at *
            have HC := hide hc
            clear hc
            go_wp2_with fail
            refine (HC.out).mono ?_; rintro e' w1 ⟨rfl, hb1⟩
            have HR1 := hide (HR.out.below hb1)
            have hK1 := hK.trans (Kp.of_below hb1)
            clear HR
            go_wp2_with fail
            go_ret
            exact ⟨rfl, HR1.out.alloc _, hK1.alloc _⟩
          · have hk1 : (tokKind (see T e sc) != 119) = false := by simpa [isKind, bne] using k1
            have hpos := see_pos (T := T) (e := e) (s := sc) (by decide) (show tokKind (see T e sc) = 119 by simpa [isKind] using k1)
            rw [k1, Bool.true_and] at hm
            by_cases hl1 : (see T e sc).length = 1
            · obtain ⟨c, hcs⟩ := List.length_eq_one_iff.1 hl1
              rw [hcs] at hm hc hk1
              rw [show bs [c] = ⟨#[c]⟩ from rfl] at hc
              clear k1 hl1 hsl
              generalize tokKind [c] = kd at *
              cases hin : (signsAt 0).contains c
              · simp only [List.length_cons, List.length_nil, List.getD_cons_zero, hin, Nat.zero_add, beq_self_eq_true, Bool.true_and, cond_false, Option.some.injEq, Prod.mk.injEq] at hm
                obtain ⟨rfl, rfl⟩ := hm
                have hib := HIN.out c
                rw [hin] at hib
                have HIB := hide hib
                have HC := hide hc
                clear hc hib hin
                go_wp2_with fail
                refine (HC.out).mono ?_; rintro e' w1 ⟨rfl, hb1⟩
                have HR1 := hide (HR.out.below hb1)
                have hK1 := hK.trans (Kp.of_below hb1)
                clear HR
                go_wp2_with fail
                refine (HIB.out _).mono ?_; rintro e' w' ⟨rfl, hw'⟩; subst w'
                go_wp2_with fail
                go_ret
                exact ⟨rfl, HR1.out.alloc _, hK1.alloc _⟩
              · simp only [List.length_cons, List.length_nil, List.getD_cons_zero, hin, Nat.zero_add, beq_self_eq_true, Bool.true_and, cond_true, Option.bind_eq_some_iff] at hm
                obtain ⟨b, hb, q, hq, hm⟩ := hm
                have hib := HIN.out c
                rw [hin] at hib
                have HIB := hide hib
                have HC := hide hc
                have HB : Hid (∀ wx : World, Rd T rb lv e X (adv sc) wx → (∀ g, X g → g < wx.heap.size) → Calls Tryz.prog 215 #[.pointer (some ⟨rb, 0, none⟩), .int .i64 1] wx fun e' w' => e' = .returned (.int .i64 b.1) ∧ Rd T rb lv e X b.2 w' ∧ Kp rb wx w') := fun wx x y => HL.out m (by omega) 1 X (adv sc) b.2 b.1 wx (by omega) hb x y
                have hna := fun (pv : Value) (wx : World) (x : Rd T rb lv e X b.2 wx) y z => node_any (pv := pv) (w := wx) hq x y z
                rw [show bs [c] = ⟨#[c]⟩ from rfl, bsK_nil] at hna
                have HNA := hide hna
                have HM := hide hm
                clear hc hib hin hb hq hna hm
                go_wp2_with fail
                refine (HC.out).mono ?_; rintro e' w1 ⟨rfl, hb1⟩
                have hR1 := HR.out.below hb1
                have hz := hR1.lt
                obtain ⟨c0, c1, c2, c3, c5, cf⟩ := hR1.cell
                have HR1 := hide ((hR1.setPos hpos.1).alloc (.cells #[.int .u8 kd, .string ⟨#[c]⟩] tyToken))
                have hK1 := ((hK.trans (Kp.of_below hb1)).setR 1 (.int .i64 (sc.pos + 1))).alloc (.cells #[.int .u8 kd, .string ⟨#[c]⟩] tyToken)
                clear hR1 HR hK
                go_wp2_with fail
                refine (HIB.out _).mono ?_; rintro e' w' ⟨rfl, hw'⟩; subst w'
                go_wp2_with fail
                refine (HB.out _ HR1.out (later HX.out hK1.size)).mono ?_; rintro e' w2 ⟨rfl, hR2, hK2⟩
                have hK2' := hK1.trans hK2
                have htok := hK2.tok (n := w1.heap.size) (by simp [World.setCell]) (by simpa [World.setCell] using hz) (by decide) 1
                simp only [List.getElem?_toArray, List.getElem?_cons_succ, List.getElem?_cons_zero] at htok
                have HR2 := hide hR2
                clear hR2 hK2 c0 c1 c2 c3 c5 cf HR1 hK1 hb1
                go_wp2_with fail
                refine (HNA.out _ _ (HR2.out.alloc _) (lit2 w2 ac b.1) (fresh HX.out hK2'.size)).mono ?_; rintro e' w3 ⟨rfl, hR3, hK3⟩
                have HR3 := hide hR3
                have hK3' := (hK2'.alloc _).trans hK3
                clear hR3 hK3 htok HR2
                go_wp2_with fail
                have hfin : q = (rr, s') := Option.some.inj (by have := HM.out; rw [if_pos trivial] at this; exact this)
                subst hfin
                go_ret
                exact ⟨rfl, HR3.out, hK3'⟩
            · have hl2 : ((see T e sc).length == 1) = false := by simpa using hl1
              rw [hl2] at hm
              simp only [Bool.false_and, cond_false, Option.some.injEq, Prod.mk.injEq] at hm
              obtain ⟨rfl, rfl⟩ := hm
              have hlb : (((bs (see T e sc)).size : Int) != 1) = true := by
                have : (bs (see T e sc)).size = (see T e sc).length := by show (see T e sc).toArray.size = _; simp
                rw [this]; simp; omega
              clear k1 hl1 hl2 hsl
              generalize tokKind (see T e sc) = kd at *
              generalize bs (see T e sc) = tx at *
              have HC := hide hc
              clear hc
              go_wp2_with fail
              refine (HC.out).mono ?_; rintro e' w1 ⟨rfl, hb1⟩
              have HR1 := hide (HR.out.below hb1)
              have hK1 := hK.trans (Kp.of_below hb1)
              clear HR
              go_wp2_with fail
              go_ret
              exact ⟨rfl, HR1.out.alloc _, hK1.alloc _⟩
    · rw [if_neg (by decide), Option.bind_eq_some_iff] at hm
      obtain ⟨a, ha, hm⟩ := hm
      simp only [Nat.reduceAdd] at ha
      have HA : Hid (∀ wx : World, Rd T rb lv e X s wx → (∀ g, X g → g < wx.heap.size) → Calls Tryz.prog 215 #[.pointer (some ⟨rb, 0, none⟩), .int .i64 2] wx fun e' w' => e' = .returned (.int .i64 a.1) ∧ Rd T rb lv e X a.2 w' ∧ Kp rb wx w') := fun wx x y => HL.out n (by omega) 2 X s a.2 a.1 wx (by omega) ha x y
      have HE0 : Hid (bindingP.levelsP T e n 1 a.1 a.2 = some (rr, s')) := hm
      have hin := in_level1
      have HIN := hide hin
      clear ha hm hin
      have hidx := level_idx1
      go_enter Tryz.func215, Tryz.ntmps215
      go_wp2_with fail
      refine (HA.out _ HR0.out HX.out).mono ?_; rintro e' w0 ⟨rfl, hR0, hK0⟩
      have HRa := hide hR0
      clear hR0 HR0 HA
      go_wp2_with fail
      go_loopg [6] n (fun gk av wr => ∃ (ac : Nat) (sc : RS), gk ≤ n ∧ av = .int .i64 ac ∧ Kp rb w wr ∧ Hid (Rd T rb lv e X sc wr) ∧ Hid (bindingP.levelsP T e gk 1 ac sc = some (rr, s')))
      case atStart => exact ⟨a.1, a.2, Nat.le_refl _, rfl, hK0, HRa, HE0⟩
      case round =>
        clear HE0 HRa hK0
        obtain ⟨ac, sc, hgk, rfl, hK, HR, HE⟩ := hrel
        have hm := HE.out
        clear HE
        cases gk with
        | zero => simp [bindingP.levelsP] at hm
        | succ m =>
          rw [bindingP.levelsP] at hm
          have hc := see_any HR.out
          have hsl := HR.out.seeLen
          cases k1 : isKind T e 119 sc
          · rw [k1] at hm
            simp only [Bool.false_and, cond_false, Option.some.injEq, Prod.mk.injEq] at hm
            obtain ⟨rfl, rfl⟩ := hm
            have hk1 : (tokKind (see T e sc) != 119) = true := by simpa [isKind, bne] using k1
            clear k1
            generalize tokKind (see T e sc) = kd at *
            generalize bs (see T e sc) = tx at *
            have HC := hide hc
            clear hc
            go_wp2_with fail
            refine (HC.out).mono ?_; rintro e' w1 ⟨rfl, hb1⟩
            have HR1 := hide (HR.out.below hb1)
            have hK1 := hK.trans (Kp.of_below hb1)
            clear HR
            go_wp2_with fail
            go_ret
            exact ⟨rfl, HR1.out.alloc _, hK1.alloc _⟩
          · have hk1 : (tokKind (see T e sc) != 119) = false := by simpa [isKind, bne] using k1
            have hpos := see_pos (T := T) (e := e) (s := sc) (by decide) (show tokKind (see T e sc) = 119 by simpa [isKind] using k1)
            rw [k1, Bool.true_and] at hm
            by_cases hl1 : (see T e sc).length = 1
            · obtain ⟨c, hcs⟩ := List.length_eq_one_iff.1 hl1
              rw [hcs] at hm hc hk1
              rw [show bs [c] = ⟨#[c]⟩ from rfl] at hc
              clear k1 hl1 hsl
              generalize tokKind [c] = kd at *
              cases hin : (signsAt 1).contains c
              · simp only [List.length_cons, List.length_nil, List.getD_cons_zero, hin, Nat.zero_add, beq_self_eq_true, Bool.true_and, cond_false, Option.some.injEq, Prod.mk.injEq] at hm
                obtain ⟨rfl, rfl⟩ := hm
                have hib := HIN.out c
                rw [hin] at hib
                have HIB := hide hib
                have HC := hide hc
                clear hc hib hin
                go_wp2_with fail
                refine (HC.out).mono ?_; rintro e' w1 ⟨rfl, hb1⟩
                have HR1 := hide (HR.out.below hb1)
                have hK1 := hK.trans (Kp.of_below hb1)
                clear HR
                go_wp2_with fail
                refine (HIB.out _).mono ?_; rintro e' w' ⟨rfl, hw'⟩; subst w'
                go_wp2_with fail
                go_ret
                exact ⟨rfl, HR1.out.alloc _, hK1.alloc _⟩
              · simp only [List.length_cons, List.length_nil, List.getD_cons_zero, hin, Nat.zero_add, beq_self_eq_true, Bool.true_and, cond_true, Option.bind_eq_some_iff] at hm
                obtain ⟨b, hb, q, hq, hm⟩ := hm
                have hib := HIN.out c
                rw [hin] at hib
                have HIB := hide hib
                have HC := hide hc
                have HB : Hid (∀ wx : World, Rd T rb lv e X (adv sc) wx → (∀ g, X g → g < wx.heap.size) → Calls Tryz.prog 215 #[.pointer (some ⟨rb, 0, none⟩), .int .i64 2] wx fun e' w' => e' = .returned (.int .i64 b.1) ∧ Rd T rb lv e X b.2 w' ∧ Kp rb wx w') := fun wx x y => HL.out m (by omega) 2 X (adv sc) b.2 b.1 wx (by omega) hb x y
                have hna := fun (pv : Value) (wx : World) (x : Rd T rb lv e X b.2 wx) y z => node_any (pv := pv) (w := wx) hq x y z
                rw [show bs [c] = ⟨#[c]⟩ from rfl, bsK_nil] at hna
                have HNA := hide hna
                have HM := hide hm
                clear hc hib hin hb hq hna hm
                go_wp2_with fail
                refine (HC.out).mono ?_; rintro e' w1 ⟨rfl, hb1⟩
                have hR1 := HR.out.below hb1
                have hz := hR1.lt
                obtain ⟨c0, c1, c2, c3, c5, cf⟩ := hR1.cell
                have HR1 := hide ((hR1.setPos hpos.1).alloc (.cells #[.int .u8 kd, .string ⟨#[c]⟩] tyToken))
                have hK1 := ((hK.trans (Kp.of_below hb1)).setR 1 (.int .i64 (sc.pos + 1))).alloc (.cells #[.int .u8 kd, .string ⟨#[c]⟩] tyToken)
                clear hR1 HR hK
                go_wp2_with fail
                refine (HIB.out _).mono ?_; rintro e' w' ⟨rfl, hw'⟩; subst w'
                go_wp2_with fail
                refine (HB.out _ HR1.out (later HX.out hK1.size)).mono ?_; rintro e' w2 ⟨rfl, hR2, hK2⟩
                have hK2' := hK1.trans hK2
                have htok := hK2.tok (n := w1.heap.size) (by simp [World.setCell]) (by simpa [World.setCell] using hz) (by decide) 1
                simp only [List.getElem?_toArray, List.getElem?_cons_succ, List.getElem?_cons_zero] at htok
                have HR2 := hide hR2
                clear hR2 hK2 c0 c1 c2 c3 c5 cf HR1 hK1 hb1
                go_wp2_with fail
                refine (HNA.out _ _ (HR2.out.alloc _) (lit2 w2 ac b.1) (fresh HX.out hK2'.size)).mono ?_; rintro e' w3 ⟨rfl, hR3, hK3⟩
                have HR3 := hide hR3
                have hK3' := (hK2'.alloc _).trans hK3
                clear hR3 hK3 htok HR2
                go_wp2_with fail
                have HE : Hid (bindingP.levelsP T e m 1 q.1 q.2 = some (rr, s')) := by have := HM.out; rw [if_neg (by decide)] at this; exact this
                go_roundg m
                case rel => exact ⟨q.1, q.2, by omega, rfl, hK3', HR3, HE⟩
                case measure => omega
            · have hl2 : ((see T e sc).length == 1) = false := by simpa using hl1
              rw [hl2] at hm
              simp only [Bool.false_and, cond_false, Option.some.injEq, Prod.mk.injEq] at hm
              obtain ⟨rfl, rfl⟩ := hm
              have hlb : (((bs (see T e sc)).size : Int) != 1) = true := by
                have : (bs (see T e sc)).size = (see T e sc).length := by show (see T e sc).toArray.size = _; simp
                rw [this]; simp; omega
              clear k1 hl1 hl2 hsl
              generalize tokKind (see T e sc) = kd at *
              generalize bs (see T e sc) = tx at *
              have HC := hide hc
              clear hc
              go_wp2_with fail
              refine (HC.out).mono ?_; rintro e' w1 ⟨rfl, hb1⟩
              have HR1 := hide (HR.out.below hb1)
              have hK1 := hK.trans (Kp.of_below hb1)
              clear HR
              go_wp2_with fail
              go_ret
              exact ⟨rfl, HR1.out.alloc _, hK1.alloc _⟩
    · rw [if_neg (by decide), Option.bind_eq_some_iff] at hm
      obtain ⟨a, ha, hm⟩ := hm
      simp only [Nat.reduceAdd] at ha
      have HA : Hid (∀ wx : World, Rd T rb lv e X s wx → (∀ g, X g → g < wx.heap.size) → Calls Tryz.prog 215 #[.pointer (some ⟨rb, 0, none⟩), .int .i64 3] wx fun e' w' => e' = .returned (.int .i64 a.1) ∧ Rd T rb lv e X a.2 w' ∧ Kp rb wx w') := fun wx x y => HL.out n (by omega) 3 X s a.2 a.1 wx (by omega) ha x y
      have HE0 : Hid (bindingP.levelsP T e n 2 a.1 a.2 = some (rr, s')) := hm
      have hin := in_level2
      have HIN := hide hin
      clear ha hm hin
      have hidx := level_idx2
      go_enter Tryz.func215, Tryz.ntmps215
      go_wp2_with fail
      refine (HA.out _ HR0.out HX.out).mono ?_; rintro e' w0 ⟨rfl, hR0, hK0⟩
      have HRa := hide hR0
      clear hR0 HR0 HA
      go_wp2_with fail
      go_loopg [6] n (fun gk av wr => ∃ (ac : Nat) (sc : RS), gk ≤ n ∧ av = .int .i64 ac ∧ Kp rb w wr ∧ Hid (Rd T rb lv e X sc wr) ∧ Hid (bindingP.levelsP T e gk 2 ac sc = some (rr, s')))
      case atStart => exact ⟨a.1, a.2, Nat.le_refl _, rfl, hK0, HRa, HE0⟩
      case round =>
        clear HE0 HRa hK0
        obtain ⟨ac, sc, hgk, rfl, hK, HR, HE⟩ := hrel
        have hm := HE.out
        clear HE
        cases gk with
        | zero => simp [bindingP.levelsP] at hm
        | succ m =>
          rw [bindingP.levelsP] at hm
          have hc := see_any HR.out
          have hsl := HR.out.seeLen
          cases k1 : isKind T e 119 sc
          · rw [k1] at hm
            simp only [Bool.false_and, cond_false, Option.some.injEq, Prod.mk.injEq] at hm
            obtain ⟨rfl, rfl⟩ := hm
            have hk1 : (tokKind (see T e sc) != 119) = true := by simpa [isKind, bne] using k1
            clear k1
            generalize tokKind (see T e sc) = kd at *
            generalize bs (see T e sc) = tx at *
            have HC := hide hc
            clear hc
            go_wp2_with fail
            refine (HC.out).mono ?_; rintro e' w1 ⟨rfl, hb1⟩
            have HR1 := hide (HR.out.below hb1)
            have hK1 := hK.trans (Kp.of_below hb1)
            clear HR
            go_wp2_with fail
            go_ret
            exact ⟨rfl, HR1.out.alloc _, hK1.alloc _⟩
          · have hk1 : (tokKind (see T e sc) != 119) = false := by simpa [isKind, bne] using k1
            have hpos := see_pos (T := T) (e := e) (s := sc) (by decide) (show tokKind (see T e sc) = 119 by simpa [isKind] using k1)
            rw [k1, Bool.true_and] at hm
            by_cases hl1 : (see T e sc).length = 1
            · obtain ⟨c, hcs⟩ := List.length_eq_one_iff.1 hl1
              rw [hcs] at hm hc hk1
              rw [show bs [c] = ⟨#[c]⟩ from rfl] at hc
              clear k1 hl1 hsl
              generalize tokKind [c] = kd at *
              cases hin : (signsAt 2).contains c
              · simp only [List.length_cons, List.length_nil, List.getD_cons_zero, hin, Nat.zero_add, beq_self_eq_true, Bool.true_and, cond_false, Option.some.injEq, Prod.mk.injEq] at hm
                obtain ⟨rfl, rfl⟩ := hm
                have hib := HIN.out c
                rw [hin] at hib
                have HIB := hide hib
                have HC := hide hc
                clear hc hib hin
                go_wp2_with fail
                refine (HC.out).mono ?_; rintro e' w1 ⟨rfl, hb1⟩
                have HR1 := hide (HR.out.below hb1)
                have hK1 := hK.trans (Kp.of_below hb1)
                clear HR
                go_wp2_with fail
                refine (HIB.out _).mono ?_; rintro e' w' ⟨rfl, hw'⟩; subst w'
                go_wp2_with fail
                go_ret
                exact ⟨rfl, HR1.out.alloc _, hK1.alloc _⟩
              · simp only [List.length_cons, List.length_nil, List.getD_cons_zero, hin, Nat.zero_add, beq_self_eq_true, Bool.true_and, cond_true, Option.bind_eq_some_iff] at hm
                obtain ⟨b, hb, q, hq, hm⟩ := hm
                have hib := HIN.out c
                rw [hin] at hib
                have HIB := hide hib
                have HC := hide hc
                have HB : Hid (∀ wx : World, Rd T rb lv e X (adv sc) wx → (∀ g, X g → g < wx.heap.size) → Calls Tryz.prog 215 #[.pointer (some ⟨rb, 0, none⟩), .int .i64 3] wx fun e' w' => e' = .returned (.int .i64 b.1) ∧ Rd T rb lv e X b.2 w' ∧ Kp rb wx w') := fun wx x y => HL.out m (by omega) 3 X (adv sc) b.2 b.1 wx (by omega) hb x y
                have hna := fun (pv : Value) (wx : World) (x : Rd T rb lv e X b.2 wx) y z => node_any (pv := pv) (w := wx) hq x y z
                rw [show bs [c] = ⟨#[c]⟩ from rfl, bsK_nil] at hna
                have HNA := hide hna
                have HM := hide hm
                clear hc hib hin hb hq hna hm
                go_wp2_with fail
                refine (HC.out).mono ?_; rintro e' w1 ⟨rfl, hb1⟩
                have hR1 := HR.out.below hb1
                have hz := hR1.lt
                obtain ⟨c0, c1, c2, c3, c5, cf⟩ := hR1.cell
                have HR1 := hide ((hR1.setPos hpos.1).alloc (.cells #[.int .u8 kd, .string ⟨#[c]⟩] tyToken))
                have hK1 := ((hK.trans (Kp.of_below hb1)).setR 1 (.int .i64 (sc.pos + 1))).alloc (.cells #[.int .u8 kd, .string ⟨#[c]⟩] tyToken)
                clear hR1 HR hK
                go_wp2_with fail
                refine (HIB.out _).mono ?_; rintro e' w' ⟨rfl, hw'⟩; subst w'
                go_wp2_with fail
                refine (HB.out _ HR1.out (later HX.out hK1.size)).mono ?_; rintro e' w2 ⟨rfl, hR2, hK2⟩
                have hK2' := hK1.trans hK2
                have htok := hK2.tok (n := w1.heap.size) (by simp [World.setCell]) (by simpa [World.setCell] using hz) (by decide) 1
                simp only [List.getElem?_toArray, List.getElem?_cons_succ, List.getElem?_cons_zero] at htok
                have HR2 := hide hR2
                clear hR2 hK2 c0 c1 c2 c3 c5 cf HR1 hK1 hb1
                go_wp2_with fail
                refine (HNA.out _ _ (HR2.out.alloc _) (lit2 w2 ac b.1) (fresh HX.out hK2'.size)).mono ?_; rintro e' w3 ⟨rfl, hR3, hK3⟩
                have HR3 := hide hR3
                have hK3' := (hK2'.alloc _).trans hK3
                clear hR3 hK3 htok HR2
                go_wp2_with fail
                have HE : Hid (bindingP.levelsP T e m 2 q.1 q.2 = some (rr, s')) := by have := HM.out; rw [if_neg (by decide)] at this; exact this
                go_roundg m
                case rel => exact ⟨q.1, q.2, by omega, rfl, hK3', HR3, HE⟩
                case measure => omega
            · have hl2 : ((see T e sc).length == 1) = false := by simpa using hl1
              rw [hl2] at hm
              simp only [Bool.false_and, cond_false, Option.some.injEq, Prod.mk.injEq] at hm
              obtain ⟨rfl, rfl⟩ := hm
              have hlb : (((bs (see T e sc)).size : Int) != 1) = true := by
                have : (bs (see T e sc)).size = (see T e sc).length := by show (see T e sc).toArray.size = _; simp
                rw [this]; simp; omega
              clear k1 hl1 hl2 hsl
              generalize tokKind (see T e sc) = kd at *
              generalize bs (see T e sc) = tx at *
              have HC := hide hc
              clear hc
              go_wp2_with fail
              refine (HC.out).mono ?_; rintro e' w1 ⟨rfl, hb1⟩
              have HR1 := hide (HR.out.below hb1)
              have hK1 := hK.trans (Kp.of_below hb1)
              clear HR
              go_wp2_with fail
              go_ret
              exact ⟨rfl, HR1.out.alloc _, hK1.alloc _⟩
    · rw [if_pos rfl] at hm
      have HA := hide (fun (wx : World) (x : Rd T rb lv e X s wx) y => HAA.out n (by omega) X s s' rr wx hm x y)
      clear hm
      go_enter Tryz.func215, Tryz.ntmps215
      go_wp2_with fail
      refine (HA.out _ HR0.out HX.out).mono ?_; rintro e' w0 ⟨rfl, hR0, hK0⟩
      have HR1 := hide hR0
      clear hR0
      go_wp2_with fail
      go_ret
      exact ⟨rfl, HR1.out, hK0⟩

end Go.Proofs.YtnocnkblhjifjaaGreatDoor
/-
  (*kilnref.Reader).binding by its contract.
-/
namespace Go.Proofs.YtnocnkblhjifjaaGreatDoor
open Go.RowKit

theorem everyF_len (T : List (List UInt8)) (e : Nat) (k : Int) : ∀ (n : Nat) (s : RS), (everyF T e k n s).1.length ≤ n := by
  intro n
  induction n with
  | zero => intro s; simp [everyF]
  | succ n ih =>
    intro s
    rw [everyF]
    cases isKind T e k s
    · simp
    · have := ih (adv s)
      simp; omega

theorem every_len (T : List (List UInt8)) (e : Nat) (k : Int) (s : RS) : (everyP T e k s).1.length ≤ e := by
  have := everyF_len T e k (e - s.pos) s
  unfold everyP; omega

set_option maxRecDepth 100000 in
set_option maxHeartbeats 4000000 in
theorem binding_any (T : List (List UInt8)) (rb : Nat) (lv : Value) (e : Nat) (N : Nat) (hE : ∀ m, m < N → SaidExpr T rb lv e m) : SaidBinding T rb lv e N := by
  intro X s s' is name r w hm h hX
  cases N with
  | zero => simp [bindingP] at hm
  | succ n =>
    rw [bindingP] at hm
    have htl := h.t_le
    have hel := h.e_le
    have HX := hide hX
    have HR0 := hide h
    have HEE := hide hE
    clear h hX hE
    cases k1 : isSign T e K.rec_ s
    · rw [k1] at hm
      simp only [cond_false, Bool.false_and, Option.bind_eq_some_iff, Option.some.injEq, Prod.mk.injEq] at hm
      obtain ⟨x, hx, f, hf, rfl, rfl, rfl, rfl⟩ := hm
      have hs := fun (wx : World) (q : Rd T rb lv e X s wx) => sign_no k1 q
      rw [bsK_rec] at hs
      have HS := hide hs
      have HKD := hide (fun (wx : World) (q : Rd T rb lv e X s wx) => kind_any 110 (by decide) q)
      have HEV := hide (fun (wx : World) (q : Rd T rb lv e X (kindS T e 110 s) wx) => every_any 110 (by decide) q)
      have hw := fun (wx : World) (q : Rd T rb lv e X (everyP T e 110 (kindS T e 110 s)).2 wx) => want_any K.eq_ q
      rw [bsK_eq] at hw
      have HW := hide hw
      have HEX := hide (fun (wx : World) (q : Rd T rb lv e X (want T e K.eq_ (everyP T e 110 (kindS T e 110 s)).2) wx) y => HEE.out n (by omega) X _ x.2 x.1 wx hx q y)
      have hlen := every_len T e 110 (kindS T e 110 s)
      have HCU := hide (fun (b0 : Nat) (nv : Value) (wx : World) (q : Rd T rb lv e X x.2 wx) y z => curried_any (b0 := b0) (nv := nv) (w := wx) hf (by omega) q y z)
      clear hs hw hx hf k1
      rw [bsK_let]
      generalize bs (kindT T e 110 s) = bn at *
      generalize (everyP T e 110 (kindS T e 110 s)).1 = names at *
      generalize (everyP T e 110 (kindS T e 110 s)).2 = sv at *
      generalize kindS T e 110 s = sk at *
      generalize want T e K.eq_ sv = sw at *
      go_enter Tryz.func156, Tryz.ntmps156
      go_wp2_with fail
      refine (HS.out _ HR0.out).mono ?_; rintro e' w1 ⟨rfl, hR1, hL1⟩
      have HR1 := hide hR1
      clear hR1
      go_wp2_with fail
      refine (HKD.out _ HR1.out).mono ?_; rintro e' w2 ⟨rfl, hR2, hK2⟩
      have HR2 := hide hR2
      have hL2 := hL1.trans hK2
      clear hR2 hK2
      go_wp2_with fail
      refine (HEV.out _ HR2.out).mono ?_; rintro e' w3 ⟨v, rfl, hown, hR3, hK3⟩
      have hL3 := hL2.trans hK3
      obtain ⟨c0, c1, c2, c3, c5, cf⟩ := hR3.cell
      have HR3 := hide hR3
      have HOWN := hide hown
      clear hR3 hK3
      clear c0 c1 c2 c3 c5 cf hown
      go_wp2_with fail
      refine (HW.out _ HR3.out).mono ?_; rintro e' w5 ⟨rfl, hR5, hK5⟩
      have HR5 := hide hR5
      have hL5 := hL3.trans hK5
      have HO5 := hide (HR3.out.keep hK5 HOWN.out (by decide) (by decide))
      clear hR5 hK5
      go_wp2_with fail
      refine (HEX.out _ HR5.out (later HX.out hL5.size)).mono ?_; rintro e' w6 ⟨rfl, hR6, hK6⟩
      have HR6 := hide hR6
      have hL6 := hL5.trans hK6
      have HO6 := hide (HR5.out.keep hK6 HO5.out (by decide) (by decide))
      clear hR6 hK6
      go_wp2_with fail
      refine (HCU.out _ _ _ HR6.out (later HX.out hL6.size) HO6.out).mono ?_; rintro e' w7 ⟨rfl, hR7, hK7⟩
      have HR7 := hide hR7
      have hL7 := hL6.trans hK7
      clear hR7 hK7
      go_wp2_with fail
      go_ret3
      exact ⟨rfl, HR7.out, hL7⟩
    · rw [k1] at hm
      simp only [cond_true, Bool.true_and, Option.bind_eq_some_iff, Option.some.injEq, Prod.mk.injEq] at hm
      obtain ⟨x, hx, f, hf, rfl, rfl, rfl, rfl⟩ := hm
      have hs := fun (wx : World) (q : Rd T rb lv e X s wx) => sign_yes k1 q
      rw [bsK_rec] at hs
      have HS := hide hs
      have HKD := hide (fun (wx : World) (q : Rd T rb lv e X (adv s) wx) => kind_any 110 (by decide) q)
      have HEV := hide (fun (wx : World) (q : Rd T rb lv e X (kindS T e 110 (adv s)) wx) => every_any 110 (by decide) q)
      have hlen := every_len T e 110 (kindS T e 110 (adv s))
      have HCU := hide (fun (b0 : Nat) (nv : Value) (wx : World) (q : Rd T rb lv e X x.2 wx) y z => curried_any (b0 := b0) (nv := nv) (w := wx) hf (by omega) q y z)
      clear hs hf k1
      rw [bsK_rec]
      generalize bs (kindT T e 110 (adv s)) = bn at *
      generalize (everyP T e 110 (kindS T e 110 (adv s))).1 = names at *
      generalize (everyP T e 110 (kindS T e 110 (adv s))).2 = sv at *
      generalize kindS T e 110 (adv s) = sk at *
      cases names with
      | nil =>
        simp only [List.isEmpty_nil, cond_true] at hx
        have hw := fun (wx : World) (q : Rd T rb lv e X (spoil sv) wx) => want_any K.eq_ q
        rw [bsK_eq] at hw
        have HW := hide hw
        have HEX := hide (fun (wx : World) (q : Rd T rb lv e X (want T e K.eq_ (spoil sv)) wx) y => HEE.out n (by omega) X _ x.2 x.1 wx hx q y)
        clear hw hx
        generalize want T e K.eq_ (spoil sv) = sw at *
        go_enter Tryz.func156, Tryz.ntmps156
        go_wp2_with fail
        refine (HS.out _ HR0.out).mono ?_; rintro e' w1 ⟨rfl, hR1, hL1⟩
        have HR1 := hide hR1
        clear hR1
        go_wp2_with fail
        refine (HKD.out _ HR1.out).mono ?_; rintro e' w2 ⟨rfl, hR2, hK2⟩
        have HR2 := hide hR2
        have hL2 := hL1.trans hK2
        clear hR2 hK2
        go_wp2_with fail
        refine (HEV.out _ HR2.out).mono ?_; rintro e' w3 ⟨v, rfl, hown, hR3, hK3⟩
        have hL3 := hL2.trans hK3
        obtain ⟨c0, c1, c2, c3, c5, cf⟩ := hR3.cell
        have HR3 := hide hR3
        have HOWN := hide hown
        clear hR3 hK3
        have HRb := hide HR3.out.setBad
        have hLb := hL3.setR 3 (.bool true)
        have HOb := hide (HR3.out.keep ((Kp.refl rb w3).setR 3 (.bool true)) hown (by decide) (by decide))
        rcases ownsRow_forms hown with ⟨rfl, _⟩ | ⟨g, cap, rfl⟩
        · clear hown
          go_wp2_with fail
          refine (HW.out _ HRb.out).mono ?_; rintro e' w5 ⟨rfl, hR5, hK5⟩
          have HR5 := hide hR5
          have hL5 := hLb.trans hK5
          have HO5 := hide (HRb.out.keep hK5 HOb.out (by decide) (by decide))
          clear hR5 hK5
          go_wp2_with fail
          refine (HEX.out _ HR5.out (later HX.out hL5.size)).mono ?_; rintro e' w6 ⟨rfl, hR6, hK6⟩
          have HR6 := hide hR6
          have hL6 := hL5.trans hK6
          have HO6 := hide (HR5.out.keep hK6 HO5.out (by decide) (by decide))
          clear hR6 hK6
          go_wp2_with fail
          refine (HCU.out _ _ _ HR6.out (later HX.out hL6.size) HO6.out).mono ?_; rintro e' w7 ⟨rfl, hR7, hK7⟩
          have HR7 := hide hR7
          have hL7 := hL6.trans hK7
          clear hR7 hK7
          go_wp2_with fail
          go_ret3
          exact ⟨rfl, HR7.out, hL7⟩
        · clear hown
          go_wp2_with fail
          refine (HW.out _ HRb.out).mono ?_; rintro e' w5 ⟨rfl, hR5, hK5⟩
          have HR5 := hide hR5
          have hL5 := hLb.trans hK5
          have HO5 := hide (HRb.out.keep hK5 HOb.out (by decide) (by decide))
          clear hR5 hK5
          go_wp2_with fail
          refine (HEX.out _ HR5.out (later HX.out hL5.size)).mono ?_; rintro e' w6 ⟨rfl, hR6, hK6⟩
          have HR6 := hide hR6
          have hL6 := hL5.trans hK6
          have HO6 := hide (HR5.out.keep hK6 HO5.out (by decide) (by decide))
          clear hR6 hK6
          go_wp2_with fail
          refine (HCU.out _ _ _ HR6.out (later HX.out hL6.size) HO6.out).mono ?_; rintro e' w7 ⟨rfl, hR7, hK7⟩
          have HR7 := hide hR7
          have hL7 := hL6.trans hK7
          clear hR7 hK7
          go_wp2_with fail
          go_ret3
          exact ⟨rfl, HR7.out, hL7⟩
      | cons n0 names =>
        simp only [List.isEmpty_cons, cond_false] at hx
        have hb0 : (((n0 :: names).length : Int) == 0) = false := by simp; omega
        have hw := fun (wx : World) (q : Rd T rb lv e X sv wx) => want_any K.eq_ q
        rw [bsK_eq] at hw
        have HW := hide hw
        have HEX := hide (fun (wx : World) (q : Rd T rb lv e X (want T e K.eq_ sv) wx) y => HEE.out n (by omega) X _ x.2 x.1 wx hx q y)
        clear hw hx
        generalize want T e K.eq_ sv = sw at *
        generalize hnn : n0 :: names = nms at *
        have hn0 : nms.length ≠ 0 := by rw [← hnn]; simp
        clear hnn
        go_enter Tryz.func156, Tryz.ntmps156
        go_wp2_with fail
        refine (HS.out _ HR0.out).mono ?_; rintro e' w1 ⟨rfl, hR1, hL1⟩
        have HR1 := hide hR1
        clear hR1
        go_wp2_with fail
        refine (HKD.out _ HR1.out).mono ?_; rintro e' w2 ⟨rfl, hR2, hK2⟩
        have HR2 := hide hR2
        have hL2 := hL1.trans hK2
        clear hR2 hK2
        go_wp2_with fail
        refine (HEV.out _ HR2.out).mono ?_; rintro e' w3 ⟨v, rfl, hown, hR3, hK3⟩
        have hL3 := hL2.trans hK3
        obtain ⟨c0, c1, c2, c3, c5, cf⟩ := hR3.cell
        have HR3 := hide hR3
        have HOWN := hide hown
        clear hR3 hK3
        clear c0 c1 c2 c3 c5 cf
        rcases ownsRow_forms hown with ⟨_, hz0⟩ | ⟨g, cap, rfl⟩
        · exact absurd hz0 hn0
        clear hown
        go_wp2_with fail
        refine (HW.out _ HR3.out).mono ?_; rintro e' w5 ⟨rfl, hR5, hK5⟩
        have HR5 := hide hR5
        have hL5 := hL3.trans hK5
        have HO5 := hide (HR3.out.keep hK5 HOWN.out (by decide) (by decide))
        clear hR5 hK5
        go_wp2_with fail
        refine (HEX.out _ HR5.out (later HX.out hL5.size)).mono ?_; rintro e' w6 ⟨rfl, hR6, hK6⟩
        have HR6 := hide hR6
        have hL6 := hL5.trans hK6
        have HO6 := hide (HR5.out.keep hK6 HO5.out (by decide) (by decide))
        clear hR6 hK6
        go_wp2_with fail
        refine (HCU.out _ _ _ HR6.out (later HX.out hL6.size) HO6.out).mono ?_; rintro e' w7 ⟨rfl, hR7, hK7⟩
        have HR7 := hide hR7
        have hL7 := hL6.trans hK7
        clear hR7 hK7
        go_wp2_with fail
        go_ret3
        exact ⟨rfl, HR7.out, hL7⟩

end Go.Proofs.YtnocnkblhjifjaaGreatDoor
