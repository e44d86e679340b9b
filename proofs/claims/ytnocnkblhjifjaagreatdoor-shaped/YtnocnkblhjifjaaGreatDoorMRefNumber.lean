import Derived.Test.YtnocnkblhjifjaaGreatDoorMRefEvery
import Derived.Lib.IndexBytes
/-
  kilnref.number by its contract.
-/
namespace Go.Proofs.YtnocnkblhjifjaaGreatDoor
open Go.RowKit

theorem number_short {l : List UInt8} (h : l.length ≤ 1) : numberP l = l := by
  match l, h with
  | [], _ => rfl
  | [c], _ => rfl

theorem number_zero {l : List UInt8} (h : 1 < l.length) (h0 : l[0] = 48) : numberP l = numberP (l.drop 1) := by
  match l, h with
  | c :: d :: r, _ => simp at h0; simp [numberP, h0]

theorem number_other {l : List UInt8} (h : 1 < l.length) (h0 : l[0] ≠ 48) : numberP l = l := by
  match l, h with
  | c :: d :: r, _ => simp at h0; simp [numberP, h0]

set_option maxHeartbeats 1000000 in
theorem number_any (t : List UInt8) (w : World) (ht : t.length ≤ maxLen) :
    Calls Tryz.prog 414 #[.string (bs t)] w fun e' w' => e' = .returned (.string (bs (numberP t))) ∧ w' = w := by
  have hd0 : (bs t).data.toList = t := bs_data t
  have hsz : (bs t).size = t.length := by show t.toArray.size = _; simp
  have H0 : Hid (numberP (bs t).data.toList = numberP t) := by rw [hd0]; rfl
  have hle : (bs t).size ≤ 9223372036854775807 := by rw [hsz]; exact ht
  generalize numberP t = N at *
  generalize bs t = b at *
  clear hd0 ht
  go_enter Tryz.func414, Tryz.ntmps414
  go_wp2
  go_loopg [0] b.size (fun gk v wr => ∃ b1 : ByteArray, gk = b1.size ∧ b1.size ≤ 9223372036854775807 ∧ v = .string b1 ∧ wr = w ∧ Hid (numberP b1.data.toList = N))
  case atStart => exact ⟨b, rfl, hle, rfl, rfl, H0⟩
  case round =>
    clear H0 hle hsz
    obtain ⟨b1, rfl, hle, rfl, rfl, H⟩ := hrel
    by_cases h1 : 1 < b1.size
    · have hd : decide ((1 : Int) < b1.size) = true := by simp; omega
      cases h48 : ((b1[0].toNat : Int) == 48)
      · have HN := hide (number_other (l := b1.data.toList) h1 (by
          intro e; rw [beq_eq_false_iff_ne] at h48; apply h48
          have : b1[0] = b1.data.toList[0]'(Nat.lt_of_succ_lt h1) := rfl
          rw [this, e]; rfl))
        go_wp2
        go_ret
        refine ⟨?_, rfl⟩
        rw [← H.out, HN.out]
        rfl
      · have HN := hide (number_zero (l := b1.data.toList) h1 (by
          rw [beq_iff_eq] at h48
          have : b1[0] = b1.data.toList[0]'(Nat.lt_of_succ_lt h1) := rfl
          rw [← this]
          exact UInt8.toNat_inj.1 (by rw [show (48 : UInt8).toNat = 48 from rfl]; omega)))
        have HX : Hid (numberP (b1.extract 1 b1.size).data.toList = N) := by
          rw [← H.out, HN.out, Lib.extract_to_end]; rfl
        go_wp2
        go_roundg (b1.extract 1 b1.size).size
        case rel => exact ⟨_, rfl, by simp; omega, rfl, rfl, HX⟩
        case measure => simp; omega
    · have hd : decide ((1 : Int) < b1.size) = false := by simp; omega
      have HN := hide (number_short (l := b1.data.toList) (by show b1.size ≤ 1; omega))
      go_wp2
      go_ret
      refine ⟨?_, rfl⟩
      rw [← H.out, HN.out]
      rfl

end Go.Proofs.YtnocnkblhjifjaaGreatDoor
/-
  (*kilnref.Reader).plain by its contract.
-/
namespace Go.Proofs.YtnocnkblhjifjaaGreatDoor
open Go.RowKit

/-- What the token at hand is, as the walk asks. -/
theorem isKind_eq {T : List (List UInt8)} {e : Nat} {k : Int} {s : RS} {b : Bool} (h : isKind T e k s = b) : (tokKind (see T e s) == k) = b := h

theorem sign_kind {T : List (List UInt8)} {e : Nat} {x : List UInt8} {s : RS} (h : isSign T e x s = true) : tokKind (see T e s) = 119 ∧ see T e s = x := by
  simpa [isSign] using h

theorem toList_lit (a b : List UInt8) : ((bs a).toList == b) = (a == b) := by rw [ByteArray.toList_eq, bs_data]

theorem true_no {T : List (List UInt8)} {e : Nat} {x : List UInt8} {s : RS} (h : isSign T e x s = false) (hk : (tokKind (see T e s) == 119) = true) : ((bs (see T e s)).toList == x) = false := by
  rw [toList_lit]; simpa [isSign, hk] using h

theorem true_yes {T : List (List UInt8)} {e : Nat} {x : List UInt8} {s : RS} (h : isSign T e x s = true) : (tokKind (see T e s) == 119) = true ∧ ((bs (see T e s)).toList == x) = true := by
  rw [toList_lit]; simpa [isSign] using h

set_option maxHeartbeats 4000000 in
theorem plain_any {T : List (List UInt8)} {rb : Nat} {lv : Value} {e : Nat} {X : Nat → Prop} {s s' : RS} {w : World} {r : Nat} {ok : Bool}
    (hm : plainP T e s = some (r, ok, s')) (h : Rd T rb lv e X s w) :
    Calls Tryz.prog 398 #[.pointer (some ⟨rb, 0, none⟩)] w fun e' w' => e' = .returned (.tuple #[.int .i64 r, .bool ok]) ∧ Rd T rb lv e X s' w' ∧ Kp rb w w' := by
  have hc := see_any h
  have htl := h.t_le
  have hel := h.e_le
  have hsl := h.seeLen
  unfold plainP at hm
  cases k1 : isKind T e 100 s
  · rw [k1, cond_false] at hm
    cases k2 : isKind T e 110 s
    · rw [k2, cond_false] at hm
      cases k3 : isKind T e 99 s
      · rw [k3, cond_false] at hm
        have hk1 := isKind_eq k1
        have hk2 := isKind_eq k2
        have hk3 := isKind_eq k3
        cases k4 : (isSign T e K.true_ s || isSign T e K.false_ s)
        · rw [k4, cond_false] at hm
          simp only [Option.some.injEq, Prod.mk.injEq] at hm
          obtain ⟨rfl, rfl, rfl⟩ := hm
          simp only [Bool.or_eq_false_iff] at k4
          cases h4 : (tokKind (see T e s) == 119)
          · clear k1 k2 k3 k4
            generalize tokKind (see T e s) = kd at *
            generalize bs (see T e s) = tx at *
            have HC := hide hc
            have HR := hide h
            clear hc h hsl
            go_enter Tryz.func398, Tryz.ntmps398
            go_wp2_with fail
            refine (HC.out).mono ?_; rintro e' w1 ⟨rfl, hb1⟩
            have HR1 := hide (HR.out.below hb1)
            clear HR
            go_wp2_with fail
            go_ret2
            exact ⟨rfl, HR1.out.alloc _, (Kp.of_below hb1).alloc _⟩
          · have s1 : ((bs (see T e s)).toList == [116, 114, 117, 101]) = false := true_no k4.1 h4
            have s2 : ((bs (see T e s)).toList == [102, 97, 108, 115, 101]) = false := true_no k4.2 h4
            clear k1 k2 k3 k4
            generalize tokKind (see T e s) = kd at *
            generalize bs (see T e s) = tx at *
            have HC := hide hc
            have HR := hide h
            clear hc h hsl
            go_enter Tryz.func398, Tryz.ntmps398
            go_wp2_with fail
            refine (HC.out).mono ?_; rintro e' w1 ⟨rfl, hb1⟩
            have HR1 := hide (HR.out.below hb1)
            clear HR
            go_wp2_with fail
            go_ret2
            exact ⟨rfl, HR1.out.alloc _, (Kp.of_below hb1).alloc _⟩
        · rw [k4, cond_true, Option.bind_eq_some_iff] at hm
          cases k5 : isSign T e K.true_ s
          · have k6 : isSign T e K.false_ s = true := by rw [k5, Bool.false_or] at k4; exact k4
            have h4 := (true_yes k6).1
            have s1 : ((bs (see T e s)).toList == [116, 114, 117, 101]) = false := true_no k5 h4
            have s2 : ((bs (see T e s)).toList == [102, 97, 108, 115, 101]) = true := (true_yes k6).2
            obtain ⟨q, hq, hm⟩ := hm
            simp only [Option.some.injEq, Prod.mk.injEq] at hm
            obtain ⟨rfl, rfl, rfl⟩ := hm
            have hpos := see_pos (T := T) (e := e) (s := s) (by decide) (show tokKind (see T e s) = 119 by simpa using h4)
            have hcn := fun (wx : World) (a : Rd T rb lv e X (adv s) wx) => node_any (pv := .slice none 0 0) (w := wx) hq a (World.ownsRow_nil _ _ _ _) (by simp [Value.ownBlock])
            rw [bsK_const] at hcn
            clear k1 k2 k3 k4 k5 k6 hq
            generalize tokKind (see T e s) = kd at *
            generalize bs (see T e s) = tx at *
            have HC := hide hc
            have HN := hide hcn
            have HR := hide h
            clear hc hcn h hsl
            go_enter Tryz.func398, Tryz.ntmps398
            go_wp2_with fail
            refine (HC.out).mono ?_; rintro e' w1 ⟨rfl, hb1⟩
            have hR1 := HR.out.below hb1
            have hz := hR1.lt
            obtain ⟨c0, c1, c2, c3, c5, cf⟩ := hR1.cell
            have HR1 := hide (hR1.setPos hpos.1)
            clear HR hR1
            go_wp2_with fail
            refine (HN.out _ (HR1.out.alloc _)).mono ?_; rintro e' w2 ⟨rfl, hR2, hK2⟩
            have HR2 := hide hR2
            clear hR2
            go_wp2_with fail
            go_ret2
            exact ⟨rfl, HR2.out, (((Kp.of_below hb1).setR _ _).alloc _).trans hK2⟩
          · have h4 := (true_yes k5).1
            have s1 : ((bs (see T e s)).toList == [116, 114, 117, 101]) = true := (true_yes k5).2
            obtain ⟨q, hq, hm⟩ := hm
            simp only [Option.some.injEq, Prod.mk.injEq] at hm
            obtain ⟨rfl, rfl, rfl⟩ := hm
            have hpos := see_pos (T := T) (e := e) (s := s) (by decide) (show tokKind (see T e s) = 119 by simpa using h4)
            have hcn := fun (wx : World) (a : Rd T rb lv e X (adv s) wx) => node_any (pv := .slice none 0 0) (w := wx) hq a (World.ownsRow_nil _ _ _ _) (by simp [Value.ownBlock])
            rw [bsK_const] at hcn
            clear k1 k2 k3 k4 k5 hq
            generalize tokKind (see T e s) = kd at *
            generalize bs (see T e s) = tx at *
            have HC := hide hc
            have HN := hide hcn
            have HR := hide h
            clear hc hcn h hsl
            go_enter Tryz.func398, Tryz.ntmps398
            go_wp2_with fail
            refine (HC.out).mono ?_; rintro e' w1 ⟨rfl, hb1⟩
            have hR1 := HR.out.below hb1
            have hz := hR1.lt
            obtain ⟨c0, c1, c2, c3, c5, cf⟩ := hR1.cell
            have HR1 := hide (hR1.setPos hpos.1)
            clear HR hR1
            go_wp2_with fail
            refine (HN.out _ (HR1.out.alloc _)).mono ?_; rintro e' w2 ⟨rfl, hR2, hK2⟩
            have HR2 := hide hR2
            clear hR2
            go_wp2_with fail
            go_ret2
            exact ⟨rfl, HR2.out, (((Kp.of_below hb1).setR _ _).alloc _).trans hK2⟩
      · rw [k3, cond_true, Option.bind_eq_some_iff] at hm
        obtain ⟨q, hq, hm⟩ := hm
        simp only [Option.some.injEq, Prod.mk.injEq] at hm
        obtain ⟨rfl, rfl, rfl⟩ := hm
        have hpos := see_pos (T := T) (e := e) (s := s) (by decide) (show tokKind (see T e s) = 99 by simpa [isKind] using k3)
        have hk1 := isKind_eq k1
        have hk2 := isKind_eq k2
        have hk3 := isKind_eq k3
        have hcn := fun (wx : World) (a : Rd T rb lv e X (adv s) wx) => node_any (pv := .slice none 0 0) (w := wx) hq a (World.ownsRow_nil _ _ _ _) (by simp [Value.ownBlock])
        rw [bsK_con] at hcn
        clear k1 k2 k3 hq
        generalize tokKind (see T e s) = kd at *
        generalize bs (see T e s) = tx at *
        have HC := hide hc
        have HN := hide hcn
        have HR := hide h
        clear hc hcn h hsl
        go_enter Tryz.func398, Tryz.ntmps398
        go_wp2_with fail
        refine (HC.out).mono ?_; rintro e' w1 ⟨rfl, hb1⟩
        have hR1 := HR.out.below hb1
        have hz := hR1.lt
        obtain ⟨c0, c1, c2, c3, c5, cf⟩ := hR1.cell
        have HR1 := hide (hR1.setPos hpos.1)
        clear HR hR1
        go_wp2_with fail
        refine (HN.out _ (HR1.out.alloc _)).mono ?_; rintro e' w2 ⟨rfl, hR2, hK2⟩
        have HR2 := hide hR2
        clear hR2
        go_wp2_with fail
        go_ret2
        exact ⟨rfl, HR2.out, (((Kp.of_below hb1).setR _ _).alloc _).trans hK2⟩
    · rw [k2, cond_true, Option.bind_eq_some_iff] at hm
      obtain ⟨q, hq, hm⟩ := hm
      simp only [Option.some.injEq, Prod.mk.injEq] at hm
      obtain ⟨rfl, rfl, rfl⟩ := hm
      have hpos := see_pos (T := T) (e := e) (s := s) (by decide) (show tokKind (see T e s) = 110 by simpa [isKind] using k2)
      have hk1 := isKind_eq k1
      have hk2 := isKind_eq k2
      have hcn := fun (wx : World) (a : Rd T rb lv e X (adv s) wx) => node_any (pv := .slice none 0 0) (w := wx) hq a (World.ownsRow_nil _ _ _ _) (by simp [Value.ownBlock])
      rw [bsK_var] at hcn
      clear k1 k2 hq
      generalize tokKind (see T e s) = kd at *
      generalize bs (see T e s) = tx at *
      have HC := hide hc
      have HN := hide hcn
      have HR := hide h
      clear hc hcn h hsl
      go_enter Tryz.func398, Tryz.ntmps398
      go_wp2_with fail
      refine (HC.out).mono ?_; rintro e' w1 ⟨rfl, hb1⟩
      have hR1 := HR.out.below hb1
      have hz := hR1.lt
      obtain ⟨c0, c1, c2, c3, c5, cf⟩ := hR1.cell
      have HR1 := hide (hR1.setPos hpos.1)
      clear HR hR1
      go_wp2_with fail
      refine (HN.out _ (HR1.out.alloc _)).mono ?_; rintro e' w2 ⟨rfl, hR2, hK2⟩
      have HR2 := hide hR2
      clear hR2
      go_wp2_with fail
      go_ret2
      exact ⟨rfl, HR2.out, (((Kp.of_below hb1).setR _ _).alloc _).trans hK2⟩
  · rw [k1, cond_true, Option.bind_eq_some_iff] at hm
    obtain ⟨q, hq, hm⟩ := hm
    simp only [Option.some.injEq, Prod.mk.injEq] at hm
    obtain ⟨rfl, rfl, rfl⟩ := hm
    have hpos := see_pos (T := T) (e := e) (s := s) (by decide) (show tokKind (see T e s) = 100 by simpa [isKind] using k1)
    have hk1 := isKind_eq k1
    have hnum := fun (wx : World) => number_any (see T e s) wx (by unfold maxLen; omega)
    have hcn := fun (wx : World) (a : Rd T rb lv e X (adv s) wx) => node_any (pv := .slice none 0 0) (w := wx) hq a (World.ownsRow_nil _ _ _ _) (by simp [Value.ownBlock])
    rw [bsK_num] at hcn
    clear k1 hq
    generalize tokKind (see T e s) = kd at *
    generalize bs (see T e s) = tx at *
    generalize bs (numberP (see T e s)) = tn at *
    have HC := hide hc
    have HN := hide hcn
    have HM := hide hnum
    have HR := hide h
    clear hc hcn h hsl hnum
    go_enter Tryz.func398, Tryz.ntmps398
    go_wp2_with fail
    refine (HC.out).mono ?_; rintro e' w1 ⟨rfl, hb1⟩
    have hR1 := HR.out.below hb1
    have hz := hR1.lt
    obtain ⟨c0, c1, c2, c3, c5, cf⟩ := hR1.cell
    have HR1 := hide (hR1.setPos hpos.1)
    clear HR hR1
    go_wp2_with fail
    refine (HM.out _).mono ?_; rintro e' w' ⟨rfl, hw'⟩; subst w'
    go_wp2_with fail
    refine (HN.out _ (HR1.out.alloc _)).mono ?_; rintro e' w2 ⟨rfl, hR2, hK2⟩
    have HR2 := hide hR2
    clear hR2
    go_wp2_with fail
    go_ret2
    exact ⟨rfl, HR2.out, (((Kp.of_below hb1).setR _ _).alloc _).trans hK2⟩

end Go.Proofs.YtnocnkblhjifjaaGreatDoor
