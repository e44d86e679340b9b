import Derived.Test.YtnocnkblhjifjaaGreatDoorMRefMatch
/-
  The document's reader of expressions, together; (*kilnref.Reader).Declaration by its contract.
-/
namespace Go.Proofs.YtnocnkblhjifjaaGreatDoor
open Go.RowKit

theorem exprs_said (T : List (List UInt8)) (rb : Nat) (lv : Value) (e : Nat) : ∀ N, N ≤ 900000 →
    SaidExpr T rb lv e N ∧ SaidBinding T rb lv e N ∧ SaidLevel T rb lv e N ∧ SaidApp T rb lv e N ∧ SaidAtoms T rb lv e N ∧ SaidAtom T rb lv e N ∧ SaidMatch T rb lv e N := by
  intro N
  induction N using Nat.strongRecOn with
  | _ N ih =>
    intro hN
    have i1 : ∀ m, m < N → SaidExpr T rb lv e m := fun m hm => (ih m hm (by omega)).1
    have i2 : ∀ m, m < N → SaidBinding T rb lv e m := fun m hm => (ih m hm (by omega)).2.1
    have i3 : ∀ m, m < N → SaidLevel T rb lv e m := fun m hm => (ih m hm (by omega)).2.2.1
    have i4 : ∀ m, m < N → SaidApp T rb lv e m := fun m hm => (ih m hm (by omega)).2.2.2.1
    have i5 : ∀ m, m < N → SaidAtoms T rb lv e m := fun m hm => (ih m hm (by omega)).2.2.2.2.1
    have i6 : ∀ m, m < N → SaidAtom T rb lv e m := fun m hm => (ih m hm (by omega)).2.2.2.2.2.1
    have i7 : ∀ m, m < N → SaidMatch T rb lv e m := fun m hm => (ih m hm (by omega)).2.2.2.2.2.2
    exact ⟨expr_any T rb lv e N i1 i2 i3, binding_any T rb lv e N i1, level_any T rb lv e N i4 i3, app_any T rb lv e N (by omega) i5, atoms_any T rb lv e N (by omega) i6, atom_any T rb lv e N i1 i6 i7, match_any T rb lv e N hN i1 (fun m hm => (patterns_said T rb lv e m (by omega)).1)⟩

theorem everyF_kind (T : List (List UInt8)) (e : Nat) (k : Int) : ∀ (n : Nat) (s : RS), ∀ t ∈ (everyF T e k n s).1, tokKind t = k := by
  intro n
  induction n with
  | zero => intro s t ht; simp [everyF] at ht
  | succ n ih =>
    intro s t ht
    rw [everyF] at ht
    cases hk : isKind T e k s
    · rw [hk] at ht; simp at ht
    · rw [hk] at ht
      simp only [cond_true, List.mem_cons] at ht
      rcases ht with rfl | ht
      · simpa [isKind] using hk
      · exact ih (adv s) t ht

/-- Letters are no empty texts. -/
theorem every_ne (T : List (List UInt8)) (e : Nat) (s : RS) : ∀ t ∈ (everyP T e 108 s).1, t ≠ [] := by
  intro t ht h
  have := everyF_kind T e 108 (e - s.pos) s t ht
  rw [h] at this
  simp [tokKind] at this

theorem everyF_sub (T : List (List UInt8)) (e : Nat) (k : Int) (hT : ∀ t ∈ T, t.length ≤ 4000) : ∀ (n : Nat) (s : RS), ∀ t ∈ (everyF T e k n s).1, t.length ≤ 4000 := by
  intro n
  induction n with
  | zero => intro s t ht; simp [everyF] at ht
  | succ n ih =>
    intro s t ht
    rw [everyF] at ht
    cases hk : isKind T e k s
    · rw [hk] at ht; simp at ht
    · rw [hk] at ht
      simp only [cond_true, List.mem_cons] at ht
      rcases ht with rfl | ht
      · unfold see
        split
        · simp
        · by_cases hl : s.pos < T.length
          · rw [List.getD_eq_getElem?_getD, List.getElem?_eq_getElem hl]; exact hT _ (List.getElem_mem hl)
          · rw [List.getD_eq_getElem?_getD, List.getElem?_eq_none (by omega)]; simp
      · exact ih (adv s) t ht

theorem letters_step {r : List (List UInt8)} {j : Nat} (hj : j < r.length) {s : RS} {z : List Nat × RS} (h : lettersP (r.drop j) s = some z) :
    ∃ q l, nodeP K.var_ (r[j].drop 1) [] s = some q ∧ lettersP (r.drop (j + 1)) q.2 = some l ∧ z = (q.1 :: l.1, l.2) := by
  rw [List.drop_eq_getElem_cons hj] at h
  simp only [lettersP, Option.bind_eq_some_iff, Option.some.injEq] at h
  obtain ⟨q, hq, l, hl, h⟩ := h
  exact ⟨q, l, hq, hl, h.symm⟩

theorem letters_len : ∀ (r : List (List UInt8)) (s : RS) (z : List Nat × RS), lettersP r s = some z → z.1.length = r.length := by
  intro r
  induction r with
  | nil => intro s z h; simp [lettersP] at h; rw [← h]; rfl
  | cons a r ih =>
    intro s z h
    simp only [lettersP, Option.bind_eq_some_iff, Option.some.injEq] at h
    obtain ⟨q, _, l, hl, rfl⟩ := h
    simp [ih _ _ hl]

theorem extract_one (t : List UInt8) : (bs t).extract 1 (bs t).size = bs (t.drop 1) := by
  rw [bs_extract, bs_data]
  have : (bs t).size = t.length := by show t.toArray.size = _; simp
  rw [this, List.take_of_length_le (by simp)]

/-- What the variants are that are still to come. -/
def VarsAt (T : List (List UInt8)) (e gk : Nat) (s1 : RS) (rest : List Nat) (sl : RS) (mb : Bool) : Prop := (mb = true ∧ variantsP T e gk s1 = some (rest, sl)) ∨ (mb = false ∧ rest = [] ∧ s1 = sl)

set_option maxRecDepth 100000 in
set_option maxHeartbeats 2000000 in
theorem decl_any (T : List (List UInt8)) (rb : Nat) (lv : Value) (e : Nat) (n : Nat) (hN : n ≤ 900000) (X : Nat → Prop) (s s' : RS) (r : Nat) (w : World) (hm : declP T e n s = some (r, s')) (h : Rd T rb lv e X s w) (hX : ∀ g, X g → g < w.heap.size) :
    Calls Tryz.prog 84 #[.pointer (some ⟨rb, 0, none⟩)] w fun e' w' => e' = .returned (.int .i64 r) ∧ Rd T rb lv e X s' w' ∧ Kp rb w w' := by
  rw [declP] at hm
  have htl := h.t_le
  have hel := h.e_le
  have hTL := hide h.tl
  have HX := hide hX
  have HR0 := hide h
  have HEE := hide (fun m (hm : m ≤ n) => (exprs_said T rb lv e m (by omega)).1)
  clear h hX
  cases k1 : isSign T e K.type_ s
  · rw [k1, cond_false] at hm
    have hy := fun (wx : World) (zq : Rd T rb lv e X (s) wx) => sign_no k1 zq
    rw [bsK_type] at hy
    have HS1 := hide hy
    clear hy k1
    cases k2 : isSign T e K.do_ s
    · rw [k2, cond_false, Option.bind_eq_some_iff] at hm
      have hy := fun (wx : World) (zq : Rd T rb lv e X (s) wx) => sign_no k2 zq
      rw [bsK_do] at hy
      have HS2 := hide hy
      clear hy k2
      obtain ⟨b, hb, hm⟩ := hm
      have HB := hide (fun (wx : World) (zq : Rd T rb lv e X (want T e K.let_ s) wx) y => (exprs_said T rb lv e n hN).2.1 X (want T e K.let_ s) b.2.2.2 b.1 b.2.1 b.2.2.1 wx hb zq y)
      have hy := fun (wx : World) (zq : Rd T rb lv e X (s) wx) => want_any K.let_ zq
      rw [bsK_let] at hy
      have HW := hide hy
      clear hy
      have hy := fun (pv : Value) (wx : World) (zq : Rd T rb lv e X (b.2.2.2) wx) y z => node_any (pv := pv) (w := wx) hm zq y z
      have HN := hide hy
      clear hy
      clear hm hb
      generalize bs b.1 = bi at *
      generalize bs b.2.1 = bn at *
      go_enter Tryz.func84, Tryz.ntmps84
      go_wp2_with fail
      refine (HS1.out _ HR0.out).mono ?_; rintro e' w1 ⟨rfl, hR1, hK1⟩
      have HR1 := hide hR1
      have hL1 := hK1
      clear hR1 hK1
      go_wp2_with fail
      refine (HS2.out _ HR1.out).mono ?_; rintro e' w2 ⟨rfl, hR2, hK2⟩
      have HR2 := hide hR2
      have hL2 := hL1.trans hK2
      clear hR2 hK2
      go_wp2_with fail
      refine (HW.out _ HR2.out).mono ?_; rintro e' w3 ⟨rfl, hR3, hK3⟩
      have HR3 := hide hR3
      have hL3 := hL2.trans hK3
      clear hR3 hK3
      go_wp2_with fail
      refine (HB.out _ HR3.out (later HX.out hL3.size)).mono ?_; rintro e' w4 ⟨rfl, hR4, hK4⟩
      have HR4 := hide hR4
      have hL4 := hL3.trans hK4
      clear hR4 hK4
      go_wp2_with fail
      refine (HN.out _ _ (HR4.out.alloc _) (lit1 w4 b.2.2.1) (fresh HX.out hL4.size)).mono ?_; rintro e' w5 ⟨rfl, hR5, hK5⟩
      have HR5 := hide hR5
      have hL5 := (hL4.alloc _).trans hK5
      clear hR5 hK5
      go_wp2_with fail
      go_ret
      exact ⟨rfl, HR5.out, hL5⟩
    · rw [k2, cond_true, Option.bind_eq_some_iff] at hm
      have hy := fun (wx : World) (zq : Rd T rb lv e X (s) wx) => sign_yes k2 zq
      rw [bsK_do] at hy
      have HS2 := hide hy
      clear hy k2
      obtain ⟨x, hx, hm⟩ := hm
      have HEX := hide (fun (wx : World) (zq : Rd T rb lv e X (adv s) wx) y => HEE.out (n) (by omega) X (adv s) x.2 x.1 wx hx zq y)
      have hy := fun (pv : Value) (wx : World) (zq : Rd T rb lv e X (x.2) wx) y z => node_any (pv := pv) (w := wx) hm zq y z
      rw [bsK_do, bsK_nil] at hy
      have HN := hide hy
      clear hy
      clear hm hx
      go_enter Tryz.func84, Tryz.ntmps84
      go_wp2_with fail
      refine (HS1.out _ HR0.out).mono ?_; rintro e' w1 ⟨rfl, hR1, hK1⟩
      have HR1 := hide hR1
      have hL1 := hK1
      clear hR1 hK1
      go_wp2_with fail
      refine (HS2.out _ HR1.out).mono ?_; rintro e' w2 ⟨rfl, hR2, hK2⟩
      have HR2 := hide hR2
      have hL2 := hL1.trans hK2
      clear hR2 hK2
      go_wp2_with fail
      refine (HEX.out _ HR2.out (later HX.out hL2.size)).mono ?_; rintro e' w3 ⟨rfl, hR3, hK3⟩
      have HR3 := hide hR3
      have hL3 := hL2.trans hK3
      clear hR3 hK3
      go_wp2_with fail
      refine (HN.out _ _ (HR3.out.alloc _) (lit1 w3 x.1) (fresh HX.out hL3.size)).mono ?_; rintro e' w4 ⟨rfl, hR4, hK4⟩
      have HR4 := hide hR4
      have hL4 := (hL3.alloc _).trans hK4
      clear hR4 hK4
      go_wp2_with fail
      go_ret
      exact ⟨rfl, HR4.out, hL4⟩
  · rw [k1, cond_true] at hm
    simp only [Option.bind_eq_some_iff] at hm
    obtain ⟨l, hl, vz, hv, hm⟩ := hm
    have hy := fun (wx : World) (zq : Rd T rb lv e X (s) wx) => sign_yes k1 zq
    rw [bsK_type] at hy
    have HS1 := hide hy
    clear hy k1
    have HKD := hide (fun (wx : World) (zq : Rd T rb lv e X (adv s) wx) => kind_any 110 (by decide) zq)
    have HEV := hide (fun (wx : World) (zq : Rd T rb lv e X (kindS T e 110 (adv s)) wx) => every_any 108 (by decide) zq)
    have hlen := every_len T e 108 (kindS T e 110 (adv s))
    have hne := every_ne T e (kindS T e 110 (adv s))
    have hsub := everyF_sub T e 108 hTL.out (e - (kindS T e 110 (adv s)).pos) (kindS T e 110 (adv s))
    change ∀ t ∈ (everyP T e 108 (kindS T e 110 (adv s))).1, t.length ≤ 4000 at hsub
    have hll := letters_len _ _ _ hl
    obtain ⟨l1, l2⟩ := l
    obtain ⟨vv, sl⟩ := vz
    simp only at hv hm hll
    have HQ0 := hide hm
    have HE0 : Hid (VarsAt T e n (want T e K.eq_ l2) vv sl true) := Or.inl ⟨rfl, hv⟩
    clear hm hv
    generalize kindT T e 110 (adv s) = kn at *
    generalize (everyP T e 108 (kindS T e 110 (adv s))).1 = letters at *
    generalize (everyP T e 108 (kindS T e 110 (adv s))).2 = sv at *
    generalize kindS T e 110 (adv s) = sk at *
    have HL0 : Hid (lettersP (letters.drop 0) sv = some (l1, l2)) := hl
    have HNE := hide hne
    have HSUB := hide hsub
    clear hl hne hsub
    go_enter Tryz.func84, Tryz.ntmps84
    go_wp2_with fail
    refine (HS1.out _ HR0.out).mono ?_; rintro e' w1 ⟨rfl, hR1, hK1⟩
    have HR1 := hide hR1
    have hL1 := hK1
    clear hR1 hK1
    go_wp2_with fail
    refine (HKD.out _ HR1.out).mono ?_; rintro e' w2 ⟨rfl, hR2, hK2⟩
    have HR2 := hide hR2
    have hL2 := hL1.trans hK2
    clear hR2 hK2
    go_wp2_with fail
    refine (HEV.out _ HR2.out).mono ?_; rintro e' w3 ⟨v, rfl, hownv, hR3, hK3⟩
    have hL3 := hL2.trans hK3
    have hsz3 := hL3.size
    have HR3 := hide hR3
    clear hK3 HR2 HR1 HR0
    rcases ownsRow_forms hownv with ⟨rfl, hz0⟩ | ⟨g, cap, rfl⟩
    · have hln : letters = [] := List.length_eq_zero_iff.1 hz0
      have hl12 : l1 = [] ∧ sv = l2 := by
        have := HL0.out
        rw [hln] at this
        simp only [List.drop_nil, lettersP, Option.some.injEq, Prod.mk.injEq] at this
        exact ⟨this.1.symm, this.2⟩
      have HRA := hide (also_nil HR3.out)
      rw [hl12.2] at HRA
      have hownA : w3.ownsRow w3.heap.size tyInt 1 (.slice none 0 0) l1.length (l1.map intV) := by rw [hl12.1]; exact World.ownsRow_nil _ _ _ _
      have hMA := Kp.refl rb w3
      clear hownv hR3 hz0 hln HL0 HNE HSUB hl12 HR3
      go_wp2_with fail
      refine wp_loop_rounds 1 ?_
      rw [rounds_succ]
      have hy := fun (wx : World) (zq : Rd T rb lv e (also X (.slice none 0 0)) l2 wx) => want_any K.eq_ zq
      rw [bsK_eq] at hy
      have HW := hide hy
      clear hy
      go_wp2_with fail
      refine (HW.out _ HRA.out).mono ?_; rintro e' wb ⟨rfl, hRB, hKB⟩
      have hMB := hMA.trans hKB
      have hownB := HRA.out.keep hKB hownA (by decide) (by decide)
      have HRB := hide hRB
      clear hRB hKB HRA hownA hMA
      go_wp2_with fail
      go_loopg [5, 8] n (fun gk v mv wr => ∃ (s1 : RS) (acc rest : List Nat) (mb : Bool), gk ≤ n ∧ acc.length + gk ≤ n + 4000 ∧ mv = .bool mb ∧ wr.ownsRow w3.heap.size tyInt 1 v acc.length (acc.map intV) ∧ Kp rb w3 wr ∧ Hid (Rd T rb lv e (also X v) s1 wr) ∧ Hid (VarsAt T e gk s1 rest sl mb) ∧ Hid (acc ++ rest = l1 ++ vv))
      case atStart => exact ⟨want T e K.eq_ l2, l1, vv, true, Nat.le_refl _, by omega, rfl, hownB, hMB, HRB, HE0, rfl⟩
      case round =>
        clear HE0 HRB hownB hMB
        obtain ⟨s1, acc, rest, mb, hgk, hlen, rfl, hown, hK, HR, HE, HACC⟩ := hrel
        have hKw := hL3.trans hK
        cases mb with
        | false =>
          have hE := HE.out
          unfold VarsAt at hE
          simp only [Bool.false_eq_true, false_and, true_and, false_or] at hE
          obtain ⟨rfl, rfl⟩ := hE
          have hacc := HACC.out
          rw [List.append_nil] at hacc
          have hq := HQ0.out
          rw [← hacc] at hq
          clear hacc HE HACC HQ0
          have hy := fun (wx : World) (zq : Rd T rb lv e X s1 wx) y z => node_any (pv := u5) (w := wx) hq zq y z
          rw [bsK_type] at hy
          have HN := hide hy
          have HRs := hide HR.out.less
          have HOs := hide (ownsRow_le (base' := 0) hown (Nat.zero_le _))
          have HFR := hide (fresh_row HX.out hsz3 hown)
          clear hy hq hown
          go_wp2_with fail
          refine (HN.out _ HRs.out HOs.out HFR.out).mono ?_; rintro e' wz ⟨rfl, hRz, hKz⟩
          have HRz := hide hRz
          have hLz := hKw.trans hKz
          clear hRz hKz
          go_wp2_with fail
          go_ret
          exact ⟨rfl, HRz.out, hLz⟩
        | true =>
          have hE := HE.out
          unfold VarsAt at hE
          simp only [Bool.true_eq_false, false_and, true_and, or_false] at hE
          cases gk with
          | zero => simp [variantsP] at hE
          | succ m =>
            rw [variantsP] at hE
            obtain ⟨c0, c1, c2, c3, c5, cf⟩ := HR.out.cell
            cases hbad : s1.bad
            · rw [hbad, cond_false] at hE
              rw [hbad] at c3
              simp only [Option.bind_eq_some_iff] at hE
              obtain ⟨ty, hty, nn, hnn, hE⟩ := hE
              clear hbad HE
              have HX5 := hide (also_lt HX.out hKw.size hown)
              have HKC := hide (fun (wx : World) (zq : Rd T rb lv e (also X u5) s1 wx) => kind_any 99 (by decide) zq)
              have HTY := hide (fun (wx : World) (zq : Rd T rb lv e (also X u5) (kindS T e 99 s1) wx) y => (types_said T rb lv e m (by omega)).1 (also X u5) _ ty.2 ty.1 wx hty zq y)
              have hy := fun (pv : Value) (wx : World) (zq : Rd T rb lv e (also X u5) ty.2 wx) y z => node_any (pv := pv) (w := wx) hnn zq y z
              rw [bsK_named] at hy
              have HN := hide hy
              clear hy hty hnn
              generalize bs (kindT T e 99 s1) = bc at *
              generalize kindS T e 99 s1 = sk at *
              go_wp2_with fail
              refine (HKC.out _ HR.out).mono ?_; rintro e' w4 ⟨rfl, hR4, hK4⟩
              have HR4 := hide hR4
              clear hR4 c0 c1 c2 c3 c5 cf
              go_wp2_with fail
              refine (HTY.out _ HR4.out (later HX5.out hK4.size)).mono ?_; rintro e' w5 ⟨vt, rfl, hownt, hR5, hK5⟩
              have HR5 := hide hR5.less
              have hJ5 := hK4.trans hK5
              have HFT := hide (fresh_row HX5.out hK4.size hownt)
              have HOT := hide (ownsRow_le (base' := 0) hownt (Nat.zero_le _))
              clear hR5 hK5 hownt hK4
              go_wp2_with fail
              refine (HN.out _ _ HR5.out HOT.out HFT.out).mono ?_; rintro e' w8 ⟨rfl, hR8, hK8⟩
              have HR8 := hide hR8
              have hJ8 := hJ5.trans hK8
              have hown8 := HR.out.keep hJ8 hown (by decide) (by decide)
              have hK8' := hK.trans hJ8
              have hsz8 := hK8'.size
              clear hR8 hK8 hJ5 hJ8 HR HR4 HR5 hown hK hKw
              go_wp2_with (at_builtin; refine append_int rfl _ _ rfl nn.1 hown8 (by omega) hsz8 rfl rfl ?_)
              intro v' w9 hown9 hgrow hblk
              have HR9 := hide (HR8.out.appended hown8 hgrow hblk.out)
              have hK9 := (hK8'.alloc (.cells #[.int .i64 nn.1] tyInt)).grownOwn hgrow (fun g hg => (hown8.lt g hg).1)
              clear hown8 hgrow hblk HR8 hK8'
              cases k9 : isSign T e K.bar_ nn.2
              · rw [k9, cond_false] at hE
                simp only [Option.some.injEq, Prod.mk.injEq] at hE
                obtain ⟨hrest, hsl⟩ := hE
                have hy := fun (wx : World) (zq : Rd T rb lv e (also X v') nn.2 wx) => sign_no k9 zq
                rw [bsK_bar] at hy
                have HSE := hide hy
                have HE : Hid (VarsAt T e m nn.2 [] sl false) := Or.inr ⟨rfl, rfl, hsl⟩
                have HAC : Hid ((acc ++ [nn.1]) ++ [] = l1 ++ vv) := by rw [← HACC.out, ← hrest, List.append_nil]; rfl
                clear hy k9 hrest hsl HACC
                go_wp2_with fail
                refine (HSE.out _ HR9.out).mono ?_; rintro e' wa ⟨rfl, hRa, hKa⟩
                have hK10 := hK9.trans hKa
                have hown10 := HR9.out.keep hKa (show w9.ownsRow w3.heap.size tyInt 1 v' (acc ++ [nn.1]).length ((acc ++ [nn.1]).map intV) by simpa using hown9) (by decide) (by decide)
                have HR10 := hide hRa
                clear hRa hKa hK9 HR9 hown9
                go_wp2_with fail
                go_roundg m
                case rel => exact ⟨nn.2, acc ++ [nn.1], [], false, by omega, by simp; omega, rfl, hown10, hK10, HR10, HE, HAC⟩
                case measure => omega
              · rw [k9, cond_true, Option.bind_eq_some_iff] at hE
                obtain ⟨rl, hrl, hE⟩ := hE
                simp only [Option.some.injEq, Prod.mk.injEq] at hE
                obtain ⟨hrest, hsl⟩ := hE
                have hy := fun (wx : World) (zq : Rd T rb lv e (also X v') nn.2 wx) => sign_yes k9 zq
                rw [bsK_bar] at hy
                have HSE := hide hy
                have HE : Hid (VarsAt T e m (adv nn.2) rl.1 sl true) := Or.inl ⟨rfl, by rw [hrl, ← hsl]⟩
                have HAC : Hid ((acc ++ [nn.1]) ++ rl.1 = l1 ++ vv) := by rw [← HACC.out, ← hrest, List.append_assoc]; rfl
                clear hy k9 hrl hrest hsl HACC
                go_wp2_with fail
                refine (HSE.out _ HR9.out).mono ?_; rintro e' wa ⟨rfl, hRa, hKa⟩
                have hK10 := hK9.trans hKa
                have hown10 := HR9.out.keep hKa (show w9.ownsRow w3.heap.size tyInt 1 v' (acc ++ [nn.1]).length ((acc ++ [nn.1]).map intV) by simpa using hown9) (by decide) (by decide)
                have HR10 := hide hRa
                clear hRa hKa hK9 HR9 hown9
                go_wp2_with fail
                go_roundg m
                case rel => exact ⟨adv nn.2, acc ++ [nn.1], rl.1, true, by omega, by simp; omega, rfl, hown10, hK10, HR10, HE, HAC⟩
                case measure => omega
            · rw [hbad, cond_true] at hE
              rw [hbad] at c3
              simp only [Option.some.injEq, Prod.mk.injEq] at hE
              obtain ⟨rfl, rfl⟩ := hE
              have hacc := HACC.out
              rw [List.append_nil] at hacc
              have hq := HQ0.out
              rw [← hacc] at hq
              clear hacc HE HACC HQ0 hbad c0 c1 c2 c5 cf
              have hy := fun (wx : World) (zq : Rd T rb lv e X s1 wx) y z => node_any (pv := u5) (w := wx) hq zq y z
              rw [bsK_type] at hy
              have HN := hide hy
              have HRs := hide HR.out.less
              have HOs := hide (ownsRow_le (base' := 0) hown (Nat.zero_le _))
              have HFR := hide (fresh_row HX.out hsz3 hown)
              clear hy hq hown
              go_wp2_with fail
              refine (HN.out _ HRs.out HOs.out HFR.out).mono ?_; rintro e' wz ⟨rfl, hRz, hKz⟩
              have HRz := hide hRz
              have hLz := hKw.trans hKz
              clear hRz hKz
              go_wp2_with fail
              go_ret
              exact ⟨rfl, HRz.out, hLz⟩
    · have HOV := hide hownv
      have HIR := hide hR3.isR
      clear hownv hR3
      go_wp2_with fail
      go_loopg [5, 6] letters.length (fun gk v iv wr => ∃ (j : Nat) (s1 : RS) (acc rest : List Nat), j + gk = letters.length ∧ acc.length = j ∧ iv = .int .i64 j ∧ wr.ownsRow w3.heap.size tyInt 1 v acc.length (acc.map intV) ∧ Kp rb w3 wr ∧ Hid (Rd T rb lv e (also X v) s1 wr) ∧ Hid (lettersP (letters.drop j) s1 = some (rest, l2)) ∧ Hid (acc ++ rest = l1))
      case atStart => exact ⟨0, sv, [], l1, by omega, rfl, rfl, World.ownsRow_nil _ _ _ _, Kp.refl _ _, also_nil HR3.out, HL0, rfl⟩
      case round =>
        clear HL0 HR3
        obtain ⟨j, s1, acc, rest, hjg, hal, rfl, hown, hK, HR, HL, HACC⟩ := hrel
        by_cases hj : j < letters.length
        · obtain ⟨q, rl, hq, hrl, hz⟩ := letters_step hj HL.out
          simp only [Prod.mk.injEq] at hz
          obtain ⟨hrest, hl2⟩ := hz
          have hcl : wr.cell? ⟨g, j, none⟩ = some (.string (bs letters[j])) := by
            rw [(ownsRow_kp HOV.out HIR.out hK (by decide) (by decide)).cellAt j (by omega)]
            simp [hj, strV]
          have hsz1 : 1 ≤ (bs letters[j]).size := by
            have h1 := HNE.out letters[j] (List.getElem_mem hj)
            have : (bs letters[j]).size = letters[j].length := by show letters[j].toArray.size = _; simp
            rw [this]
            cases hh : letters[j] with
            | nil => exact absurd hh h1
            | cons _ _ => simp
          have hszm : (bs letters[j]).size ≤ 4000 := by
            have h1 := HSUB.out letters[j] (List.getElem_mem hj)
            have : (bs letters[j]).size = letters[j].length := by show letters[j].toArray.size = _; simp
            rw [this]; exact h1
          have hy := fun (wx : World) (zq : Rd T rb lv e (also X u5) s1 wx) => node_nil (w := wx) hq zq
          rw [bsK_var, ← extract_one] at hy
          have HN := hide hy
          have HL' : Hid (lettersP (letters.drop (j + 1)) q.2 = some (rl.1, l2)) := by show _ = _; rw [hrl, hl2]
          have HAC : Hid ((acc ++ [q.1]) ++ rl.1 = l1) := by rw [← HACC.out, hrest, List.append_assoc]; rfl
          generalize bs letters[j] = bl at *
          clear hy hq hrl hrest hl2 HACC HL
          go_wp2_with fail
          refine (HN.out _ HR.out).mono ?_; rintro e' w4 ⟨rfl, hR4, hK4⟩
          have hown4 := HR.out.keep hK4 hown (by decide) (by decide)
          have hK4' := hK.trans hK4
          have hsz4 := hK4'.size
          have HR4 := hide hR4
          clear hR4 hK4 hown HR hcl
          go_wp2_with (at_builtin; refine append_int rfl _ _ rfl q.1 hown4 (by omega) hsz4 rfl rfl ?_)
          intro v' w5 hown5 hgrow hblk
          have HR5 := hide (HR4.out.appended hown4 hgrow hblk.out)
          have hK5 := (hK4'.alloc (.cells #[.int .i64 q.1] tyInt)).grownOwn hgrow (fun g hg => (hown4.lt g hg).1)
          clear hown4 hgrow hblk HR4 hK4'
          go_wp2_with fail
          go_roundg (letters.length - (j + 1))
          case rel => exact ⟨j + 1, q.2, acc ++ [q.1], rl.1, by omega, by simp; omega, by go_num, by simpa [hal] using hown5, hK5, HR5, HL', HAC⟩
          case measure => omega
        · have hje : letters.drop j = [] := List.drop_of_length_le (by omega)
          have hfin := HL.out
          rw [hje] at hfin
          simp only [lettersP, Option.some.injEq, Prod.mk.injEq] at hfin
          have hacc := HACC.out
          rw [← hfin.1, List.append_nil] at hacc
          have HRA := hide HR.out
          rw [hfin.2] at HRA
          have hownA := hown
          rw [hacc] at hownA
          have hMA := hK
          clear HL HACC hje HR hown hK hfin hacc
          have hy := fun (wx : World) (zq : Rd T rb lv e (also X u5) l2 wx) => want_any K.eq_ zq
          rw [bsK_eq] at hy
          have HW := hide hy
          clear hy
          go_wp2_with fail
          refine (HW.out _ HRA.out).mono ?_; rintro e' wb ⟨rfl, hRB, hKB⟩
          have hMB := hMA.trans hKB
          have hownB := HRA.out.keep hKB hownA (by decide) (by decide)
          have HRB := hide hRB
          clear hRB hKB HRA hownA hMA
          go_wp2_with fail
          go_loopg [5, 8] n (fun gk v mv wr => ∃ (s1 : RS) (acc rest : List Nat) (mb : Bool), gk ≤ n ∧ acc.length + gk ≤ n + 4000 ∧ mv = .bool mb ∧ wr.ownsRow w3.heap.size tyInt 1 v acc.length (acc.map intV) ∧ Kp rb w3 wr ∧ Hid (Rd T rb lv e (also X v) s1 wr) ∧ Hid (VarsAt T e gk s1 rest sl mb) ∧ Hid (acc ++ rest = l1 ++ vv))
          case atStart => exact ⟨want T e K.eq_ l2, l1, vv, true, Nat.le_refl _, by omega, rfl, hownB, hMB, HRB, HE0, rfl⟩
          case round =>
            clear HE0 HRB hownB hMB
            obtain ⟨s1, acc, rest, mb, hgk, hlen, rfl, hown, hK, HR, HE, HACC⟩ := hrel
            have hKw := hL3.trans hK
            cases mb with
            | false =>
              have hE := HE.out
              unfold VarsAt at hE
              simp only [Bool.false_eq_true, false_and, true_and, false_or] at hE
              obtain ⟨rfl, rfl⟩ := hE
              have hacc := HACC.out
              rw [List.append_nil] at hacc
              have hq := HQ0.out
              rw [← hacc] at hq
              clear hacc HE HACC HQ0
              have hy := fun (wx : World) (zq : Rd T rb lv e X s1 wx) y z => node_any (pv := u5) (w := wx) hq zq y z
              rw [bsK_type] at hy
              have HN := hide hy
              have HRs := hide HR.out.less
              have HOs := hide (ownsRow_le (base' := 0) hown (Nat.zero_le _))
              have HFR := hide (fresh_row HX.out hsz3 hown)
              clear hy hq hown
              go_wp2_with fail
              refine (HN.out _ HRs.out HOs.out HFR.out).mono ?_; rintro e' wz ⟨rfl, hRz, hKz⟩
              have HRz := hide hRz
              have hLz := hKw.trans hKz
              clear hRz hKz
              go_wp2_with fail
              go_ret
              exact ⟨rfl, HRz.out, hLz⟩
            | true =>
              have hE := HE.out
              unfold VarsAt at hE
              simp only [Bool.true_eq_false, false_and, true_and, or_false] at hE
              cases gk with
              | zero => simp [variantsP] at hE
              | succ m =>
                rw [variantsP] at hE
                obtain ⟨c0, c1, c2, c3, c5, cf⟩ := HR.out.cell
                cases hbad : s1.bad
                · rw [hbad, cond_false] at hE
                  rw [hbad] at c3
                  simp only [Option.bind_eq_some_iff] at hE
                  obtain ⟨ty, hty, nn, hnn, hE⟩ := hE
                  clear hbad HE
                  have HX5 := hide (also_lt HX.out hKw.size hown)
                  have HKC := hide (fun (wx : World) (zq : Rd T rb lv e (also X u5) s1 wx) => kind_any 99 (by decide) zq)
                  have HTY := hide (fun (wx : World) (zq : Rd T rb lv e (also X u5) (kindS T e 99 s1) wx) y => (types_said T rb lv e m (by omega)).1 (also X u5) _ ty.2 ty.1 wx hty zq y)
                  have hy := fun (pv : Value) (wx : World) (zq : Rd T rb lv e (also X u5) ty.2 wx) y z => node_any (pv := pv) (w := wx) hnn zq y z
                  rw [bsK_named] at hy
                  have HN := hide hy
                  clear hy hty hnn
                  generalize bs (kindT T e 99 s1) = bc at *
                  generalize kindS T e 99 s1 = sk at *
                  go_wp2_with fail
                  refine (HKC.out _ HR.out).mono ?_; rintro e' w4 ⟨rfl, hR4, hK4⟩
                  have HR4 := hide hR4
                  clear hR4 c0 c1 c2 c3 c5 cf
                  go_wp2_with fail
                  refine (HTY.out _ HR4.out (later HX5.out hK4.size)).mono ?_; rintro e' w5 ⟨vt, rfl, hownt, hR5, hK5⟩
                  have HR5 := hide hR5.less
                  have hJ5 := hK4.trans hK5
                  have HFT := hide (fresh_row HX5.out hK4.size hownt)
                  have HOT := hide (ownsRow_le (base' := 0) hownt (Nat.zero_le _))
                  clear hR5 hK5 hownt hK4
                  go_wp2_with fail
                  refine (HN.out _ _ HR5.out HOT.out HFT.out).mono ?_; rintro e' w8 ⟨rfl, hR8, hK8⟩
                  have HR8 := hide hR8
                  have hJ8 := hJ5.trans hK8
                  have hown8 := HR.out.keep hJ8 hown (by decide) (by decide)
                  have hK8' := hK.trans hJ8
                  have hsz8 := hK8'.size
                  clear hR8 hK8 hJ5 hJ8 HR HR4 HR5 hown hK hKw
                  go_wp2_with (at_builtin; refine append_int rfl _ _ rfl nn.1 hown8 (by omega) hsz8 rfl rfl ?_)
                  intro v' w9 hown9 hgrow hblk
                  have HR9 := hide (HR8.out.appended hown8 hgrow hblk.out)
                  have hK9 := (hK8'.alloc (.cells #[.int .i64 nn.1] tyInt)).grownOwn hgrow (fun g hg => (hown8.lt g hg).1)
                  clear hown8 hgrow hblk HR8 hK8'
                  cases k9 : isSign T e K.bar_ nn.2
                  · rw [k9, cond_false] at hE
                    simp only [Option.some.injEq, Prod.mk.injEq] at hE
                    obtain ⟨hrest, hsl⟩ := hE
                    have hy := fun (wx : World) (zq : Rd T rb lv e (also X v') nn.2 wx) => sign_no k9 zq
                    rw [bsK_bar] at hy
                    have HSE := hide hy
                    have HE : Hid (VarsAt T e m nn.2 [] sl false) := Or.inr ⟨rfl, rfl, hsl⟩
                    have HAC : Hid ((acc ++ [nn.1]) ++ [] = l1 ++ vv) := by rw [← HACC.out, ← hrest, List.append_nil]; rfl
                    clear hy k9 hrest hsl HACC
                    go_wp2_with fail
                    refine (HSE.out _ HR9.out).mono ?_; rintro e' wa ⟨rfl, hRa, hKa⟩
                    have hK10 := hK9.trans hKa
                    have hown10 := HR9.out.keep hKa (show w9.ownsRow w3.heap.size tyInt 1 v' (acc ++ [nn.1]).length ((acc ++ [nn.1]).map intV) by simpa using hown9) (by decide) (by decide)
                    have HR10 := hide hRa
                    clear hRa hKa hK9 HR9 hown9
                    go_wp2_with fail
                    go_roundg m
                    case rel => exact ⟨nn.2, acc ++ [nn.1], [], false, by omega, by simp; omega, rfl, hown10, hK10, HR10, HE, HAC⟩
                    case measure => omega
                  · rw [k9, cond_true, Option.bind_eq_some_iff] at hE
                    obtain ⟨rl, hrl, hE⟩ := hE
                    simp only [Option.some.injEq, Prod.mk.injEq] at hE
                    obtain ⟨hrest, hsl⟩ := hE
                    have hy := fun (wx : World) (zq : Rd T rb lv e (also X v') nn.2 wx) => sign_yes k9 zq
                    rw [bsK_bar] at hy
                    have HSE := hide hy
                    have HE : Hid (VarsAt T e m (adv nn.2) rl.1 sl true) := Or.inl ⟨rfl, by rw [hrl, ← hsl]⟩
                    have HAC : Hid ((acc ++ [nn.1]) ++ rl.1 = l1 ++ vv) := by rw [← HACC.out, ← hrest, List.append_assoc]; rfl
                    clear hy k9 hrl hrest hsl HACC
                    go_wp2_with fail
                    refine (HSE.out _ HR9.out).mono ?_; rintro e' wa ⟨rfl, hRa, hKa⟩
                    have hK10 := hK9.trans hKa
                    have hown10 := HR9.out.keep hKa (show w9.ownsRow w3.heap.size tyInt 1 v' (acc ++ [nn.1]).length ((acc ++ [nn.1]).map intV) by simpa using hown9) (by decide) (by decide)
                    have HR10 := hide hRa
                    clear hRa hKa hK9 HR9 hown9
                    go_wp2_with fail
                    go_roundg m
                    case rel => exact ⟨adv nn.2, acc ++ [nn.1], rl.1, true, by omega, by simp; omega, rfl, hown10, hK10, HR10, HE, HAC⟩
                    case measure => omega
                · rw [hbad, cond_true] at hE
                  rw [hbad] at c3
                  simp only [Option.some.injEq, Prod.mk.injEq] at hE
                  obtain ⟨rfl, rfl⟩ := hE
                  have hacc := HACC.out
                  rw [List.append_nil] at hacc
                  have hq := HQ0.out
                  rw [← hacc] at hq
                  clear hacc HE HACC HQ0 hbad c0 c1 c2 c5 cf
                  have hy := fun (wx : World) (zq : Rd T rb lv e X s1 wx) y z => node_any (pv := u5) (w := wx) hq zq y z
                  rw [bsK_type] at hy
                  have HN := hide hy
                  have HRs := hide HR.out.less
                  have HOs := hide (ownsRow_le (base' := 0) hown (Nat.zero_le _))
                  have HFR := hide (fresh_row HX.out hsz3 hown)
                  clear hy hq hown
                  go_wp2_with fail
                  refine (HN.out _ HRs.out HOs.out HFR.out).mono ?_; rintro e' wz ⟨rfl, hRz, hKz⟩
                  have HRz := hide hRz
                  have hLz := hKw.trans hKz
                  clear hRz hKz
                  go_wp2_with fail
                  go_ret
                  exact ⟨rfl, HRz.out, hLz⟩

end Go.Proofs.YtnocnkblhjifjaaGreatDoor
