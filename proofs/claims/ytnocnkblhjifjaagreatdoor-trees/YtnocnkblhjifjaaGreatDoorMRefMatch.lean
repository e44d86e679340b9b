import Derived.Test.YtnocnkblhjifjaaGreatDoorMRefExpr
/-
  (*kilnref.Reader).match by its contract.
-/
namespace Go.Proofs.YtnocnkblhjifjaaGreatDoor
open Go.RowKit

theorem set_flat : ∀ (ns : List NodeP) (pvs : List Value) (m k : Nat), pvs.length = ns.length → m < ns.length →
    (List.zipWith nodeV ns pvs).flatten.set (m * 4 + 3) (.int .i64 k) = (List.zipWith nodeV (ns.modify m fun x => { x with mt := k }) pvs).flatten := by
  intro ns
  induction ns with
  | nil => intro pvs m k _ hm; simp at hm
  | cons x ns ih =>
    intro pvs m k hl hm
    cases pvs with
    | nil => simp at hl
    | cons pv pvs =>
      cases m with
      | zero => simp [nodeV]
      | succ m =>
        have h4 : (m + 1) * 4 + 3 = (nodeV x pv).length + (m * 4 + 3) := by simp [nodeV]; omega
        rw [List.zipWith_cons_cons, List.flatten_cons, h4, List.set_append_right _ _ (by omega), Nat.add_sub_cancel_left, ih pvs m k (by simpa using hl) (by simpa using hm)]
        simp

theorem flat_cell : ∀ (ns : List NodeP) (pvs : List Value) (m : Nat), pvs.length = ns.length → m < ns.length → ∃ v, (List.zipWith nodeV ns pvs).flatten[m * 4 + 3]? = some v := by
  intro ns pvs m hl hm
  refine ⟨_, List.getElem?_eq_getElem ?_⟩
  have : ∀ (ns : List NodeP) (pvs : List Value), pvs.length = ns.length → (List.zipWith nodeV ns pvs).flatten.length = ns.length * 4 := by
    intro ns
    induction ns with
    | nil => intro pvs _; simp
    | cons x ns ih =>
      intro pvs h
      cases pvs with
      | nil => simp at h
      | cons pv pvs => rw [List.zipWith_cons_cons, List.flatten_cons, List.length_append, ih pvs (by simpa using h)]; simp [nodeV]; omega
  rw [this ns pvs hl]; omega

theorem matchEnd_at {is name : List UInt8} {parts : List Nat} {s : RS} {q : Nat × RS} (h : nodeP is name parts s = some q) : q.1 < q.2.nodes.length := by
  obtain ⟨_, h2, h3⟩ := nodeP_some (r := q.1) (s' := q.2) h
  rw [h3, h2]; simp

/-- The number of a match is written into its node. -/
theorem Rd.atMatch {T : List (List UInt8)} {rb : Nat} {lv : Value} {e : Nat} {X : Nat → Prop} {s : RS} {w : World} (h : Rd T rb lv e X s w) {m : Nat} (hm : m < s.nodes.length) (k : Nat) :
    ∃ g cap, w.cell? ⟨rb, 4, none⟩ = some (.slice (some ⟨g, 0, none⟩) s.nodes.length cap) ∧ (∃ v, w.cell? ⟨g, m * 4 + 3, none⟩ = some v) ∧ w.frozen? ⟨g, m * 4 + 3, none⟩ = false ∧
      (Rd T rb lv e X { s with nodes := s.nodes.modify m fun x => { x with mt := k } } (w.setCell ⟨g, m * 4 + 3, none⟩ (.int .i64 k)) ∧ Kp rb w (w.setCell ⟨g, m * 4 + 3, none⟩ (.int .i64 k))) := by
  obtain ⟨nv, pvs, hb, hn⟩ := h.own
  rcases ownsRow_forms hn.row with ⟨_, hz⟩ | ⟨g, cap, rfl⟩
  · omega
  have hst := hn.row.stored (m * 4 + 3) (.int .i64 k)
  have hgr := hst.2
  have hkind : ∃ cur, w.heap[g]? = some (.cells cur tyNode (0, 0)) ∧ rb < g := by
    rcases hn.row.2 with ⟨he, _⟩ | ⟨g', cap', cur, he, hbg, hgg, _⟩
    · cases he
    · simp only [Value.slice.injEq, Option.some.injEq, Addr.mk.injEq, and_true, true_and] at he
      obtain ⟨rfl, _⟩ := he
      exact ⟨cur, hgg, hbg⟩
  obtain ⟨cur, hgg, hrg⟩ := hkind
  have keep : ∀ {base : Nat} {t : TypeId} {size : Nat} {v : Value} {n : Nat} {xs : List Value}, t ≠ tyNode → w.ownsRow base t size v n xs → (w.setCell ⟨g, m * 4 + 3, none⟩ (.int .i64 k)).ownsRow base t size v n xs := by
    intro base t size v n xs ht ho
    refine ho.kept hgr ?_
    rcases ho.2 with ⟨rfl, _⟩ | ⟨g', cap', cur', rfl, _, hgg', _⟩
    · exact .inl rfl
    · refine .inr (fun er => ?_)
      simp [Value.ownBlock] at er
      rw [er, hgg] at hgg'
      simp at hgg'
      exact ht hgg'.2.symm
  refine ⟨g, cap, by simp [World.cell?, hb, rdCells], ?_, hn.row.frozenAt _, ⟨h.e_le, h.t_le, h.tl, h.pos_le, h.mts_le, keep (by decide) h.toks, .slice (some ⟨g, 0, none⟩) s.nodes.length cap, pvs, ?_, by simp [hn.len], ?_, ?_, hn.sep⟩, ?_⟩
  · rw [hn.row.cellAt _ (by omega)]
    exact flat_cell s.nodes pvs m hn.len hm
  · rw [Below.heap_setCell _ _ _ _ (by show rb ≠ g; omega)]; exact hb
  · have := hst.1
    rw [set_flat s.nodes pvs m k hn.len hm] at this
    simpa using this
  · intro i y pv h1 h2
    refine keep (by decide) ?_
    rw [List.getElem?_modify] at h1
    cases hy : s.nodes[i]? with
    | none => rw [hy] at h1; simp at h1
    | some y0 =>
      rw [hy] at h1
      have hp := hn.parts i y0 pv hy h2
      split at h1 <;> (simp at h1; subst h1; exact hp)
  · exact (Kp.refl rb w).setNode (p := ⟨g, m * 4 + 3, none⟩) hgg hrg _

/-- What the rows are that are still to come: mb: there is one more at least. -/
def RowsAt (T : List (List UInt8)) (e gk : Nat) (s1 : RS) (rest : List Nat) (sl : RS) (mb : Bool) : Prop := (mb = true ∧ bindingP.rowsP T e gk s1 = some (rest, sl)) ∨ (mb = false ∧ rest = [] ∧ s1 = sl)

set_option maxRecDepth 100000 in
set_option maxHeartbeats 8000000 in
theorem match_any (T : List (List UInt8)) (rb : Nat) (lv : Value) (e : Nat) (N : Nat) (hN : N ≤ 900000) (hE : ∀ m, m < N → SaidExpr T rb lv e m) (hP : ∀ m, m < N → SaidPattern T rb lv e m) : SaidMatch T rb lv e N := by
  intro X s s' r w hm hmt h hX
  cases N with
  | zero => simp [bindingP.matchP] at hm
  | succ n =>
    rw [bindingP.matchP, Option.bind_eq_some_iff] at hm
    obtain ⟨x, hx, hm⟩ := hm
    rw [Option.bind_eq_some_iff] at hm
    obtain ⟨l, hl, hm⟩ := hm
    rw [matchEnd, Option.bind_eq_some_iff] at hm
    obtain ⟨q, hq, hm⟩ := hm
    simp only [Option.some.injEq, Prod.mk.injEq] at hm
    obtain ⟨rfl, rfl⟩ := hm
    have htl := h.t_le
    have hel := h.e_le
    have hpl := h.pos_le
    have hlt := h.lt
    obtain ⟨c0, c1, c2, c3, c5, cf⟩ := h.cell
    have HX := hide hX
    have HR0 := hide h
    have HRm := hide (h.setField 5 (.int .i64 (s.mts + 1)) { s with mts := s.mts + 1 } rfl h.pos_le hmt (fun nv => by simp [rdCells]))
    have HEE := hide hE
    have HPP := hide hP
    clear h hX hE hP
    have HEX := hide (fun (wx : World) (zq : Rd T rb lv e X ({ s with mts := s.mts + 1 }) wx) y => HEE.out (n) (by omega) X ({ s with mts := s.mts + 1 }) x.2 x.1 wx hx zq y)
    have hy := fun (wx : World) (zq : Rd T rb lv e X (x.2) wx) => want_any K.with_ zq
    rw [bsK_with] at hy
    have HW := hide hy
    clear hy
    obtain ⟨ll, sl⟩ := l
    simp only at hq hl
    have HE0 : Hid (RowsAt T e n (want T e K.with_ x.2) ll sl true) := Or.inl ⟨rfl, hl⟩
    have HQ0 := hide hq
    clear hx hl hq
    go_enter Tryz.func399, Tryz.ntmps399
    go_wp2_with fail
    refine (HEX.out _ HRm.out ?_).mono ?_
    · exact later HX.out (by simp [World.setCell])
    rintro e' w2 ⟨rfl, hR2, hK2⟩
    have hL2 := ((Kp.refl rb w).setR 5 (.int .i64 (s.mts + 1))).trans hK2
    have hsz2 := hL2.size
    have HR2 := hide ((hR2.widen (X' := also X (.slice (some ⟨w2.heap.size, 0, none⟩) 1 1)) (fun g hg => by
      rcases hg with hg | hg
      · exact Or.inl hg
      · simp [Value.ownBlock] at hg; exact Or.inr (by omega))).alloc (.cells #[.int .i64 x.1] tyInt))
    have hown2 := World.ownsRow_lit (base := w2.heap.size) (e := tyInt) (size := 1) w2 #[.int .i64 x.1] 1 (Nat.le_refl _) (by unfold maxLen; omega) rfl
    clear hR2 hK2 c0 c1 c2 c3 c5 cf HRm HR0
    have hy2 := fun (wx : World) (zq : Rd T rb lv e (also X (.slice (some ⟨w2.heap.size, 0, none⟩) 1 1)) x.2 wx) => want_any K.with_ zq
    rw [bsK_with] at hy2
    have HW2 := hide hy2
    clear hy2 HW
    go_wp2_with fail
    refine (HW2.out _ HR2.out).mono ?_; rintro e' w3 ⟨rfl, hR3, hK3⟩
    have hown3 := HR2.out.keep hK3 hown2 (by decide) (by decide)
    have hL3 := (hL2.alloc (.cells #[.int .i64 x.1] tyInt)).trans hK3
    have hM3 := ((Kp.refl rb w2).alloc (.cells #[.int .i64 x.1] tyInt)).trans hK3
    have HR3 := hide hR3
    clear hR3 hK3 HR2 hown2 HW2
    go_wp2_with fail
    go_loopg [5, 6] n (fun gk v mv wr => ∃ (s1 : RS) (acc rest : List Nat) (mb : Bool), gk ≤ n ∧ acc.length + gk ≤ n + 1 ∧ acc.length ≠ 0 ∧ mv = .bool mb ∧ wr.ownsRow w2.heap.size tyInt 1 v acc.length (acc.map intV) ∧ Kp rb w2 wr ∧ Hid (Rd T rb lv e (also X v) s1 wr) ∧ Hid (RowsAt T e gk s1 rest sl mb) ∧ Hid (acc ++ rest = x.1 :: ll))
    case atStart => exact ⟨want T e K.with_ x.2, [x.1], ll, true, Nat.le_refl _, by simp; omega, by simp, rfl, hown3, hM3, HR3, HE0, rfl⟩
    case round =>
      clear HE0 HR3 hown3 hM3 hL3
      obtain ⟨s1, acc, rest, mb, hgk, hlen, hn0, rfl, hown, hK, HR, HE, HACC⟩ := hrel
      have hKw := hL2.trans hK
      cases mb with
      | false =>
        have hE := HE.out
        unfold RowsAt at hE
        simp only [Bool.false_eq_true, false_and, true_and, false_or] at hE
        obtain ⟨rfl, rfl⟩ := hE
        have hacc := HACC.out
        rw [List.append_nil] at hacc
        have hq := HQ0.out
        rw [← hacc] at hq
        clear hacc HE HACC HQ0
        by_cases hgt : 13 < acc.length
        · have hlenb : decide ((13 : Int) < (acc.length : Int)) = true := by simp; omega
          obtain ⟨c0, c1, c2, c3, c5, cf⟩ := HR.out.cell
          have hz := HR.out.lt
          have HRs := hide HR.out.setBad.less
          have hKs := hKw.setR 3 (.bool true)
          have HOs := hide (ownsRow_le (base' := 0) (HR.out.keep ((Kp.refl rb wr).setR 3 (.bool true)) hown (by decide) (by decide)) (Nat.zero_le _))
          have HFR := hide (fresh_row HX.out hsz2 hown)
          have hy := fun (wx : World) (zq : Rd T rb lv e X (spoil s1) wx) y z => node_any (pv := u5) (w := wx) (by rw [if_pos hgt] at hq; exact hq) zq y z
          rw [bsK_match, bsK_nil] at hy
          have HN := hide hy
          have HQ := hide (matchEnd_at hq)
          clear hy hq hgt
          rcases ownsRow_forms hown with ⟨_, hzz⟩ | ⟨g5, cap5, rfl⟩
          · exact absurd hzz hn0
          clear hown
          go_wp2_with fail
          refine (HN.out _ HRs.out HOs.out HFR.out).mono ?_; rintro e' w4 ⟨rfl, hR4, hK4⟩
          have hL4 := hKs.trans hK4
          have hz4 := hR4.lt
          obtain ⟨gn, capn, d4, ⟨dv, dn⟩, dfz, hset⟩ := hR4.atMatch HQ.out s.mts
          have dfb := hR4.cell.2.2.2.2.2
          have HSET := hide hset
          have hqn := HQ.out
          clear hR4 hK4 hset c0 c1 c2 c3 c5 cf HRs HOs HR
          go_wp2_with fail
          go_ret
          exact ⟨rfl, HSET.out.1, hL4.trans HSET.out.2⟩
        · have hlenb : decide ((13 : Int) < (acc.length : Int)) = false := by simp; omega
          have HRs := hide HR.out.less
          have hKs := hKw
          have HOs := hide (ownsRow_le (base' := 0) hown (Nat.zero_le _))
          have HFR := hide (fresh_row HX.out hsz2 hown)
          have hy := fun (wx : World) (zq : Rd T rb lv e X s1 wx) y z => node_any (pv := u5) (w := wx) (by rw [if_neg hgt] at hq; exact hq) zq y z
          rw [bsK_match, bsK_nil] at hy
          have HN := hide hy
          have HQ := hide (matchEnd_at hq)
          clear hy hq hgt
          rcases ownsRow_forms hown with ⟨_, hzz⟩ | ⟨g5, cap5, rfl⟩
          · exact absurd hzz hn0
          clear hown
          go_wp2_with fail
          refine (HN.out _ HRs.out HOs.out HFR.out).mono ?_; rintro e' w4 ⟨rfl, hR4, hK4⟩
          have hL4 := hKs.trans hK4
          have hz4 := hR4.lt
          obtain ⟨gn, capn, d4, ⟨dv, dn⟩, dfz, hset⟩ := hR4.atMatch HQ.out s.mts
          have dfb := hR4.cell.2.2.2.2.2
          have HSET := hide hset
          have hqn := HQ.out
          clear hR4 hK4 hset HRs HOs HR
          go_wp2_with fail
          go_ret
          exact ⟨rfl, HSET.out.1, hL4.trans HSET.out.2⟩
      | true =>
        have hE := HE.out
        unfold RowsAt at hE
        simp only [Bool.true_eq_false, false_and, true_and, or_false] at hE
        cases gk with
        | zero => simp [bindingP.rowsP] at hE
        | succ m =>
          rw [bindingP.rowsP] at hE
          obtain ⟨c0, c1, c2, c3, c5, cf⟩ := HR.out.cell
          cases hbad : s1.bad
          · rw [hbad, cond_false] at hE
            rw [hbad] at c3
            simp only [Option.bind_eq_some_iff] at hE
            obtain ⟨p, hp, a, ha, nn, hnn, hE⟩ := hE
            clear hbad HE
            have hX5 := also_lt HX.out hKw.size hown
            have HX5 := hide hX5
            clear hX5
            have hy := fun (wx : World) (zq : Rd T rb lv e (also X u5) s1 wx) => want_any K.bar_ zq
            rw [bsK_bar] at hy
            have HWB := hide hy
            clear hy
            have HPT := hide (fun (wx : World) (zq : Rd T rb lv e (also X u5) (want T e K.bar_ s1) wx) y => HPP.out m (by omega) (also X u5) _ p.2 p.1 wx hp zq y)
            have hy := fun (wx : World) (zq : Rd T rb lv e (also X u5) p.2 wx) => want_any K.arrow_ zq
            rw [bsK_arrow] at hy
            have HWA := hide hy
            clear hy
            have HEA := hide (fun (wx : World) (zq : Rd T rb lv e (also X u5) (want T e K.arrow_ p.2) wx) y => HEE.out m (by omega) (also X u5) _ a.2 a.1 wx ha zq y)
            have hy := fun (pv : Value) (wx : World) (zq : Rd T rb lv e (also X u5) a.2 wx) y z => node_any (pv := pv) (w := wx) hnn zq y z
            rw [bsK_row, bsK_nil] at hy
            have HN := hide hy
            clear hy hp ha hnn
            go_wp2_with fail
            refine (HWB.out _ HR.out).mono ?_; rintro e' w4 ⟨rfl, hR4, hK4⟩
            have HR4 := hide hR4
            clear hR4 c0 c1 c2 c3 c5 cf
            go_wp2_with fail
            refine (HPT.out _ HR4.out (later HX5.out hK4.size)).mono ?_; rintro e' w5 ⟨rfl, hR5, hK5⟩
            have HR5 := hide hR5
            have hJ5 := hK4.trans hK5
            clear hR5 hK5 hK4
            go_wp2_with fail
            refine (HWA.out _ HR5.out).mono ?_; rintro e' w6 ⟨rfl, hR6, hK6⟩
            have HR6 := hide hR6
            have hJ6 := hJ5.trans hK6
            clear hR6 hK6
            go_wp2_with fail
            refine (HEA.out _ HR6.out (later HX5.out hJ6.size)).mono ?_; rintro e' w7 ⟨rfl, hR7, hK7⟩
            have HR7 := hide hR7
            have hJ7 := hJ6.trans hK7
            clear hR7 hK7
            go_wp2_with fail
            refine (HN.out _ _ (HR7.out.alloc _) (lit2 w7 p.1 a.1) (fresh HX5.out hJ7.size)).mono ?_; rintro e' w8 ⟨rfl, hR8, hK8⟩
            have HR8 := hide hR8
            have hJ8 := (hJ7.alloc (.cells #[.int .i64 p.1, .int .i64 a.1] tyInt)).trans hK8
            have hown8 := HR.out.keep hJ8 hown (by decide) (by decide)
            have hK8' := hK.trans hJ8
            have hsz8 := hK8'.size
            clear hR8 hK8 hJ5 hJ6 hJ7 hJ8 HR HR4 HR5 HR6 HR7 hown hK hKw
            go_wp2_with (at_builtin; refine append_int rfl _ _ rfl nn.1 hown8 (by omega) hsz8 rfl rfl ?_)
            intro v' w9 hown9 hgrow hblk
            have HR9 := hide (HR8.out.appended hown8 hgrow hblk.out)
            have hK9 := (hK8'.alloc (.cells #[.int .i64 nn.1] tyInt)).grownOwn hgrow (fun g hg => (hown8.lt g hg).1)
            clear hown8 hgrow hblk HR8 hK8'
            cases k9 : isSign T e K.end_ nn.2
            · rw [k9, cond_false, Option.bind_eq_some_iff] at hE
              obtain ⟨rl, hrl, hE⟩ := hE
              simp only [Option.some.injEq, Prod.mk.injEq] at hE
              obtain ⟨hrest, hsl⟩ := hE
              have hy := fun (wx : World) (zq : Rd T rb lv e (also X v') nn.2 wx) => sign_no k9 zq
              rw [bsK_end] at hy
              have HSE := hide hy
              have HE : Hid (RowsAt T e m nn.2 rl.1 sl true) := Or.inl ⟨rfl, by rw [hrl, ← hsl]⟩
              have HAC : Hid ((acc ++ [nn.1]) ++ rl.1 = x.1 :: ll) := by rw [← HACC.out, ← hrest, List.append_assoc]; rfl
              clear hy k9 hrl hrest hsl HACC
              go_wp2_with fail
              refine (HSE.out _ HR9.out).mono ?_; rintro e' wa ⟨rfl, hRa, hKa⟩
              have hK10 := hK9.trans hKa
              have hown10 := HR9.out.keep hKa (show w9.ownsRow w2.heap.size tyInt 1 v' (acc ++ [nn.1]).length ((acc ++ [nn.1]).map intV) by simpa using hown9) (by decide) (by decide)
              have HR10 := hide hRa
              clear hRa hKa hK9 HR9 hown9
              go_wp2_with fail
              go_roundg m
              case rel => exact ⟨nn.2, acc ++ [nn.1], rl.1, true, by omega, by simp; omega, by simp, rfl, hown10, hK10, HR10, HE, HAC⟩
              case measure => omega
            · rw [k9, cond_true] at hE
              simp only [Option.some.injEq, Prod.mk.injEq] at hE
              obtain ⟨hrest, hsl⟩ := hE
              have hy := fun (wx : World) (zq : Rd T rb lv e (also X v') nn.2 wx) => sign_yes k9 zq
              rw [bsK_end] at hy
              have HSE := hide hy
              have HE : Hid (RowsAt T e m (adv nn.2) [] sl false) := Or.inr ⟨rfl, rfl, hsl⟩
              have HAC : Hid ((acc ++ [nn.1]) ++ [] = x.1 :: ll) := by rw [← HACC.out, ← hrest, List.append_nil]; rfl
              clear hy k9 hrest hsl HACC
              go_wp2_with fail
              refine (HSE.out _ HR9.out).mono ?_; rintro e' wa ⟨rfl, hRa, hKa⟩
              have hK10 := hK9.trans hKa
              have hown10 := HR9.out.keep hKa (show w9.ownsRow w2.heap.size tyInt 1 v' (acc ++ [nn.1]).length ((acc ++ [nn.1]).map intV) by simpa using hown9) (by decide) (by decide)
              have HR10 := hide hRa
              clear hRa hKa hK9 HR9 hown9
              go_wp2_with fail
              go_roundg m
              case rel => exact ⟨adv nn.2, acc ++ [nn.1], [], false, by omega, by simp; omega, by simp, rfl, hown10, hK10, HR10, HE, HAC⟩
              case measure => omega
          · rw [hbad, cond_true] at hE
            rw [hbad] at c3
            simp only [Option.some.injEq, Prod.mk.injEq] at hE
            obtain ⟨rfl, rfl⟩ := hE
            have hacc := HACC.out
            rw [List.append_nil] at hacc
            have hq := HQ0.out
            rw [← hacc] at hq
            clear hacc HE HACC HQ0 hbad c0 c1 c2 c5 cf
            by_cases hgt : 13 < acc.length
            · have hlenb : decide ((13 : Int) < (acc.length : Int)) = true := by simp; omega
              obtain ⟨c0, c1, c2, c3, c5, cf⟩ := HR.out.cell
              have hz := HR.out.lt
              have HRs := hide HR.out.setBad.less
              have hKs := hKw.setR 3 (.bool true)
              have HOs := hide (ownsRow_le (base' := 0) (HR.out.keep ((Kp.refl rb wr).setR 3 (.bool true)) hown (by decide) (by decide)) (Nat.zero_le _))
              have HFR := hide (fresh_row HX.out hsz2 hown)
              have hy := fun (wx : World) (zq : Rd T rb lv e X (spoil s1) wx) y z => node_any (pv := u5) (w := wx) (by rw [if_pos hgt] at hq; exact hq) zq y z
              rw [bsK_match, bsK_nil] at hy
              have HN := hide hy
              have HQ := hide (matchEnd_at hq)
              clear hy hq hgt
              rcases ownsRow_forms hown with ⟨_, hzz⟩ | ⟨g5, cap5, rfl⟩
              · exact absurd hzz hn0
              clear hown
              go_wp2_with fail
              refine (HN.out _ HRs.out HOs.out HFR.out).mono ?_; rintro e' w4 ⟨rfl, hR4, hK4⟩
              have hL4 := hKs.trans hK4
              have hz4 := hR4.lt
              obtain ⟨gn, capn, d4, ⟨dv, dn⟩, dfz, hset⟩ := hR4.atMatch HQ.out s.mts
              have dfb := hR4.cell.2.2.2.2.2
              have HSET := hide hset
              have hqn := HQ.out
              clear hR4 hK4 hset c0 c1 c2 c3 c5 cf HRs HOs HR
              go_wp2_with fail
              go_ret
              exact ⟨rfl, HSET.out.1, hL4.trans HSET.out.2⟩
            · have hlenb : decide ((13 : Int) < (acc.length : Int)) = false := by simp; omega
              have HRs := hide HR.out.less
              have hKs := hKw
              have HOs := hide (ownsRow_le (base' := 0) hown (Nat.zero_le _))
              have HFR := hide (fresh_row HX.out hsz2 hown)
              have hy := fun (wx : World) (zq : Rd T rb lv e X s1 wx) y z => node_any (pv := u5) (w := wx) (by rw [if_neg hgt] at hq; exact hq) zq y z
              rw [bsK_match, bsK_nil] at hy
              have HN := hide hy
              have HQ := hide (matchEnd_at hq)
              clear hy hq hgt
              rcases ownsRow_forms hown with ⟨_, hzz⟩ | ⟨g5, cap5, rfl⟩
              · exact absurd hzz hn0
              clear hown
              go_wp2_with fail
              refine (HN.out _ HRs.out HOs.out HFR.out).mono ?_; rintro e' w4 ⟨rfl, hR4, hK4⟩
              have hL4 := hKs.trans hK4
              have hz4 := hR4.lt
              obtain ⟨gn, capn, d4, ⟨dv, dn⟩, dfz, hset⟩ := hR4.atMatch HQ.out s.mts
              have dfb := hR4.cell.2.2.2.2.2
              have HSET := hide hset
              have hqn := HQ.out
              clear hR4 hK4 hset HRs HOs HR
              go_wp2_with fail
              go_ret
              exact ⟨rfl, HSET.out.1, hL4.trans HSET.out.2⟩

end Go.Proofs.YtnocnkblhjifjaaGreatDoor
