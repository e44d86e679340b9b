import Derived.Test.YtnocnkblhjifjaaGreatDoorMParseP
import Derived.Test.YtnocnkblhjifjaaGreatDoorMRefDecl
import Derived.Test.YtnocnkblhjifjaaGreatDoorMRefText
import Derived.Test.YtnocnkblhjifjaaGreatDoorMRefNext
import Derived.Test.YtnocnkblhjifjaaGreatDoorMPlain
/-
  kilnref.Parse by its contract.
-/
namespace Go.Proofs.YtnocnkblhjifjaaGreatDoor
open Go.RowKit

def noX : Nat → Prop := fun _ => False

theorem Kp.to_below {rb : Nat} {W w w' : World} (hb : Below W.heap.size W w) (hr : W.heap.size ≤ rb) (hrw : rb < w.heap.size) (h : Kp rb w w') : Below W.heap.size W w' :=
  ⟨h.os.trans hb.os, h.tape.trans hb.tape, h.output.trans hb.output, Nat.le_trans hb.size h.size, fun k hk => by
    rw [h.block k (by omega) (by omega) (Or.inl (by omega)), hb.block k hk]⟩

/-- The inner loop's test at a token. -/
theorem dot_kind : tokKind K.dot_ = 119 := by decide

theorem Rd.drewN' {T : List (List UInt8)} {rb : Nat} {lv : Value} {e : Nat} {X : Nat → Prop} {s : RS} {w : World} (h : Rd T rb lv e X s w) (n : Nat) : Rd T rb lv e X s (w.drewN n) := h.below (below_drewN (Below.refl _ _) n)

theorem Kp.drewN' {rb : Nat} {a w : World} (h : Kp rb a w) (n : Nat) : Kp rb a (w.drewN n) := ⟨h.os, h.tape, h.output, h.size, h.block⟩

theorem drewN_own {w : World} {base : Nat} {e : TypeId} {size : Nat} {v : Value} {n : Nat} {xs : List Value} (h : w.ownsRow base e size v n xs) (k : Nat) : (w.drewN k).ownsRow base e size v n xs := h

theorem also_noX {w2 : World} {b k n : Nat} {t : TypeId} {v : Value} {xs : List Value} (hown : w2.ownsRow b t k v n xs) : ∀ g, also noX v g → g < w2.heap.size := by
  intro g hg
  rcases hg with hg | hg
  · exact False.elim hg
  · exact (hown.lt g hg).2

theorem parse_bad {T : List (List UInt8)} {F m E : Nat} {q : Nat × RS} {acc : List Nat} {R : List Nat × Nat × Nat} {s' : RS} (h : (if q.2.bad = true ∨ q.2.pos ≠ E ∨ E = T.length then some (([], acc.length, 3), q.2) else parseP T F m (adv q.2) (acc ++ [q.1])) = some (R, s')) (hc : q.2.bad = true ∨ q.2.pos ≠ E ∨ E = T.length) : R = ([], acc.length, 3) ∧ s' = q.2 := by
  rw [if_pos hc] at h
  simp only [Option.some.injEq, Prod.mk.injEq] at h
  exact ⟨h.1.symm, h.2.symm⟩

theorem parse_on {T : List (List UInt8)} {F m E : Nat} {q : Nat × RS} {acc : List Nat} {R : List Nat × Nat × Nat} {s' : RS} (h : (if q.2.bad = true ∨ q.2.pos ≠ E ∨ E = T.length then some (([], acc.length, 3), q.2) else parseP T F m (adv q.2) (acc ++ [q.1])) = some (R, s')) (h1 : q.2.bad = false) (h2 : q.2.pos = E) (h3 : ¬ E = T.length) : parseP T F m (adv q.2) (acc ++ [q.1]) = some (R, s') := by
  rw [if_neg (by simp [h1, h2, h3])] at h
  exact h

set_option maxRecDepth 100000 in
set_option maxHeartbeats 8000000 in
theorem parse_any (F M : Nat) (hF : F ≤ 900000) (hM : M ≤ 10000) (txt : ByteArray) (w : World) (hs : txt.size ≤ maxLen) (hok : (cutL txt.data.toList).2.2 = 0) (R : List Nat × Nat × Nat) (s' : RS)
    (htl4 : ∀ t ∈ (cutL txt.data.toList).1, t.length ≤ 4000)
    (hp : parseP (cutL txt.data.toList).1 F M ⟨0, false, [], 0⟩ [] = some (R, s')) :
    Calls Tryz.prog 54 #[.string txt] w fun e' w' => ∃ rb v lv e1 X, e' = .returned (.tuple #[.pointer (some ⟨rb, 0, none⟩), v, .int .i64 R.2.1, .int .i64 R.2.2]) ∧ w'.ownsRow w.heap.size tyInt 1 v R.1.length (R.1.map intV) ∧ Rd (cutL txt.data.toList).1 rb lv e1 X s' w' ∧ Below w.heap.size w w' ∧ R.1.length ≤ M := by
  have hc := refCut_any txt w hs
  have hlen := cutL_len txt.data.toList
  rw [hok] at hc
  generalize (cutL txt.data.toList).2.1 = at_ at *
  generalize (cutL txt.data.toList).1 = T at *
  have HC := hide hc
  have HP := hide hp
  have HTL := hide htl4
  clear hc hp htl4 hok
  go_enter Tryz.func54, Tryz.ntmps54
  go_wp2_with fail
  refine (HC.out).mono ?_; rintro e' w1 ⟨lv, rfl, hownT, hbel1⟩
  have hsz1 := hbel1.size
  rcases ownsRow_forms hownT with ⟨rfl, hz0⟩ | ⟨gt, capt, rfl⟩
  · have hT : T = [] := List.length_eq_zero_iff.1 hz0
    subst hT
    have hfin : R = ([], 0, 0) ∧ s' = ⟨0, false, [], 0⟩ ∧ 0 ≤ M := by
      have := HP.out
      cases M with
      | zero => simp [parseP] at this
      | succ n =>
        rw [parseP, if_neg (by simp)] at this
        simp only [Option.some.injEq, Prod.mk.injEq] at this
        exact ⟨this.1.symm, this.2.symm, Nat.zero_le _⟩
    have hRd0 : Rd [] w1.heap.size (.slice none 0 0) 0 noX ⟨0, false, [], 0⟩ (w1.alloc (.cells #[.slice none 0 0, .int .i64 0, .int .i64 0, .bool false, .slice none 0 0, .int .i64 0] tyReader)) :=
      ⟨Nat.zero_le _, hlen, HTL.out, Nat.zero_le _, Nat.le_refl _, World.ownsRow_nil _ _ _ _, .slice none 0 0, [], by rw [heap_alloc_new]; rfl, rfl, World.ownsRow_nil _ _ _ _, fun i x pv h => by simp at h, fun pv h => by simp at h⟩
    have HFIN := hide hfin
    have HR0 := hide hRd0
    clear hfin hRd0 hownT hz0 HP HC
    go_wp2_with fail
    refine wp_loop_rounds 1 ?_
    rw [rounds_succ]
    go_wp2_with fail
    refine bodyPost_ret (v := .tuple #[.pointer (some ⟨w1.heap.size, 0, none⟩), .slice none 0 0, .int .i64 0, .int .i64 0]) (by simp [results, Tryz.results54, go_sem]) rfl ?_
    obtain ⟨hfR, hfs, _⟩ := HFIN.out
    rw [hfR, hfs]
    exact ⟨w1.heap.size, .slice none 0 0, _, _, _, rfl, World.ownsRow_nil _ _ _ _, HR0.out, hbel1.alloc hsz1 _, Nat.zero_le _⟩
  · have hRd0 : Rd T w1.heap.size (.slice (some ⟨gt, 0, none⟩) T.length capt) 0 (also noX (.slice none 0 0)) ⟨0, false, [], 0⟩ (w1.alloc (.cells #[.slice (some ⟨gt, 0, none⟩) T.length capt, .int .i64 0, .int .i64 0, .bool false, .slice none 0 0, .int .i64 0] tyReader)) :=
      ⟨Nat.zero_le _, hlen, HTL.out, Nat.zero_le _, Nat.le_refl _, ownsRow_le (hownT.alloc _) (Nat.zero_le _), .slice none 0 0, [], by rw [heap_alloc_new]; rfl, rfl, World.ownsRow_nil _ _ _ _, fun i x pv h => by simp at h, fun pv h => by simp at h⟩
    have HR0 := hide hRd0
    have HTO := hide (ownsRow_le (base' := 0) hownT (Nat.zero_le _))
    have hgtl := (hownT.lt gt rfl).2
    clear hRd0
    go_wp2_with fail
    have hbelR : Below w.heap.size w (w1.alloc (.cells #[.slice (some ⟨gt, 0, none⟩) T.length capt, .int .i64 0, .int .i64 0, .bool false, .slice none 0 0, .int .i64 0] tyReader)) := hbel1.alloc hsz1 _
    have hltR : w1.heap.size < (w1.alloc (.cells #[.slice (some ⟨gt, 0, none⟩) T.length capt, .int .i64 0, .int .i64 0, .bool false, .slice none 0 0, .int .i64 0] tyReader)).heap.size := by simp
    generalize hwR : w1.alloc (.cells #[.slice (some ⟨gt, 0, none⟩) T.length capt, .int .i64 0, .int .i64 0, .bool false, .slice none 0 0, .int .i64 0] tyReader) = wR at *
    clear hwR hownT
    go_loopg [10] M (fun gk v wr => ∃ (s1 : RS) (acc : List Nat) (e1 : Nat), gk ≤ M ∧ acc.length + gk ≤ M ∧ wr.ownsRow wR.heap.size tyInt 1 v acc.length (acc.map intV) ∧ Kp w1.heap.size wR wr ∧ Hid (Rd T w1.heap.size (.slice (some ⟨gt, 0, none⟩) T.length capt) e1 (also noX v) s1 wr) ∧ Hid (parseP T F gk s1 acc = some (R, s')))
    case atStart => exact ⟨_, [], 0, Nat.le_refl _, by simp, World.ownsRow_nil _ _ _ _, Kp.refl _ _, HR0, HP⟩
    case round =>
      clear HR0 HP
      obtain ⟨s1, acc, e1, hgk, hal, hown, hKr, HR, HD⟩ := hrel
      obtain ⟨c0, c1, c2, c3, c5, cf⟩ := HR.out.cell
      have hltr := HR.out.lt
      have hpl := HR.out.pos_le
      cases gk with
      | zero => have := HD.out; simp [parseP] at this
      | succ m =>
        have hD := HD.out
        rw [parseP] at hD
        clear HD
        by_cases hlt : s1.pos < T.length
        · rw [if_pos hlt, Option.bind_eq_some_iff] at hD
          obtain ⟨q, hq, hD⟩ := hD
          have hE := endAt_le T s1.pos (by omega)
          generalize hEd : endAt T s1.pos = E at hq hD hE
          have HEE : Hid (endAt T s1.pos = E) := hEd
          have HD := hide hD
          have hd0 : decide ((s1.pos : Int) < (T.length : Int)) = true := by simp; omega
          clear hD hEd
          rcases ownsRow_forms hown with ⟨rfl, hz0⟩ | ⟨go, capo, rfl⟩
          · have hac : acc = [] := List.length_eq_zero_iff.1 hz0
            subst hac
            clear hz0
            have HDC := hide (fun (wx : World) (zq : Rd T w1.heap.size (.slice (some ⟨gt, 0, none⟩) T.length capt) E (also noX (.slice none 0 0)) s1 wx) y => decl_any T w1.heap.size (.slice (some ⟨gt, 0, none⟩) T.length capt) E F hF (also noX (.slice none 0 0)) s1 q.2 q.1 wx hq zq y)
            clear hq
            go_wp2_with fail
            go_loopg [40] (E - s1.pos) (fun gk2 _ wi => ∃ j : Nat, s1.pos ≤ j ∧ j ≤ E ∧ gk2 = E - j ∧ Kp w1.heap.size wr wi ∧ Hid (endAt T j = E) ∧ Hid (Rd T w1.heap.size (.slice (some ⟨gt, 0, none⟩) T.length capt) j (also noX (.slice none 0 0)) s1 wi))
            case atStart => exact ⟨s1.pos, Nat.le_refl _, hE.1, rfl, (Kp.refl _ _).setR _ _, HEE, HR.out.setEnd s1.pos (by omega)⟩
            case round =>
              obtain ⟨j, hj1, hj2, rfl, hKi, HEJ, HRj⟩ := hrel
              obtain ⟨c0, c1, c2, c3, c5, cf⟩ := HRj.out.cell
              have hltj := HRj.out.lt
              by_cases hjT : j < T.length
              · have t0 := ((HRj.out.toks).cellAt (j * 2) (by omega)).trans (tok_cells T j hjT).1
                have t1 := ((HRj.out.toks).cellAt (j * 2 + 1) (by omega)).trans (tok_cells T j hjT).2
                have hd1 : decide ((j : Int) < (T.length : Int)) = true := by simp; omega
                by_cases hdot : T.getD j [] = K.dot_
                · have hjE : j = E := (endAt_stop T j hjT hdot).symm.trans HEJ.out
                  rw [hdot, dot_kind] at t0
                  rw [hdot, bsK_dot] at t1
                  have hjE' := hjE.symm
                  clear hjE
                  subst hjE'
                  have HRi := hide HRj.out
                  have hk1 : ((119 : Int) != 119) = false := by decide
                  clear hdot HEJ HRj
                  have hown4 := HR.out.keep hKi hown (by decide) (by decide)
                  have hKr4 := hKr.trans hKi
                  go_wp2_with fail
                  refine (HDC.out _ HRi.out (also_noX hown4)).mono ?_
                  rintro e' w5 ⟨rfl, hR5, hK5⟩
                  have hown5 := HRi.out.keep hK5 hown4 (by decide) (by decide)
                  have hKr5 := hKr4.trans hK5
                  obtain ⟨c0, c1, c2, c3, c5, cf⟩ := hR5.cell
                  have hlt5 := hR5.lt
                  have HR5 := hide hR5
                  clear hR5 hK5 hown4 hKr4 HRi hKi
                  cases hqb : q.2.bad
                  · rw [hqb] at c3
                    by_cases hqp : q.2.pos = E
                    · have hb1 : ((q.2.pos : Int) != (E : Int)) = false := by simp [hqp]
                      by_cases hqe : E = T.length
                      · have hb2 : ((E : Int) == (T.length : Int)) = true := by simp [hqe]
                        have hfin : R = ([], ([] : List Nat).length, 3) ∧ s' = q.2 := parse_bad HD.out (Or.inr (Or.inr hqe))
                        have HFIN := hide hfin
                        clear hfin hqe hqp hqb HD
                        go_wp2_with fail
                        go_quiet (fail)
                        have HRq := hide (Rd.drewN' HR5.out nq)
                        have hKq := Kp.drewN' hKr5 nq
                        have hownq := drewN_own hown5 nq
                        generalize w5.drewN nq = wq at *
                        go_wp2_with fail
                        refine bodyPost_ret (v := .tuple #[.pointer (some ⟨w1.heap.size, 0, none⟩), .slice none 0 0, .int .i64 ([] : List Nat).length, .int .i64 3]) (by simp [results, Tryz.results54, go_sem]) rfl ?_
                        obtain ⟨hfR, hfs⟩ := HFIN.out
                        rw [hfR, hfs]
                        exact ⟨w1.heap.size, .slice none 0 0, _, _, _, rfl, World.ownsRow_nil _ _ _ _, HRq.out, Kp.to_below hbelR hsz1 hltR hKq, Nat.zero_le _⟩
                      · have hb2 : ((E : Int) == (T.length : Int)) = false := by simp; omega
                        have hgo : parseP T F m (adv q.2) ([] ++ [q.1]) = some (R, s') := parse_on HD.out hqb hqp hqe
                        have HGO := hide hgo
                        have hqlt : q.2.pos < T.length := by omega
                        clear hqe hqb hqp HD hgo
                        go_wp2_with fail
                        go_quiet (fail)
                        have HRq := hide (Rd.drewN' HR5.out nq)
                        have hKq := Kp.drewN' hKr5 nq
                        have hownq := drewN_own hown5 nq
                        generalize w5.drewN nq = wq at *
                        have hszq := hKq.size
                        clear HR5 hKr5 hown5 c0 c1 c2 c3 c5 cf
                        go_wp2_with (at_builtin; refine append_int rfl _ _ rfl q.1 hownq (by omega) hszq rfl rfl ?_)
                        intro v' w6 hown6 hgrow hblk
                        have HR6 := hide (HRq.out.appended hownq hgrow hblk.out)
                        have hK6 := (hKq.alloc (.cells #[.int .i64 q.1] tyInt)).grownOwn hgrow (fun g hg => (hownq.lt g hg).1)
                        obtain ⟨d0, d1, d2, d3, d5, df⟩ := HR6.out.cell
                        have hlt6 := HR6.out.lt
                        clear hgrow hblk hownq HRq hKq
                        go_wp2_with fail
                        go_roundg m
                        case rel => exact ⟨adv q.2, [] ++ [q.1], E, by omega, by simp; omega, by have := HR6.out.keep ((Kp.refl w1.heap.size w6).setR 1 (.int .i64 (q.2.pos + 1))) hown6 (by decide) (by decide); simpa using this, hK6.setR _ _, HR6.out.step hqlt, HGO⟩
                        case measure => omega
                    · have hb1 : ((q.2.pos : Int) != (E : Int)) = true := by simp; omega
                      have hfin : R = ([], ([] : List Nat).length, 3) ∧ s' = q.2 := parse_bad HD.out (Or.inr (Or.inl hqp))
                      have HFIN := hide hfin
                      clear hfin hqp hqb HD
                      go_wp2_with fail
                      go_quiet (fail)
                      have HRq := hide (Rd.drewN' HR5.out nq)
                      have hKq := Kp.drewN' hKr5 nq
                      have hownq := drewN_own hown5 nq
                      generalize w5.drewN nq = wq at *
                      go_wp2_with fail
                      refine bodyPost_ret (v := .tuple #[.pointer (some ⟨w1.heap.size, 0, none⟩), .slice none 0 0, .int .i64 ([] : List Nat).length, .int .i64 3]) (by simp [results, Tryz.results54, go_sem]) rfl ?_
                      obtain ⟨hfR, hfs⟩ := HFIN.out
                      rw [hfR, hfs]
                      exact ⟨w1.heap.size, .slice none 0 0, _, _, _, rfl, World.ownsRow_nil _ _ _ _, HRq.out, Kp.to_below hbelR hsz1 hltR hKq, Nat.zero_le _⟩
                  · rw [hqb] at c3
                    have hfin : R = ([], ([] : List Nat).length, 3) ∧ s' = q.2 := parse_bad HD.out (Or.inl hqb)
                    have HFIN := hide hfin
                    clear hfin hqb HD
                    go_wp2_with fail
                    go_quiet (fail)
                    have HRq := hide (Rd.drewN' HR5.out nq)
                    have hKq := Kp.drewN' hKr5 nq
                    have hownq := drewN_own hown5 nq
                    generalize w5.drewN nq = wq at *
                    go_wp2_with fail
                    refine bodyPost_ret (v := .tuple #[.pointer (some ⟨w1.heap.size, 0, none⟩), .slice none 0 0, .int .i64 ([] : List Nat).length, .int .i64 3]) (by simp [results, Tryz.results54, go_sem]) rfl ?_
                    obtain ⟨hfR, hfs⟩ := HFIN.out
                    rw [hfR, hfs]
                    exact ⟨w1.heap.size, .slice none 0 0, _, _, _, rfl, World.ownsRow_nil _ _ _ _, HRq.out, Kp.to_below hbelR hsz1 hltR hKq, Nat.zero_le _⟩
                · have HEn := hide ((endAt_on T j hjT hdot).symm.trans HEJ.out)
                  have hjE : j ≠ E := by
                    intro h
                    have h1 := HEn.out
                    have h2 := endAt_le T (j + 1) (by omega)
                    omega
                  have HRn := hide (HRj.out.setEnd (j + 1) (by omega))
                  cases hk : (tokKind (T.getD j []) == 119)
                  · have hk1 : (tokKind (T.getD j []) != 119) = true := by simp only [bne, hk]; rfl
                    clear hdot HEJ hk
                    generalize tokKind (T.getD j []) = kd at *
                    generalize bs (T.getD j []) = tx at *
                    go_wp2_with fail
                    go_roundg (E - (j + 1))
                    case rel => exact ⟨j + 1, by omega, by omega, rfl, hKi.setR _ _, HEn, HRn⟩
                    case measure => omega
                  · have hk1 : (tokKind (T.getD j []) != 119) = false := by simp only [bne, hk]; rfl
                    have hx1 : ((bs (T.getD j [])).toList == [46]) = false := by rw [toList_lit]; exact beq_eq_false_iff_ne.2 hdot
                    have hx2 : ((bs (T.getD j [])).toList != [46]) = true := by simp only [bne, hx1]; rfl
                    clear hdot HEJ hk
                    generalize tokKind (T.getD j []) = kd at *
                    generalize bs (T.getD j []) = tx at *
                    go_wp2_with fail
                    go_roundg (E - (j + 1))
                    case rel => exact ⟨j + 1, by omega, by omega, rfl, hKi.setR _ _, HEn, HRn⟩
                    case measure => omega
              · have hd1 : decide ((j : Int) < (T.length : Int)) = false := by simp; omega
                have hjE : j = E := by omega
                have hjE' := hjE.symm
                clear hjE
                subst hjE'
                have HRi := hide HRj.out
                clear HEJ HRj
                have hown4 := HR.out.keep hKi hown (by decide) (by decide)
                have hKr4 := hKr.trans hKi
                go_wp2_with fail
                refine (HDC.out _ HRi.out (also_noX hown4)).mono ?_
                rintro e' w5 ⟨rfl, hR5, hK5⟩
                have hown5 := HRi.out.keep hK5 hown4 (by decide) (by decide)
                have hKr5 := hKr4.trans hK5
                obtain ⟨c0, c1, c2, c3, c5, cf⟩ := hR5.cell
                have hlt5 := hR5.lt
                have HR5 := hide hR5
                clear hR5 hK5 hown4 hKr4 HRi hKi
                cases hqb : q.2.bad
                · rw [hqb] at c3
                  by_cases hqp : q.2.pos = E
                  · have hb1 : ((q.2.pos : Int) != (E : Int)) = false := by simp [hqp]
                    by_cases hqe : E = T.length
                    · have hb2 : ((E : Int) == (T.length : Int)) = true := by simp [hqe]
                      have hfin : R = ([], ([] : List Nat).length, 3) ∧ s' = q.2 := parse_bad HD.out (Or.inr (Or.inr hqe))
                      have HFIN := hide hfin
                      clear hfin hqe hqp hqb HD
                      go_wp2_with fail
                      go_quiet (fail)
                      have HRq := hide (Rd.drewN' HR5.out nq)
                      have hKq := Kp.drewN' hKr5 nq
                      have hownq := drewN_own hown5 nq
                      generalize w5.drewN nq = wq at *
                      go_wp2_with fail
                      refine bodyPost_ret (v := .tuple #[.pointer (some ⟨w1.heap.size, 0, none⟩), .slice none 0 0, .int .i64 ([] : List Nat).length, .int .i64 3]) (by simp [results, Tryz.results54, go_sem]) rfl ?_
                      obtain ⟨hfR, hfs⟩ := HFIN.out
                      rw [hfR, hfs]
                      exact ⟨w1.heap.size, .slice none 0 0, _, _, _, rfl, World.ownsRow_nil _ _ _ _, HRq.out, Kp.to_below hbelR hsz1 hltR hKq, Nat.zero_le _⟩
                    · have hb2 : ((E : Int) == (T.length : Int)) = false := by simp; omega
                      have hgo : parseP T F m (adv q.2) ([] ++ [q.1]) = some (R, s') := parse_on HD.out hqb hqp hqe
                      have HGO := hide hgo
                      have hqlt : q.2.pos < T.length := by omega
                      clear hqe hqb hqp HD hgo
                      go_wp2_with fail
                      go_quiet (fail)
                      have HRq := hide (Rd.drewN' HR5.out nq)
                      have hKq := Kp.drewN' hKr5 nq
                      have hownq := drewN_own hown5 nq
                      generalize w5.drewN nq = wq at *
                      have hszq := hKq.size
                      clear HR5 hKr5 hown5 c0 c1 c2 c3 c5 cf
                      go_wp2_with (at_builtin; refine append_int rfl _ _ rfl q.1 hownq (by omega) hszq rfl rfl ?_)
                      intro v' w6 hown6 hgrow hblk
                      have HR6 := hide (HRq.out.appended hownq hgrow hblk.out)
                      have hK6 := (hKq.alloc (.cells #[.int .i64 q.1] tyInt)).grownOwn hgrow (fun g hg => (hownq.lt g hg).1)
                      obtain ⟨d0, d1, d2, d3, d5, df⟩ := HR6.out.cell
                      have hlt6 := HR6.out.lt
                      clear hgrow hblk hownq HRq hKq
                      go_wp2_with fail
                      go_roundg m
                      case rel => exact ⟨adv q.2, [] ++ [q.1], E, by omega, by simp; omega, by have := HR6.out.keep ((Kp.refl w1.heap.size w6).setR 1 (.int .i64 (q.2.pos + 1))) hown6 (by decide) (by decide); simpa using this, hK6.setR _ _, HR6.out.step hqlt, HGO⟩
                      case measure => omega
                  · have hb1 : ((q.2.pos : Int) != (E : Int)) = true := by simp; omega
                    have hfin : R = ([], ([] : List Nat).length, 3) ∧ s' = q.2 := parse_bad HD.out (Or.inr (Or.inl hqp))
                    have HFIN := hide hfin
                    clear hfin hqp hqb HD
                    go_wp2_with fail
                    go_quiet (fail)
                    have HRq := hide (Rd.drewN' HR5.out nq)
                    have hKq := Kp.drewN' hKr5 nq
                    have hownq := drewN_own hown5 nq
                    generalize w5.drewN nq = wq at *
                    go_wp2_with fail
                    refine bodyPost_ret (v := .tuple #[.pointer (some ⟨w1.heap.size, 0, none⟩), .slice none 0 0, .int .i64 ([] : List Nat).length, .int .i64 3]) (by simp [results, Tryz.results54, go_sem]) rfl ?_
                    obtain ⟨hfR, hfs⟩ := HFIN.out
                    rw [hfR, hfs]
                    exact ⟨w1.heap.size, .slice none 0 0, _, _, _, rfl, World.ownsRow_nil _ _ _ _, HRq.out, Kp.to_below hbelR hsz1 hltR hKq, Nat.zero_le _⟩
                · rw [hqb] at c3
                  have hfin : R = ([], ([] : List Nat).length, 3) ∧ s' = q.2 := parse_bad HD.out (Or.inl hqb)
                  have HFIN := hide hfin
                  clear hfin hqb HD
                  go_wp2_with fail
                  go_quiet (fail)
                  have HRq := hide (Rd.drewN' HR5.out nq)
                  have hKq := Kp.drewN' hKr5 nq
                  have hownq := drewN_own hown5 nq
                  generalize w5.drewN nq = wq at *
                  go_wp2_with fail
                  refine bodyPost_ret (v := .tuple #[.pointer (some ⟨w1.heap.size, 0, none⟩), .slice none 0 0, .int .i64 ([] : List Nat).length, .int .i64 3]) (by simp [results, Tryz.results54, go_sem]) rfl ?_
                  obtain ⟨hfR, hfs⟩ := HFIN.out
                  rw [hfR, hfs]
                  exact ⟨w1.heap.size, .slice none 0 0, _, _, _, rfl, World.ownsRow_nil _ _ _ _, HRq.out, Kp.to_below hbelR hsz1 hltR hKq, Nat.zero_le _⟩
          · have HDC := hide (fun (wx : World) (zq : Rd T w1.heap.size (.slice (some ⟨gt, 0, none⟩) T.length capt) E (also noX (.slice (some ⟨go, 0, none⟩) acc.length capo)) s1 wx) y => decl_any T w1.heap.size (.slice (some ⟨gt, 0, none⟩) T.length capt) E F hF (also noX (.slice (some ⟨go, 0, none⟩) acc.length capo)) s1 q.2 q.1 wx hq zq y)
            clear hq
            go_wp2_with fail
            go_loopg [40] (E - s1.pos) (fun gk2 _ wi => ∃ j : Nat, s1.pos ≤ j ∧ j ≤ E ∧ gk2 = E - j ∧ Kp w1.heap.size wr wi ∧ Hid (endAt T j = E) ∧ Hid (Rd T w1.heap.size (.slice (some ⟨gt, 0, none⟩) T.length capt) j (also noX (.slice (some ⟨go, 0, none⟩) acc.length capo)) s1 wi))
            case atStart => exact ⟨s1.pos, Nat.le_refl _, hE.1, rfl, (Kp.refl _ _).setR _ _, HEE, HR.out.setEnd s1.pos (by omega)⟩
            case round =>
              obtain ⟨j, hj1, hj2, rfl, hKi, HEJ, HRj⟩ := hrel
              obtain ⟨c0, c1, c2, c3, c5, cf⟩ := HRj.out.cell
              have hltj := HRj.out.lt
              by_cases hjT : j < T.length
              · have t0 := ((HRj.out.toks).cellAt (j * 2) (by omega)).trans (tok_cells T j hjT).1
                have t1 := ((HRj.out.toks).cellAt (j * 2 + 1) (by omega)).trans (tok_cells T j hjT).2
                have hd1 : decide ((j : Int) < (T.length : Int)) = true := by simp; omega
                by_cases hdot : T.getD j [] = K.dot_
                · have hjE : j = E := (endAt_stop T j hjT hdot).symm.trans HEJ.out
                  rw [hdot, dot_kind] at t0
                  rw [hdot, bsK_dot] at t1
                  have hjE' := hjE.symm
                  clear hjE
                  subst hjE'
                  have HRi := hide HRj.out
                  have hk1 : ((119 : Int) != 119) = false := by decide
                  clear hdot HEJ HRj
                  have hown4 := HR.out.keep hKi hown (by decide) (by decide)
                  have hKr4 := hKr.trans hKi
                  go_wp2_with fail
                  refine (HDC.out _ HRi.out (also_noX hown4)).mono ?_
                  rintro e' w5 ⟨rfl, hR5, hK5⟩
                  have hown5 := HRi.out.keep hK5 hown4 (by decide) (by decide)
                  have hKr5 := hKr4.trans hK5
                  obtain ⟨c0, c1, c2, c3, c5, cf⟩ := hR5.cell
                  have hlt5 := hR5.lt
                  have HR5 := hide hR5
                  clear hR5 hK5 hown4 hKr4 HRi hKi
                  cases hqb : q.2.bad
                  · rw [hqb] at c3
                    by_cases hqp : q.2.pos = E
                    · have hb1 : ((q.2.pos : Int) != (E : Int)) = false := by simp [hqp]
                      by_cases hqe : E = T.length
                      · have hb2 : ((E : Int) == (T.length : Int)) = true := by simp [hqe]
                        have hfin : R = ([], acc.length, 3) ∧ s' = q.2 := parse_bad HD.out (Or.inr (Or.inr hqe))
                        have HFIN := hide hfin
                        clear hfin hqe hqp hqb HD
                        go_wp2_with fail
                        go_quiet (fail)
                        have HRq := hide (Rd.drewN' HR5.out nq)
                        have hKq := Kp.drewN' hKr5 nq
                        have hownq := drewN_own hown5 nq
                        generalize w5.drewN nq = wq at *
                        go_wp2_with fail
                        refine bodyPost_ret (v := .tuple #[.pointer (some ⟨w1.heap.size, 0, none⟩), .slice none 0 0, .int .i64 acc.length, .int .i64 3]) (by simp [results, Tryz.results54, go_sem]) rfl ?_
                        obtain ⟨hfR, hfs⟩ := HFIN.out
                        rw [hfR, hfs]
                        exact ⟨w1.heap.size, .slice none 0 0, _, _, _, rfl, World.ownsRow_nil _ _ _ _, HRq.out, Kp.to_below hbelR hsz1 hltR hKq, Nat.zero_le _⟩
                      · have hb2 : ((E : Int) == (T.length : Int)) = false := by simp; omega
                        have hgo : parseP T F m (adv q.2) (acc ++ [q.1]) = some (R, s') := parse_on HD.out hqb hqp hqe
                        have HGO := hide hgo
                        have hqlt : q.2.pos < T.length := by omega
                        clear hqe hqb hqp HD hgo
                        go_wp2_with fail
                        go_quiet (fail)
                        have HRq := hide (Rd.drewN' HR5.out nq)
                        have hKq := Kp.drewN' hKr5 nq
                        have hownq := drewN_own hown5 nq
                        generalize w5.drewN nq = wq at *
                        have hszq := hKq.size
                        clear HR5 hKr5 hown5 c0 c1 c2 c3 c5 cf
                        go_wp2_with (at_builtin; refine append_int rfl _ _ rfl q.1 hownq (by omega) hszq rfl rfl ?_)
                        intro v' w6 hown6 hgrow hblk
                        have HR6 := hide (HRq.out.appended hownq hgrow hblk.out)
                        have hK6 := (hKq.alloc (.cells #[.int .i64 q.1] tyInt)).grownOwn hgrow (fun g hg => (hownq.lt g hg).1)
                        obtain ⟨d0, d1, d2, d3, d5, df⟩ := HR6.out.cell
                        have hlt6 := HR6.out.lt
                        clear hgrow hblk hownq HRq hKq
                        go_wp2_with fail
                        go_roundg m
                        case rel => exact ⟨adv q.2, acc ++ [q.1], E, by omega, by simp; omega, by have := HR6.out.keep ((Kp.refl w1.heap.size w6).setR 1 (.int .i64 (q.2.pos + 1))) hown6 (by decide) (by decide); simpa using this, hK6.setR _ _, HR6.out.step hqlt, HGO⟩
                        case measure => omega
                    · have hb1 : ((q.2.pos : Int) != (E : Int)) = true := by simp; omega
                      have hfin : R = ([], acc.length, 3) ∧ s' = q.2 := parse_bad HD.out (Or.inr (Or.inl hqp))
                      have HFIN := hide hfin
                      clear hfin hqp hqb HD
                      go_wp2_with fail
                      go_quiet (fail)
                      have HRq := hide (Rd.drewN' HR5.out nq)
                      have hKq := Kp.drewN' hKr5 nq
                      have hownq := drewN_own hown5 nq
                      generalize w5.drewN nq = wq at *
                      go_wp2_with fail
                      refine bodyPost_ret (v := .tuple #[.pointer (some ⟨w1.heap.size, 0, none⟩), .slice none 0 0, .int .i64 acc.length, .int .i64 3]) (by simp [results, Tryz.results54, go_sem]) rfl ?_
                      obtain ⟨hfR, hfs⟩ := HFIN.out
                      rw [hfR, hfs]
                      exact ⟨w1.heap.size, .slice none 0 0, _, _, _, rfl, World.ownsRow_nil _ _ _ _, HRq.out, Kp.to_below hbelR hsz1 hltR hKq, Nat.zero_le _⟩
                  · rw [hqb] at c3
                    have hfin : R = ([], acc.length, 3) ∧ s' = q.2 := parse_bad HD.out (Or.inl hqb)
                    have HFIN := hide hfin
                    clear hfin hqb HD
                    go_wp2_with fail
                    go_quiet (fail)
                    have HRq := hide (Rd.drewN' HR5.out nq)
                    have hKq := Kp.drewN' hKr5 nq
                    have hownq := drewN_own hown5 nq
                    generalize w5.drewN nq = wq at *
                    go_wp2_with fail
                    refine bodyPost_ret (v := .tuple #[.pointer (some ⟨w1.heap.size, 0, none⟩), .slice none 0 0, .int .i64 acc.length, .int .i64 3]) (by simp [results, Tryz.results54, go_sem]) rfl ?_
                    obtain ⟨hfR, hfs⟩ := HFIN.out
                    rw [hfR, hfs]
                    exact ⟨w1.heap.size, .slice none 0 0, _, _, _, rfl, World.ownsRow_nil _ _ _ _, HRq.out, Kp.to_below hbelR hsz1 hltR hKq, Nat.zero_le _⟩
                · have HEn := hide ((endAt_on T j hjT hdot).symm.trans HEJ.out)
                  have hjE : j ≠ E := by
                    intro h
                    have h1 := HEn.out
                    have h2 := endAt_le T (j + 1) (by omega)
                    omega
                  have HRn := hide (HRj.out.setEnd (j + 1) (by omega))
                  cases hk : (tokKind (T.getD j []) == 119)
                  · have hk1 : (tokKind (T.getD j []) != 119) = true := by simp only [bne, hk]; rfl
                    clear hdot HEJ hk
                    generalize tokKind (T.getD j []) = kd at *
                    generalize bs (T.getD j []) = tx at *
                    go_wp2_with fail
                    go_roundg (E - (j + 1))
                    case rel => exact ⟨j + 1, by omega, by omega, rfl, hKi.setR _ _, HEn, HRn⟩
                    case measure => omega
                  · have hk1 : (tokKind (T.getD j []) != 119) = false := by simp only [bne, hk]; rfl
                    have hx1 : ((bs (T.getD j [])).toList == [46]) = false := by rw [toList_lit]; exact beq_eq_false_iff_ne.2 hdot
                    have hx2 : ((bs (T.getD j [])).toList != [46]) = true := by simp only [bne, hx1]; rfl
                    clear hdot HEJ hk
                    generalize tokKind (T.getD j []) = kd at *
                    generalize bs (T.getD j []) = tx at *
                    go_wp2_with fail
                    go_roundg (E - (j + 1))
                    case rel => exact ⟨j + 1, by omega, by omega, rfl, hKi.setR _ _, HEn, HRn⟩
                    case measure => omega
              · have hd1 : decide ((j : Int) < (T.length : Int)) = false := by simp; omega
                have hjE : j = E := by omega
                have hjE' := hjE.symm
                clear hjE
                subst hjE'
                have HRi := hide HRj.out
                clear HEJ HRj
                have hown4 := HR.out.keep hKi hown (by decide) (by decide)
                have hKr4 := hKr.trans hKi
                go_wp2_with fail
                refine (HDC.out _ HRi.out (also_noX hown4)).mono ?_
                rintro e' w5 ⟨rfl, hR5, hK5⟩
                have hown5 := HRi.out.keep hK5 hown4 (by decide) (by decide)
                have hKr5 := hKr4.trans hK5
                obtain ⟨c0, c1, c2, c3, c5, cf⟩ := hR5.cell
                have hlt5 := hR5.lt
                have HR5 := hide hR5
                clear hR5 hK5 hown4 hKr4 HRi hKi
                cases hqb : q.2.bad
                · rw [hqb] at c3
                  by_cases hqp : q.2.pos = E
                  · have hb1 : ((q.2.pos : Int) != (E : Int)) = false := by simp [hqp]
                    by_cases hqe : E = T.length
                    · have hb2 : ((E : Int) == (T.length : Int)) = true := by simp [hqe]
                      have hfin : R = ([], acc.length, 3) ∧ s' = q.2 := parse_bad HD.out (Or.inr (Or.inr hqe))
                      have HFIN := hide hfin
                      clear hfin hqe hqp hqb HD
                      go_wp2_with fail
                      go_quiet (fail)
                      have HRq := hide (Rd.drewN' HR5.out nq)
                      have hKq := Kp.drewN' hKr5 nq
                      have hownq := drewN_own hown5 nq
                      generalize w5.drewN nq = wq at *
                      go_wp2_with fail
                      refine bodyPost_ret (v := .tuple #[.pointer (some ⟨w1.heap.size, 0, none⟩), .slice none 0 0, .int .i64 acc.length, .int .i64 3]) (by simp [results, Tryz.results54, go_sem]) rfl ?_
                      obtain ⟨hfR, hfs⟩ := HFIN.out
                      rw [hfR, hfs]
                      exact ⟨w1.heap.size, .slice none 0 0, _, _, _, rfl, World.ownsRow_nil _ _ _ _, HRq.out, Kp.to_below hbelR hsz1 hltR hKq, Nat.zero_le _⟩
                    · have hb2 : ((E : Int) == (T.length : Int)) = false := by simp; omega
                      have hgo : parseP T F m (adv q.2) (acc ++ [q.1]) = some (R, s') := parse_on HD.out hqb hqp hqe
                      have HGO := hide hgo
                      have hqlt : q.2.pos < T.length := by omega
                      clear hqe hqb hqp HD hgo
                      go_wp2_with fail
                      go_quiet (fail)
                      have HRq := hide (Rd.drewN' HR5.out nq)
                      have hKq := Kp.drewN' hKr5 nq
                      have hownq := drewN_own hown5 nq
                      generalize w5.drewN nq = wq at *
                      have hszq := hKq.size
                      clear HR5 hKr5 hown5 c0 c1 c2 c3 c5 cf
                      go_wp2_with (at_builtin; refine append_int rfl _ _ rfl q.1 hownq (by omega) hszq rfl rfl ?_)
                      intro v' w6 hown6 hgrow hblk
                      have HR6 := hide (HRq.out.appended hownq hgrow hblk.out)
                      have hK6 := (hKq.alloc (.cells #[.int .i64 q.1] tyInt)).grownOwn hgrow (fun g hg => (hownq.lt g hg).1)
                      obtain ⟨d0, d1, d2, d3, d5, df⟩ := HR6.out.cell
                      have hlt6 := HR6.out.lt
                      clear hgrow hblk hownq HRq hKq
                      go_wp2_with fail
                      go_roundg m
                      case rel => exact ⟨adv q.2, acc ++ [q.1], E, by omega, by simp; omega, by have := HR6.out.keep ((Kp.refl w1.heap.size w6).setR 1 (.int .i64 (q.2.pos + 1))) hown6 (by decide) (by decide); simpa using this, hK6.setR _ _, HR6.out.step hqlt, HGO⟩
                      case measure => omega
                  · have hb1 : ((q.2.pos : Int) != (E : Int)) = true := by simp; omega
                    have hfin : R = ([], acc.length, 3) ∧ s' = q.2 := parse_bad HD.out (Or.inr (Or.inl hqp))
                    have HFIN := hide hfin
                    clear hfin hqp hqb HD
                    go_wp2_with fail
                    go_quiet (fail)
                    have HRq := hide (Rd.drewN' HR5.out nq)
                    have hKq := Kp.drewN' hKr5 nq
                    have hownq := drewN_own hown5 nq
                    generalize w5.drewN nq = wq at *
                    go_wp2_with fail
                    refine bodyPost_ret (v := .tuple #[.pointer (some ⟨w1.heap.size, 0, none⟩), .slice none 0 0, .int .i64 acc.length, .int .i64 3]) (by simp [results, Tryz.results54, go_sem]) rfl ?_
                    obtain ⟨hfR, hfs⟩ := HFIN.out
                    rw [hfR, hfs]
                    exact ⟨w1.heap.size, .slice none 0 0, _, _, _, rfl, World.ownsRow_nil _ _ _ _, HRq.out, Kp.to_below hbelR hsz1 hltR hKq, Nat.zero_le _⟩
                · rw [hqb] at c3
                  have hfin : R = ([], acc.length, 3) ∧ s' = q.2 := parse_bad HD.out (Or.inl hqb)
                  have HFIN := hide hfin
                  clear hfin hqb HD
                  go_wp2_with fail
                  go_quiet (fail)
                  have HRq := hide (Rd.drewN' HR5.out nq)
                  have hKq := Kp.drewN' hKr5 nq
                  have hownq := drewN_own hown5 nq
                  generalize w5.drewN nq = wq at *
                  go_wp2_with fail
                  refine bodyPost_ret (v := .tuple #[.pointer (some ⟨w1.heap.size, 0, none⟩), .slice none 0 0, .int .i64 acc.length, .int .i64 3]) (by simp [results, Tryz.results54, go_sem]) rfl ?_
                  obtain ⟨hfR, hfs⟩ := HFIN.out
                  rw [hfR, hfs]
                  exact ⟨w1.heap.size, .slice none 0 0, _, _, _, rfl, World.ownsRow_nil _ _ _ _, HRq.out, Kp.to_below hbelR hsz1 hltR hKq, Nat.zero_le _⟩
        · rw [if_neg hlt] at hD
          simp only [Option.some.injEq, Prod.mk.injEq] at hD
          have hfin : R = (acc, 0, 0) ∧ s' = s1 := ⟨hD.1.symm, hD.2.symm⟩
          have HFIN := hide hfin
          have hd0 : decide ((s1.pos : Int) < (T.length : Int)) = false := by simp; omega
          clear hD hfin
          go_wp2_with fail
          refine bodyPost_ret (v := .tuple #[.pointer (some ⟨w1.heap.size, 0, none⟩), u10, .int .i64 0, .int .i64 0]) (by simp [results, Tryz.results54, go_sem]) rfl ?_
          obtain ⟨hfR, hfs⟩ := HFIN.out
          rw [hfR, hfs]
          exact ⟨w1.heap.size, u10, _, _, _, rfl, ownsRow_le hown (by omega), HR.out, Kp.to_below hbelR hsz1 hltR hKr, by simp; omega⟩

end Go.Proofs.YtnocnkblhjifjaaGreatDoor
