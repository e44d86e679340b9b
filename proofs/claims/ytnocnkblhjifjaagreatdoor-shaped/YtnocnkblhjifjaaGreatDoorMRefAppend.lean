import Derived.Test.YtnocnkblhjifjaaGreatDoorMRefNumber
/-
  One number more behind a row of numbers of one's own: where the row lies then.
-/
namespace Go.Proofs.YtnocnkblhjifjaaGreatDoor
open Go.RowKit

theorem Tryz.infoInt : (Tryz.prog.info? 3).map (fun i => (i.zero, i.size, i.bytes)) = some (some (.int .i64 0), 1, 8) := by kernel_rfl

theorem run_append_int {w : World} {base : Nat} {v : Value} {ns : List Nat} {ty : TypeId} (k : Nat) (hown : w.ownsRow base tyInt 1 v ns.length (ns.map intV)) (hn : ns.length ≤ 1000000) (hb : base ≤ w.heap.size) :
    ∃ v' w', (Builtin.append_ #[30, 30] ty #[v, .slice (some ⟨w.heap.size, 0, none⟩) 1 1]).run Tryz.prog (w.alloc (.cells #[.int .i64 k] tyInt)) = .ok v' w' ∧
      w'.ownsRow base tyInt 1 v' (ns ++ [k]).length ((ns ++ [k]).map intV) ∧ (w.alloc (.cells #[.int .i64 k] tyInt)).grownBy w' v.ownBlock ∧ (∀ g, v'.ownBlock = some g → v.ownBlock = some g ∨ w.heap.size < g) ∧ ∃ g cap, v' = .slice (some ⟨g, 0, none⟩) (ns ++ [k]).length cap := by
  obtain ⟨i0, hi, hz0, hz1, hz2⟩ := info_parts Tryz.infoInt
  have hown1 := hown.alloc (.cells #[.int .i64 k] tyInt)
  have hnews : ∀ j u, [Value.int .i64 k][j]? = some u → (w.alloc (.cells #[.int .i64 k] tyInt)).cell? ((⟨w.heap.size, 0, none⟩ : Addr).add j) = some u := fun j u hj => cell_new rfl (by simpa using hj)
  have h1 : ∀ u ∈ [Value.int .i64 k], u.oneCell' = true := by intro u hu; simp at hu; subst hu; rfl
  obtain ⟨v', w', hr, ho', hg', _⟩ := run_append_own (P := Tryz.prog) (w.alloc (.cells #[.int .i64 k] tyInt)) base 30 ty tyInt i0 (.int .i64 0) 1 8 Tryz.underlying30 hi hz0 hz1 hz2 rfl (by decide) v ns.length (ns.map intV) hown1 ⟨w.heap.size, 0, none⟩ 1 1 [.int .i64 k] rfl hnews h1 (by unfold maxLen; omega) (by omega) (by simp; omega)
  have ho2 : w'.ownsRow base tyInt 1 v' (ns ++ [k]).length ((ns ++ [k]).map intV) := by
    rw [List.length_append, List.map_append]; exact ho'
  refine ⟨v', w', hr, ho2, hg', ?_, ?_⟩
  · intro g hgv
    rcases hown1.2 with ⟨rfl, hn0⟩ | ⟨g0, cap, cur, rfl, hbg, hg, hnc, hcm, hcs, htake⟩
    · have h := run_append_nil (P := Tryz.prog) (w.alloc (.cells #[.int .i64 k] tyInt)) 30 ty tyInt i0 (.int .i64 0) Tryz.underlying30 hi hz0 ⟨w.heap.size, 0, none⟩ 1 1 [.int .i64 k] (by rw [hz1]; rfl) hnews (by omega) (by omega) (by rw [hz2]; omega)
      rw [hr] at h
      simp only [Result.ok.injEq] at h
      rw [h.1] at hgv
      simp [Value.ownBlock] at hgv
      omega
    · by_cases hroom : ns.length + 1 ≤ cap
      · have h := run_append_room (P := Tryz.prog) (w.alloc (.cells #[.int .i64 k] tyInt)) 30 ty tyInt i0 Tryz.underlying30 hi g0 ns.length cap cur hg ⟨w.heap.size, 0, none⟩ 1 1 [.int .i64 k] (by rw [hz1]; rfl) hnews h1 hroom (by rw [hcs, hz1]; simp only [List.length_cons, List.length_nil]; omega)
        rw [hr] at h
        simp only [Result.ok.injEq] at h
        rw [h.1] at hgv
        exact Or.inl hgv
      · have h := run_append_grow (P := Tryz.prog) (w.alloc (.cells #[.int .i64 k] tyInt)) 30 ty tyInt i0 (.int .i64 0) Tryz.underlying30 hi hz0 ⟨g0, 0, none⟩ ns.length cap (ns.map intV) (by rw [hz1]; exact hown.1) (hown1.cells (g := g0) rfl) ⟨w.heap.size, 0, none⟩ 1 1 [.int .i64 k] (by rw [hz1]; rfl) hnews (by omega) (by omega) (growslice_fits (by omega) (by rw [hz2]; omega))
        rw [hr] at h
        simp only [Result.ok.injEq] at h
        rw [h.1] at hgv
        simp [Value.ownBlock] at hgv
        omega
  · rcases ownsRow_forms ho2 with ⟨_, hn0⟩ | h
    · simp at hn0
    · exact h

theorem append_int {ops : Array Oper} {rest : List Oper} {o : Oper} {a : Act} {Q : Exit → Act → World → Prop} {w : World} (hgd : o.guard = none) (s x : Operand)
    (ho : o.op = .call { callee := .builtin .append, args := #[s, x], argTypes := #[30, 30] }) {base : Nat} {v : Value} {ns : List Nat} (k : Nat)
    (hown : w.ownsRow base tyInt 1 v ns.length (ns.map intV)) (hn : ns.length ≤ 1000000) (hb : base ≤ w.heap.size) (hs : a.eval s = v) (hx : a.eval x = .slice (some ⟨w.heap.size, 0, none⟩) 1 1)
    (h : ∀ v' w', w'.ownsRow base tyInt 1 v' (ns ++ [k]).length ((ns ++ [k]).map intV) → (w.alloc (.cells #[.int .i64 k] tyInt)).grownBy w' v.ownBlock → Hid (∀ g, v'.ownBlock = some g → v.ownBlock = some g ∨ w.heap.size < g) → wpList Tryz.prog ops Q rest (a.put o.dst v') w') :
    wpList Tryz.prog ops Q (o :: rest) a (w.alloc (.cells #[.int .i64 k] tyInt)) := by
  obtain ⟨v', w', hr, h2, h3, h4, _⟩ := run_append_int (ty := o.type) k hown hn hb
  refine wpList_plain hgd fun K hK => ?_
  unfold Oper.wp execOp
  simp only [ho, resolve, invoke, builtin, Sem.run_bind, Sem.run_pure, Result.andThen_ok, List.map_toArray, List.map_cons, List.map_nil, hs, hx, hr]
  exact hK _ _ (h v' w' h2 h3 h4)

/-- The blocks of X, and the row v. -/
def also (X : Nat → Prop) (v : Value) : Nat → Prop := fun g => X g ∨ v.ownBlock = some g

/-- The reader behind such an append. -/
theorem Rd.appended {T : List (List UInt8)} {rb : Nat} {lv : Value} {e : Nat} {X : Nat → Prop} {s : RS} {w w' : World} {v v' : Value} {base k n : Nat} {xs : List Value} (h : Rd T rb lv e (also X v) s w) (hown : w.ownsRow base tyInt 1 v n xs)
    (hg : (w.alloc (.cells #[.int .i64 k] tyInt)).grownBy w' v.ownBlock) (hv : ∀ g, v'.ownBlock = some g → v.ownBlock = some g ∨ w.heap.size < g) : Rd T rb lv e (also X v') s w' := by
  have h1 : Rd T rb lv e (fun g => also X v g ∨ w.heap.size < g) s (w.alloc (.cells #[.int .i64 k] tyInt)) :=
    (h.alloc _).widen (fun g hg => by rcases hg with hg | hg
                                      · exact Or.inl hg
                                      · exact Or.inr (by simp; omega))
  refine (h1.grownRow hg (hown.alloc _) (by decide) (by decide) (by decide) (fun _ g hg => Or.inl (Or.inr hg))).widen (fun g hX => Or.inl ?_)
  rcases hX with hX | hX
  · exact Or.inl (Or.inl hX)
  · rcases hv g hX with hv | hv
    · exact Or.inl (Or.inr hv)
    · exact Or.inr hv

/-- A cell of a block that is neither the reader's nor a row of nodes. -/
theorem Kp.tok {rb : Nat} {w1 w2 : World} {cs : Array Value} {t : TypeId} {n : Nat} (hK : Kp rb (w1.alloc (.cells cs t)) w2) (hn : n = w1.heap.size) (hr : rb < w1.heap.size) (ht : t ≠ tyNode) (j : Nat) : w2.cell? ⟨n, j, none⟩ = cs[j]? := by
  subst hn
  have hb : (w1.alloc (.cells cs t)).heap[w1.heap.size]? = some (.cells cs t) := heap_alloc_new w1 _
  have := hK.block w1.heap.size (by simp) (by omega) (Or.inr fun c f e => by rw [hb] at e; simp at e; exact ht e.2.1)
  rw [World.cell?_of_block (a := ⟨w1.heap.size, j, none⟩) this]
  simp only [World.cell?, hb, Option.isSome_none, Bool.false_eq_true, if_false]

theorem lit1 (w : World) (a : Nat) : (w.alloc (.cells #[.int .i64 a] tyInt)).ownsRow 0 tyInt 1 (.slice (some ⟨w.heap.size, 0, none⟩) 1 1) [a].length ([a].map intV) :=
  World.ownsRow_lit (base := 0) (size := 1) w _ 1 (Nat.zero_le _) (by unfold maxLen; omega) rfl

theorem lit2 (w : World) (a b : Nat) : (w.alloc (.cells #[.int .i64 a, .int .i64 b] tyInt)).ownsRow 0 tyInt 1 (.slice (some ⟨w.heap.size, 0, none⟩) 2 2) [a, b].length ([a, b].map intV) :=
  World.ownsRow_lit (base := 0) (size := 1) w _ 2 (Nat.zero_le _) (by unfold maxLen; omega) rfl

theorem lit3 (w : World) (a b c : Nat) : (w.alloc (.cells #[.int .i64 a, .int .i64 b, .int .i64 c] tyInt)).ownsRow 0 tyInt 1 (.slice (some ⟨w.heap.size, 0, none⟩) 3 3) [a, b, c].length ([a, b, c].map intV) :=
  World.ownsRow_lit (base := 0) (size := 1) w _ 3 (Nat.zero_le _) (by unfold maxLen; omega) rfl

/-- A row that is new is none of X. -/
theorem fresh {X : Nat → Prop} {w w2 : World} (hX : ∀ g, X g → g < w.heap.size) (hsz : w.heap.size ≤ w2.heap.size) {n c : Nat} : ∀ g, (Value.slice (some ⟨w2.heap.size, 0, none⟩) n c).ownBlock = some g → ¬ X g := by
  intro g hg hx
  simp [Value.ownBlock] at hg
  have := hX g hx
  omega

theorem fresh_row {X : Nat → Prop} {w w1 w2 : World} {t : TypeId} {size n : Nat} {v : Value} {xs : List Value} (hX : ∀ g, X g → g < w.heap.size) (hsz : w.heap.size ≤ w1.heap.size) (hown : w2.ownsRow w1.heap.size t size v n xs) : ∀ g, v.ownBlock = some g → ¬ X g := by
  intro g hg hx
  have := hX g hx
  have := (hown.lt g hg).1
  omega

theorem Rd.less {T : List (List UInt8)} {rb : Nat} {lv : Value} {e : Nat} {X : Nat → Prop} {s : RS} {w : World} {v : Value} (h : Rd T rb lv e (also X v) s w) : Rd T rb lv e X s w := h.widen (fun _ hg => Or.inl (Or.inl hg))

/-- The rows that X has are older than a later world. -/
theorem later {X : Nat → Prop} {w w2 : World} (hX : ∀ g, X g → g < w.heap.size) (hsz : w.heap.size ≤ w2.heap.size) : ∀ g, X g → g < w2.heap.size := fun g hg => Nat.lt_of_lt_of_le (hX g hg) hsz

end Go.Proofs.YtnocnkblhjifjaaGreatDoor
/-
  (*kilnref.Reader).atypes and typ by their contracts.
-/
namespace Go.Proofs.YtnocnkblhjifjaaGreatDoor
open Go.RowKit

section
variable (T : List (List UInt8)) (rb : Nat) (lv : Value) (e : Nat)

def SaidAtypes (n : Nat) : Prop := ∀ (X : Nat → Prop) (s s' : RS) (l : List Nat) (w : World), atypesP T e n s = some (l, s') → Rd T rb lv e X s w → (∀ g, X g → g < w.heap.size) →
  Calls Tryz.prog 154 #[.pointer (some ⟨rb, 0, none⟩)] w fun e' w' => ∃ v, e' = .returned v ∧ w'.ownsRow w.heap.size tyInt 1 v l.length (l.map intV) ∧ Rd T rb lv e (also X v) s' w' ∧ Kp rb w w'

def SaidTyp (n : Nat) : Prop := ∀ (X : Nat → Prop) (s s' : RS) (r : Nat) (w : World), atypesP.typP T e n s = some (r, s') → Rd T rb lv e X s w → (∀ g, X g → g < w.heap.size) →
  Calls Tryz.prog 213 #[.pointer (some ⟨rb, 0, none⟩)] w fun e' w' => e' = .returned (.int .i64 r) ∧ Rd T rb lv e X s' w' ∧ Kp rb w w'
end

theorem also_lt {X : Nat → Prop} {w w2 : World} {b k n : Nat} {t : TypeId} {v : Value} {xs : List Value} (hX : ∀ g, X g → g < w.heap.size) (hsz : w.heap.size ≤ w2.heap.size) (hown : w2.ownsRow b t k v n xs) : ∀ g, also X v g → g < w2.heap.size := by
  intro g hg
  rcases hg with hg | hg
  · exact Nat.lt_of_lt_of_le (hX g hg) hsz
  · exact (hown.lt g hg).2

theorem also_nil {T : List (List UInt8)} {rb : Nat} {lv : Value} {e : Nat} {X : Nat → Prop} {s : RS} {w : World} (h : Rd T rb lv e X s w) : Rd T rb lv e (also X (.slice none 0 0)) s w :=
  h.widen (fun g hg => by rcases hg with hg | hg
                          · exact Or.inl hg
                          · simp [Value.ownBlock] at hg)

set_option maxHeartbeats 4000000 in
theorem atypes_any (T : List (List UInt8)) (rb : Nat) (lv : Value) (e : Nat) (N : Nat) (hN : N ≤ 1000000) (hT : ∀ m, m < N → SaidTyp T rb lv e m) : SaidAtypes T rb lv e N := by
  intro X s s' l w hm h hX
  have htl := h.t_le
  have hel := h.e_le
  have HR0 := hide (also_nil h)
  have HT := hide hT
  have HX := hide hX
  have HE0 : Hid (atypesP T e N s = some (l, s') ∧ [] ++ l = l) := ⟨hm, rfl⟩
  clear h hT hX hm
  go_enter Tryz.func154, Tryz.ntmps154
  go_wp2_with fail
  go_loopg [3] N (fun gk v wr => ∃ (s1 : RS) (acc rest : List Nat), gk ≤ N ∧ acc.length + gk ≤ N ∧ wr.ownsRow w.heap.size tyInt 1 v acc.length (acc.map intV) ∧ Kp rb w wr ∧ Hid (Rd T rb lv e (also X v) s1 wr) ∧ Hid (atypesP T e gk s1 = some (rest, s') ∧ acc ++ rest = l))
  case atStart => exact ⟨s, [], l, Nat.le_refl _, by simp, World.ownsRow_nil _ _ _ _, Kp.refl _ _, HR0, HE0⟩
  case round =>
    clear HR0 HE0
    obtain ⟨s1, acc, rest, hgk, hlen, hown, hK, HR, HE⟩ := hrel
    obtain ⟨hm, hacc⟩ := HE.out
    clear HE
    cases gk with
    | zero => simp [atypesP] at hm
    | succ m =>
      rw [atypesP] at hm
      have hc := see_any HR.out
      cases k1 : isKind T e 108 s1
      · rw [k1, cond_false] at hm
        have hk1 := isKind_eq k1
        cases k2 : isKind T e 110 s1
        · rw [k2, cond_false] at hm
          have hk2 := isKind_eq k2
          cases k3 : isSign T e K.open_ s1
          · rw [k3, cond_false] at hm
            simp only [Option.some.injEq, Prod.mk.injEq] at hm
            obtain ⟨rfl, rfl⟩ := hm
            rw [List.append_nil] at hacc
            subst hacc
            cases h4 : (tokKind (see T e s1) == 119)
            · clear k1 k2 k3
              generalize tokKind (see T e s1) = kd at *
              generalize bs (see T e s1) = tx at *
              have HC := hide hc
              clear hc
              go_wp2_with fail
              refine (HC.out).mono ?_; rintro e' w1 ⟨rfl, hb1⟩
              have HR1 := hide (HR.out.below hb1)
              have hown1 := ownsRow_below hown hb1
              clear HR hown
              go_wp2_with fail
              go_ret
              exact ⟨_, rfl, hown1.alloc _, HR1.out.alloc _, (hK.trans (Kp.of_below hb1)).alloc _⟩
            · have s1' : ((bs (see T e s1)).toList == [40]) = false := true_no k3 h4
              clear k1 k2 k3
              generalize tokKind (see T e s1) = kd at *
              generalize bs (see T e s1) = tx at *
              have HC := hide hc
              clear hc
              go_wp2_with fail
              refine (HC.out).mono ?_; rintro e' w1 ⟨rfl, hb1⟩
              have HR1 := hide (HR.out.below hb1)
              have hown1 := ownsRow_below hown hb1
              clear HR hown
              go_wp2_with fail
              go_ret
              exact ⟨_, rfl, hown1.alloc _, HR1.out.alloc _, (hK.trans (Kp.of_below hb1)).alloc _⟩
          · rw [k3, cond_true] at hm
            simp only [Option.bind_eq_some_iff, Option.some.injEq, Prod.mk.injEq] at hm
            obtain ⟨q, hq, rl, hrl, rfl, rfl⟩ := hm
            have hl : atypesP T e m (want T e K.shut_ q.2) = some (rl.1, rl.2) ∧ acc ++ q.1 :: rl.1 = l := ⟨hrl, hacc⟩
            clear hacc hrl
            generalize hs' : rl.2 = s' at *
            clear hs'
            have h4 := (true_yes k3).1
            have s1' : ((bs (see T e s1)).toList == [40]) = true := (true_yes k3).2
            have hpos := see_pos (T := T) (e := e) (s := s1) (by decide) (show tokKind (see T e s1) = 119 by simpa using h4)
            have hct := fun (wx : World) (a : Rd T rb lv e (also X u3) (adv s1) wx) b => HT.out m (by omega) (also X u3) (adv s1) q.2 q.1 wx hq a b
            have hcw := fun (wx : World) (a : Rd T rb lv e (also X u3) q.2 wx) => want_any K.shut_ a
            rw [bsK_shut] at hcw
            clear k1 k2 k3 hq
            generalize tokKind (see T e s1) = kd at *
            generalize bs (see T e s1) = tx at *
            have HC := hide hc
            have HCT := hide hct
            have HCW := hide hcw
            have HL := hide hl
            clear hc hct hcw hl
            go_wp2_with fail
            refine (HC.out).mono ?_; rintro e' w1 ⟨rfl, hb1⟩
            have hR1 := HR.out.below hb1
            have hz := hR1.lt
            obtain ⟨c0, c1, c2, c3, c5, cf⟩ := hR1.cell
            have HR1 := hide (hR1.setPos hpos.1)
            clear hR1
            go_wp2_with fail
            refine (HCT.out _ (HR1.out.alloc _) ?_).mono ?_
            · exact also_lt HX.out (Nat.le_trans hK.size ((((Kp.of_below hb1).setR 1 (.int .i64 (s1.pos + 1))).alloc _).size)) (HR.out.keep (((Kp.of_below hb1).setR 1 (.int .i64 (s1.pos + 1))).alloc _) hown (by decide) (by decide))
            rintro e' w2 ⟨rfl, hR2, hK2⟩
            have hK12 := (((Kp.of_below hb1).setR 1 (.int .i64 (s1.pos + 1))).alloc _).trans hK2
            have HR2 := hide hR2
            clear hR2 hK2 c0 c1 c2 c3 c5 cf
            go_wp2_with fail
            refine (HCW.out _ HR2.out).mono ?_; rintro e' w2' ⟨rfl, hR2', hK2'⟩
            have hK12' := hK12.trans hK2'
            have hown2 := HR.out.keep hK12' hown (by decide) (by decide)
            have hKw := hK.trans hK12'
            have hsz := hKw.size
            have HR2' := hide hR2'
            clear hR2' hK12 hK2' hK12' HR HR1 HR2 hown hK hb1
            go_wp2_with (at_builtin; refine append_int rfl _ _ rfl q.1 hown2 (by omega) hsz rfl rfl ?_)
            intro v' w3 hown3 hgrow hblk
            have HR3 := hide (HR2'.out.appended hown2 hgrow hblk.out)
            have hK3 := (hKw.alloc (.cells #[.int .i64 q.1] tyInt)).grownOwn hgrow (fun g hg => (hown2.lt g hg).1)
            have HE : Hid (atypesP T e m (want T e K.shut_ q.2) = some (rl.1, s') ∧ (acc ++ [q.1]) ++ rl.1 = l) := ⟨HL.out.1, by rw [List.append_assoc]; exact HL.out.2⟩
            clear hown2 hgrow hblk HR2' hKw HL
            go_wp2_with fail
            go_roundg m
            case rel => exact ⟨want T e K.shut_ q.2, acc ++ [q.1], rl.1, by omega, by simp; omega, by rw [List.length_append, List.map_append]; exact hown3, hK3, HR3, HE⟩
            case measure => omega
        · rw [k2, cond_true] at hm
          have hk2 := isKind_eq k2
          simp only [Option.bind_eq_some_iff, Option.some.injEq, Prod.mk.injEq] at hm
          obtain ⟨q, hq, rl, hrl, rfl, rfl⟩ := hm
          have hl : atypesP T e m q.2 = some (rl.1, rl.2) ∧ acc ++ q.1 :: rl.1 = l := ⟨hrl, hacc⟩
          clear hacc hrl
          generalize hs' : rl.2 = s' at *
          clear hs'
          have hpos := see_pos (T := T) (e := e) (s := s1) (by decide) (show tokKind (see T e s1) = 110 by simpa [isKind] using k2)
          have hcn := fun (wx : World) (a : Rd T rb lv e (also X u3) (adv s1) wx) => node_any (pv := .slice none 0 0) (w := wx) hq a (World.ownsRow_nil _ _ _ _) (by simp [Value.ownBlock])
          rw [bsK_named] at hcn
          clear k1 k2 hq
          generalize tokKind (see T e s1) = kd at *
          generalize bs (see T e s1) = tx at *
          have HC := hide hc
          have HN := hide hcn
          have HL := hide hl
          clear hc hcn hl
          go_wp2_with fail
          refine (HC.out).mono ?_; rintro e' w1 ⟨rfl, hb1⟩
          have hR1 := HR.out.below hb1
          have hz := hR1.lt
          obtain ⟨c0, c1, c2, c3, c5, cf⟩ := hR1.cell
          have HR1 := hide (hR1.setPos hpos.1)
          clear hR1
          go_wp2_with fail
          refine (HN.out _ (HR1.out.alloc _)).mono ?_; rintro e' w2 ⟨rfl, hR2, hK2⟩
          have hK12 := (((Kp.of_below hb1).setR _ _).alloc _).trans hK2
          have hown2 := HR.out.keep hK12 hown (by decide) (by decide)
          have hKw := hK.trans hK12
          have hsz := hKw.size
          have HR2 := hide hR2
          clear hR2 hK12 hK2 HR HR1 hown hK hb1 c0 c1 c2 c3 c5 cf
          go_wp2_with (at_builtin; refine append_int rfl _ _ rfl q.1 hown2 (by omega) hsz rfl rfl ?_)
          intro v' w3 hown3 hgrow hblk
          have HR3 := hide (HR2.out.appended hown2 hgrow hblk.out)
          have hK3 := (hKw.alloc (.cells #[.int .i64 q.1] tyInt)).grownOwn hgrow (fun g hg => (hown2.lt g hg).1)
          have HE : Hid (atypesP T e m q.2 = some (rl.1, s') ∧ (acc ++ [q.1]) ++ rl.1 = l) := ⟨HL.out.1, by rw [List.append_assoc]; exact HL.out.2⟩
          clear hown2 hgrow hblk HR2 hKw HL
          go_wp2_with fail
          go_roundg m
          case rel => exact ⟨q.2, acc ++ [q.1], rl.1, by omega, by simp; omega, by rw [List.length_append, List.map_append]; exact hown3, hK3, HR3, HE⟩
          case measure => omega
      · rw [k1, cond_true] at hm
        have hk1 := isKind_eq k1
        simp only [Option.bind_eq_some_iff, Option.some.injEq, Prod.mk.injEq] at hm
        obtain ⟨q, hq, rl, hrl, rfl, rfl⟩ := hm
        have hl : atypesP T e m q.2 = some (rl.1, rl.2) ∧ acc ++ q.1 :: rl.1 = l := ⟨hrl, hacc⟩
        clear hacc hrl
        generalize hs' : rl.2 = s' at *
        clear hs'
        have hpos := see_pos (T := T) (e := e) (s := s1) (by decide) (show tokKind (see T e s1) = 108 by simpa [isKind] using k1)
        have hcn := fun (wx : World) (a : Rd T rb lv e (also X u3) (adv s1) wx) => node_any (pv := .slice none 0 0) (w := wx) hq a (World.ownsRow_nil _ _ _ _) (by simp [Value.ownBlock])
        rw [bsK_var] at hcn
        clear k1 hq
        generalize tokKind (see T e s1) = kd at *
        generalize bs (see T e s1) = tx at *
        have HC := hide hc
        have HN := hide hcn
        have HL := hide hl
        clear hc hcn hl
        go_wp2_with fail
        refine (HC.out).mono ?_; rintro e' w1 ⟨rfl, hb1⟩
        have hR1 := HR.out.below hb1
        have hz := hR1.lt
        obtain ⟨c0, c1, c2, c3, c5, cf⟩ := hR1.cell
        have HR1 := hide (hR1.setPos hpos.1)
        clear hR1
        go_wp2_with fail
        refine (HN.out _ (HR1.out.alloc _)).mono ?_; rintro e' w2 ⟨rfl, hR2, hK2⟩
        have hK12 := (((Kp.of_below hb1).setR _ _).alloc _).trans hK2
        have hown2 := HR.out.keep hK12 hown (by decide) (by decide)
        have hKw := hK.trans hK12
        have hsz := hKw.size
        have HR2 := hide hR2
        clear hR2 hK12 hK2 HR HR1 hown hK hb1 c0 c1 c2 c3 c5 cf
        go_wp2_with (at_builtin; refine append_int rfl _ _ rfl q.1 hown2 (by omega) hsz rfl rfl ?_)
        intro v' w3 hown3 hgrow hblk
        have HR3 := hide (HR2.out.appended hown2 hgrow hblk.out)
        have hK3 := (hKw.alloc (.cells #[.int .i64 q.1] tyInt)).grownOwn hgrow (fun g hg => (hown2.lt g hg).1)
        have HE : Hid (atypesP T e m q.2 = some (rl.1, s') ∧ (acc ++ [q.1]) ++ rl.1 = l) := ⟨HL.out.1, by rw [List.append_assoc]; exact HL.out.2⟩
        clear hown2 hgrow hblk HR2 hKw HL
        go_wp2_with fail
        go_roundg m
        case rel => exact ⟨q.2, acc ++ [q.1], rl.1, by omega, by simp; omega, by rw [List.length_append, List.map_append]; exact hown3, hK3, HR3, HE⟩
        case measure => omega

end Go.Proofs.YtnocnkblhjifjaaGreatDoor
