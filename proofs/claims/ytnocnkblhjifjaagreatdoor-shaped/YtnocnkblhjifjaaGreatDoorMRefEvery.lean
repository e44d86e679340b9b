import Derived.Test.YtnocnkblhjifjaaGreatDoorMRefSee
import Derived.Deep.LoopGhost
/-
  (*kilnref.Reader).every, curried, and kilnref.number by their contracts.
-/
namespace Go.Proofs.YtnocnkblhjifjaaGreatDoor
open Go.RowKit

theorem Tryz.infoStrR : (Tryz.prog.info? 9).map (fun i => (i.zero, i.size, i.bytes)) = some (some (.string ByteArray.empty), 1, 16) := by kernel_rfl

theorem every_no {T : List (List UInt8)} {e : Nat} {k : Int} {s : RS} (h : isKind T e k s = false) : everyP T e k s = ([], s) := by
  unfold everyP
  cases e - s.pos <;> simp [everyF, h]

theorem every_yes {T : List (List UInt8)} {e : Nat} {k : Int} {s : RS} (hp : s.pos < e) (h : isKind T e k s = true) : everyP T e k s = (see T e s :: (everyP T e k (adv s)).1, (everyP T e k (adv s)).2) := by
  unfold everyP
  obtain ⟨n, hn⟩ : ∃ n, e - s.pos = n + 1 := ⟨e - s.pos - 1, by omega⟩
  have hn' : e - (adv s).pos = n := by show e - (s.pos + 1) = n; omega
  rw [hn, hn']
  simp [everyF, h]

set_option maxHeartbeats 2000000 in
theorem every_any {T : List (List UInt8)} {rb : Nat} {lv : Value} {e : Nat} {X : Nat → Prop} {s : RS} {w : World} (k : Int) (hk0 : k ≠ 0) (h : Rd T rb lv e X s w) :
    Calls Tryz.prog 151 #[.pointer (some ⟨rb, 0, none⟩), .int .u8 k] w fun e' w' => ∃ v, e' = .returned v ∧ w'.ownsRow w.heap.size tyStr 1 v (everyP T e k s).1.length ((everyP T e k s).1.map strV) ∧ Rd T rb lv e X (everyP T e k s).2 w' ∧ Kp rb w w' := by
  obtain ⟨i0, hi, hz0, hz1, hz2⟩ := info_parts Tryz.infoStrR
  have htl := h.t_le
  have hel := h.e_le
  have hEnd := hide h
  generalize hL : (everyP T e k s).1 = L
  generalize hS : (everyP T e k s).2 = S
  have HE : Hid (([] : List (List UInt8)) ++ (everyP T e k s).1 = L ∧ (everyP T e k s).2 = S) := ⟨hL, hS⟩
  clear h hL hS
  go_enter Tryz.func151, Tryz.ntmps151
  go_wp2
  go_loopg [5] (e - s.pos) (fun gk v wr => ∃ (s1 : RS) (acc : List (List UInt8)), gk = e - s1.pos ∧ acc.length ≤ s1.pos ∧ wr.ownsRow w.heap.size tyStr 1 v acc.length (acc.map strV) ∧ Kp rb w wr ∧ Hid (Rd T rb lv e X s1 wr) ∧ Hid (acc ++ (everyP T e k s1).1 = L ∧ (everyP T e k s1).2 = S))
  case atStart => exact ⟨s, [], rfl, Nat.zero_le _, World.ownsRow_nil _ _ _ _, Kp.refl _ _, hEnd, HE⟩
  case round =>
    clear hEnd HE
    obtain ⟨s1, acc, rfl, hal, hown, hK, HR, HE⟩ := hrel
    have hc := see_any HR.out
    have hlt := HR.out.lt
    cases hk : isKind T e k s1
    · have hn : (tokKind (see T e s1) != k) = true := by simpa [isKind, bne] using hk
      rw [every_no hk] at HE
      obtain ⟨hL, rfl⟩ := HE.out
      rw [List.append_nil] at hL
      subst hL
      clear HE hk
      generalize tokKind (see T e s1) = kd at *
      generalize bs (see T e s1) = tx at *
      have HC := hide hc
      clear hc
      go_wp2_with fail
      refine (HC.out).mono ?_; rintro e' w1 ⟨rfl, hb1⟩
      have HR1 := hide ((HR.out.below hb1).alloc (.cells #[.int .u8 kd, .string tx] 170))
      have hK1 := hK.trans (Kp.of_below hb1)
      have hown1 := ownsRow_below hown hb1
      clear hown hK HR
      go_wp2_with fail
      go_ret
      exact ⟨_, rfl, hown1.alloc _, HR1.out, hK1.alloc _⟩
    · have hpos := see_pos (T := T) (e := e) (s := s1) hk0 (by simpa [isKind] using hk)
      have hn : (tokKind (see T e s1) != k) = false := by simpa [isKind, bne] using hk
      rw [every_yes hpos.1 hk] at HE
      have hcell : strV (see T e s1) = .string (bs (see T e s1)) := rfl
      generalize see T e s1 = tk at *
      generalize tokKind tk = kd at *
      generalize bs tk = tx at *
      have HC := hide hc
      have HV := hide hcell
      clear hc hcell
      have hp4 : s1.pos < 4000 := by omega
      go_wp2_with fail
      refine (HC.out).mono ?_; rintro e' w1 ⟨rfl, hb1⟩
      have hR1 := HR.out.below hb1
      have hz := hR1.lt
      obtain ⟨c0, c1, c2, c3, c5, cf⟩ := hR1.cell
      have HR1 := hide (hR1.setPos hpos.1)
      have hK1 := (hK.trans (Kp.of_below hb1)).setR 1 (.int .i64 (s1.pos + 1))
      have hown1 : (w1.setCell ⟨rb, 1, none⟩ (.int .i64 (s1.pos + 1))).ownsRow w.heap.size tyStr 1 _ acc.length (acc.map strV) := ownsRow_kp (ownsRow_below hown hb1) hR1.isR ((Kp.refl rb w1).setR 1 _) (by decide) (by decide)
      have hsz : w.heap.size ≤ w1.heap.size := Nat.le_trans hK.size hb1.size
      clear hown hK HR hR1
      go_wp2_with (at_builtin; refine wpList_append_own _ rfl _ _ 22 rfl w.heap.size tyStr i0 (.string ByteArray.empty) 1 16 Tryz.underlying22 hi hz0 hz1 hz2 rfl (by decide) _ _ _ rfl ((hown1.alloc _).alloc _) ⟨w1.heap.size + 1, 0, none⟩ 1 1 [.string tx] rfl rfl ?c1 ?c2 ?c3 ?c4 ?c5 ?_)
      case c1 =>
        intro j u hj
        exact cell_new (by simp [World.setCell]) (by simpa using hj)
      case c2 => intro u hu; simp at hu; subst hu; rfl
      case c3 => unfold maxLen; omega
      case c4 => omega
      case c5 => simp; omega
      · intro v' w2 hown' hgrow _
        have HR2 := hide (((HR1.out.alloc _).alloc _).grownRow hgrow ((hown1.alloc _).alloc _) (by decide) (by decide) (by decide) (fun h => absurd h (by decide)))
        have hK2 := ((hK1.alloc _).alloc _).grownOwn hgrow (fun g hg => (hown1.lt g hg).1)
        have hown2 : w2.ownsRow w.heap.size tyStr 1 v' (acc ++ [tk]).length ((acc ++ [tk]).map strV) := by
          rw [List.length_append, List.map_append, List.map_cons, List.map_nil, HV.out]; exact hown'
        have HE2 : Hid ((acc ++ [tk]) ++ (everyP T e k (adv s1)).1 = L ∧ (everyP T e k (adv s1)).2 = S) := by
          rw [List.append_assoc]; exact HE.out
        clear hown' hgrow hown1 hK1 HR1 HE HV
        go_wp2
        go_roundg (e - (adv s1).pos)
        case rel => exact ⟨adv s1, acc ++ [tk], rfl, by simp [adv]; omega, hown2, hK2, HR2, HE2⟩
        case measure => show e - (s1.pos + 1) < e - s1.pos; omega

end Go.Proofs.YtnocnkblhjifjaaGreatDoor
/-
  (*kilnref.Reader).curried, and kilnref.number by their contracts.
-/
namespace Go.Proofs.YtnocnkblhjifjaaGreatDoor
open Go.RowKit

theorem curried_drop {x : Nat} {s : RS} : ∀ (l : List (List UInt8)) (m : Nat) (q : Nat × RS), curriedP l x s = some q → ∃ q', curriedP (l.drop m) x s = some q' := by
  intro l
  induction l with
  | nil => intro m q h; exact ⟨q, by simpa using h⟩
  | cons a r ih =>
    intro m q h
    cases m with
    | zero => exact ⟨q, by simpa using h⟩
    | succ m =>
      simp only [curriedP, Option.bind_eq_some_iff] at h
      obtain ⟨q1, h1, _⟩ := h
      exact ih m q1 h1

theorem curried_step {x : Nat} {s : RS} {l : List (List UInt8)} {m : Nat} (hm : m < l.length) {q qc : Nat × RS} (h : curriedP l x s = some q) (hc : curriedP (l.drop (m + 1)) x s = some qc) :
    ∃ q', nodeP K.fun_ l[m] [qc.1] qc.2 = some q' ∧ curriedP (l.drop m) x s = some q' := by
  obtain ⟨q', h'⟩ := curried_drop l m q h
  refine ⟨q', ?_, h'⟩
  rw [List.drop_eq_getElem_cons hm] at h'
  simp only [curriedP, hc, Option.bind_some] at h'
  exact h'

theorem intCells (n : Nat) : [n].map intV = [.int .i64 n] := rfl

set_option maxHeartbeats 2000000 in
theorem curried_any {T : List (List UInt8)} {rb : Nat} {lv : Value} {e : Nat} {X : Nat → Prop} {s s' : RS} {w : World} {nv : Value} {b0 : Nat} {names : List (List UInt8)} {x r : Nat}
    (hm : curriedP names x s = some (r, s')) (hl : names.length ≤ 5000) (h : Rd T rb lv e X s w) (hX : ∀ g, X g → g < w.heap.size) (hnv : w.ownsRow b0 tyStr 1 nv names.length (names.map strV)) :
    Calls Tryz.prog 214 #[.pointer (some ⟨rb, 0, none⟩), nv, .int .i64 x] w fun e' w' => e' = .returned (.int .i64 r) ∧ Rd T rb lv e X s' w' ∧ Kp rb w w' := by
  rcases ownsRow_forms hnv with ⟨rfl, hn0⟩ | ⟨g, cap, rfl⟩
  · have ht : names = [] := List.length_eq_zero_iff.1 hn0
    subst ht
    simp only [curriedP, Option.some.injEq, Prod.mk.injEq] at hm
    obtain ⟨rfl, rfl⟩ := hm
    have HR := hide h
    clear h hn0 hnv hX
    go_enter Tryz.func214, Tryz.ntmps214
    go_wp2_with fail
    refine wp_loop_rounds 1 ?_
    rw [rounds_succ]
    go_wp2_with fail
    go_ret
    exact ⟨rfl, HR.out, Kp.refl _ _⟩
  · have HM := hide hm
    have HR := hide h
    have HX := hide hX
    have HN := hide hnv
    have HRI := hide h.isR
    have h0 : Hid (curriedP (names.drop names.length) x s = some (x, s)) := by rw [List.drop_length]; rfl
    clear hm h hX hnv
    go_enter Tryz.func214, Tryz.ntmps214
    go_wp2_with fail
    go_loopg [2, 7] names.length (fun gk xv iv wr => ∃ (xc : Nat) (sc : RS), gk ≤ names.length ∧ xv = .int .i64 xc ∧ iv = .int .i64 ((gk : Int) - 1) ∧ Kp rb w wr ∧ Hid (Rd T rb lv e X sc wr) ∧ Hid (curriedP (names.drop gk) x s = some (xc, sc)))
    case atStart => exact ⟨x, s, Nat.le_refl _, rfl, by go_num, Kp.refl _ _, HR, h0⟩
    case round =>
      clear h0 HR
      obtain ⟨xc, sc, hgk, rfl, rfl, hK, HR, HC⟩ := hrel
      by_cases hz : gk = 0
      · subst hz
        have hd : decide (((0 : Nat) : Int) - 1 ≥ 0) = false := by simp
        have hres : (xc, sc) = (r, s') := by
          have a := HC.out
          rw [List.drop_zero] at a
          rw [HM.out] at a
          exact (Option.some.inj a).symm
        simp only [Prod.mk.injEq] at hres
        obtain ⟨rfl, rfl⟩ := hres
        go_wp2_with fail
        go_ret
        exact ⟨rfl, HR.out, hK⟩
      · obtain ⟨m, rfl⟩ : ∃ m, gk = m + 1 := ⟨gk - 1, by omega⟩
        have hmlt : m < names.length := by omega
        obtain ⟨q', hq1, hq2⟩ := curried_step hmlt HM.out HC.out
        have hcell : wr.cell? ⟨g, m, none⟩ = some (.string (bs names[m])) := by
          rw [(ownsRow_kp HN.out HRI.out hK (by decide) (by decide)).cellAt m (by omega)]
          simp [hmlt, strV]
        have hc := fun (pv : Value) (wx : World) (a : Rd T rb lv e X sc wx) b c => node_any (pv := pv) (w := wx) hq1 a b c
        rw [bsK_fun] at hc
        have e1 : (((m + 1 : Nat) : Int)) - 1 = m := by omega
        rw [e1]
        have hlt := HR.out.lt
        generalize bs names[m] = bn at *
        have HC1 := hide hc
        have HQ := hide hq2
        clear hc hq1 hq2
        go_wp2_with fail
        refine (HC1.out _ _ (HR.out.alloc _) (ownsRow_le (World.ownsRow_lit (base := 0) (size := 1) wr _ 1 (Nat.zero_le _) (by unfold maxLen; omega) rfl) (Nat.zero_le _)) ?_).mono ?_
        · intro g hg hXg
          simp [Value.ownBlock] at hg
          have := HX.out g hXg
          have := hK.size
          omega
        rintro e' w1 ⟨rfl, hR1, hK1⟩
        have HR1 := hide hR1
        have hK2 := (hK.alloc (.cells #[.int .i64 xc] tyInt)).trans hK1
        clear hR1 hK1
        go_wp2_with fail
        go_roundg m
        case rel => exact ⟨q'.1, q'.2, by omega, rfl, by go_num, hK2, HR1, HQ⟩
        case measure => omega

end Go.Proofs.YtnocnkblhjifjaaGreatDoor
