import Derived.Test.YtnocnkblhjifjaaGreatDoorMRead
import Derived.Deep.QuietTactic
import Derived.BigQuiet
/-
  (*kilnref.Reader).see, sign, want, kind by their contracts.
-/
namespace Go.Proofs.YtnocnkblhjifjaaGreatDoor
open Go.RowKit

theorem tok_cells (T : List (List UInt8)) (k : Nat) (hk : k < T.length) : (T.flatMap tkV)[k * 2]? = some (.int .u8 (tokKind (T.getD k []))) ∧ (T.flatMap tkV)[k * 2 + 1]? = some (.string (bs (T.getD k []))) := by
  induction T generalizing k with
  | nil => simp at hk
  | cons t r ih =>
    rw [List.flatMap_cons]
    cases k with
    | zero => simp [tkV]
    | succ k =>
      have := ih k (by simpa using hk)
      rw [List.getElem?_append_right (by simp [tkV]; omega), List.getElem?_append_right (by simp [tkV]; omega)]
      simp only [tkV, List.length_cons, List.length_nil, List.getD_cons_succ]
      constructor
      · rw [← this.1]; congr 1; omega
      · rw [← this.2]; congr 1; omega

theorem below_drewN {B : Nat} {a w : World} (h : Below B a w) (n : Nat) : Below B a (w.drewN n) := ⟨h.os, h.tape, h.output, h.size, h.block⟩

set_option maxHeartbeats 1000000 in
theorem see_any {T : List (List UInt8)} {rb : Nat} {lv : Value} {e : Nat} {X : Nat → Prop} {s : RS} {w : World} (h : Rd T rb lv e X s w) :
    Calls Tryz.prog 212 #[.pointer (some ⟨rb, 0, none⟩)] w fun e' w' => e' = .returned (.agg #[.int .u8 (tokKind (see T e s)), .string (bs (see T e s))]) ∧ Below w.heap.size w w' := by
  obtain ⟨c0, c1, c2, c3, c5, cf⟩ := h.cell
  have hlt := h.lt
  have hel := h.e_le
  have htl := h.t_le
  by_cases hp : e ≤ s.pos
  · have hs : see T e s = [] := by unfold see; rw [if_pos (Or.inl hp)]
    rw [hs]
    have hd : decide ((e : Int) ≤ (s.pos : Int)) = true := by simp; omega
    clear hs h
    generalize s.bad = bd at *
    generalize s.pos = p at *
    go_enter Tryz.func212, Tryz.ntmps212
    go_wp2
    go_quiet (fail)
    go_wp2
    exact bodyPost_ret (v := .agg #[.int .u8 0, .string ⟨#[]⟩]) (by simp [results, Tryz.results212, go_sem]) rfl ⟨rfl, ((below_drewN ((Below.refl _ _).alloc (Nat.le_refl _) _) _).setCell (Nat.le_refl _) _).setCell (Nat.le_refl _) _⟩
  · have hd : decide ((e : Int) ≤ (s.pos : Int)) = false := by simp; omega
    cases hb : s.bad
    · have hs : see T e s = T.getD s.pos [] := by unfold see; rw [if_neg (by simp [hb]; omega)]
      rw [hs]
      rw [hb] at c3
      have hpt : s.pos < T.length := by omega
      have ht := h.toks
      rcases ownsRow_forms ht with ⟨rfl, hn0⟩ | ⟨g, cap, rfl⟩
      · omega
      have hgl := (ht.lt g rfl).2
      have t0 := (ht.cellAt (s.pos * 2) (by omega)).trans (tok_cells T s.pos hpt).1
      have t1 := (ht.cellAt (s.pos * 2 + 1) (by omega)).trans (tok_cells T s.pos hpt).2
      clear hs h hb ht
      generalize tokKind (T.getD s.pos []) = kd at *
      generalize bs (T.getD s.pos []) = tx at *
      generalize s.pos = p at *
      generalize T.length = n at *
      go_enter Tryz.func212, Tryz.ntmps212
      go_wp2
      go_quiet (fail)
      go_wp2
      go_region
      go_wp2
      exact bodyPost_ret (v := .agg #[.int .u8 kd, .string tx]) (by simp [results, Tryz.results212, go_sem]) rfl ⟨rfl, ((below_drewN ((Below.refl _ _).alloc (Nat.le_refl _) _) _).setCell (Nat.le_refl _) _).setCell (Nat.le_refl _) _⟩
    · have hs : see T e s = [] := by unfold see; rw [if_pos (Or.inr hb)]
      rw [hs]
      rw [hb] at c3
      clear hs h hb
      generalize s.pos = p at *
      go_enter Tryz.func212, Tryz.ntmps212
      go_wp2
      go_quiet (fail)
      go_wp2
      exact bodyPost_ret (v := .agg #[.int .u8 0, .string ⟨#[]⟩]) (by simp [results, Tryz.results212, go_sem]) rfl ⟨rfl, ((below_drewN ((Below.refl _ _).alloc (Nat.le_refl _) _) _).setCell (Nat.le_refl _) _).setCell (Nat.le_refl _) _⟩


theorem see_pos {T : List (List UInt8)} {e : Nat} {s : RS} {k : Int} (hk : k ≠ 0) (h : tokKind (see T e s) = k) : s.pos < e ∧ s.bad = false := by
  by_cases hp : e ≤ s.pos ∨ s.bad = true
  · rw [show see T e s = [] by unfold see; rw [if_pos hp]] at h
    exact absurd h.symm hk
  · simp at hp; omega

theorem bs_eq (a b : List UInt8) : ((bs a).toList == (bs b).toList) = (a == b) := by
  rw [ByteArray.toList_eq, ByteArray.toList_eq, bs_data, bs_data]

def signS (T : List (List UInt8)) (e : Nat) (x : List UInt8) (s : RS) : RS := bif isSign T e x s then adv s else s

set_option maxHeartbeats 1000000 in
theorem sign_any {T : List (List UInt8)} {rb : Nat} {lv : Value} {e : Nat} {X : Nat → Prop} {s : RS} {w : World} (x : List UInt8) (h : Rd T rb lv e X s w) :
    Calls Tryz.prog 149 #[.pointer (some ⟨rb, 0, none⟩), .string (bs x)] w fun e' w' => e' = .returned (.bool (isSign T e x s)) ∧ Rd T rb lv e X (signS T e x s) w' ∧ Kp rb w w' := by
  have hc := see_any h
  have hlt := h.lt
  have htl := h.t_le
  have hel := h.e_le
  have hbx := bs_eq (see T e s) x
  cases hk : (tokKind (see T e s) == 119)
  · have hi : isSign T e x s = false := by simp [isSign, hk]
    have hs : signS T e x s = s := by simp [signS, hi]
    rw [hi, hs]
    clear hi hs hbx
    generalize tokKind (see T e s) = kd at *
    generalize bs (see T e s) = tx at *
    generalize bs x = bx at *
    have HC := hide hc
    have HR := hide h
    clear hc h
    go_enter Tryz.func149, Tryz.ntmps149
    go_wp2_with fail
    refine (HC.out).mono ?_; rintro e' w1 ⟨rfl, hb1⟩
    go_wp2_with fail
    go_ret
    exact ⟨rfl, (HR.out.below hb1).alloc _, (Kp.of_below hb1).alloc _⟩
  · have hpos := see_pos (k := 119) (by decide) (by simpa using hk)
    cases hx : ((bs (see T e s)).toList == (bs x).toList)
    · have hi : isSign T e x s = false := by rw [hbx] at hx; simp [isSign, hx]
      have hs : signS T e x s = s := by simp [signS, hi]
      rw [hi, hs]
      clear hi hs hbx
      generalize tokKind (see T e s) = kd at *
      generalize bs (see T e s) = tx at *
      generalize bs x = bx at *
      have HC := hide hc
      have HR := hide h
      clear hc h
      go_enter Tryz.func149, Tryz.ntmps149
      go_wp2_with fail
      refine (HC.out).mono ?_; rintro e' w1 ⟨rfl, hb1⟩
      go_wp2_with fail
      go_ret
      exact ⟨rfl, (HR.out.below hb1).alloc _, (Kp.of_below hb1).alloc _⟩
    · have hi : isSign T e x s = true := by rw [hbx] at hx; simp [isSign, hx, hk]
      have hs : signS T e x s = adv s := by simp [signS, hi]
      rw [hi, hs]
      clear hi hs hbx
      generalize tokKind (see T e s) = kd at *
      generalize bs (see T e s) = tx at *
      generalize bs x = bx at *
      have HC := hide hc
      have HR := hide h
      clear hc h
      go_enter Tryz.func149, Tryz.ntmps149
      go_wp2_with fail
      refine (HC.out).mono ?_; rintro e' w1 ⟨rfl, hb1⟩
      have hz := (HR.out.below hb1).lt
      obtain ⟨c0, c1, c2, c3, c5, cf⟩ := (HR.out.below hb1).cell
      go_wp2_with fail
      go_ret
      exact ⟨rfl, ((HR.out.below hb1).setPos hpos.1).alloc _, ((Kp.of_below hb1).setR _ _).alloc _⟩

set_option maxHeartbeats 1000000 in
theorem want_any {T : List (List UInt8)} {rb : Nat} {lv : Value} {e : Nat} {X : Nat → Prop} {s : RS} {w : World} (x : List UInt8) (h : Rd T rb lv e X s w) :
    Calls Tryz.prog 153 #[.pointer (some ⟨rb, 0, none⟩), .string (bs x)] w fun e' w' => e' = .returned (.tuple #[]) ∧ Rd T rb lv e X (want T e x s) w' ∧ Kp rb w w' := by
  have hc := sign_any x h
  have hlt := h.lt
  cases hk : isSign T e x s
  · have hs : signS T e x s = s := by simp [signS, hk]
    have hw : want T e x s = spoil s := by simp [want, hk]
    rw [hk, hs] at hc
    rw [hw]
    clear hs hw hk h
    generalize bs x = bx at *
    have HC := hide hc
    clear hc
    go_enter Tryz.func153, Tryz.ntmps153
    go_wp2_with fail
    refine (HC.out).mono ?_; rintro e' w1 ⟨rfl, hR, hK⟩
    obtain ⟨c0, c1, c2, c3, c5, cf⟩ := hR.cell
    have HR := hide hR
    clear hR
    go_wp2_with fail
    go_end0
    exact ⟨rfl, HR.out.setBad, hK.setR _ _⟩
  · have hs : signS T e x s = adv s := by simp [signS, hk]
    have hw : want T e x s = adv s := by simp [want, hk]
    rw [hk, hs] at hc
    rw [hw]
    clear hs hw hk h
    generalize bs x = bx at *
    have HC := hide hc
    clear hc
    go_enter Tryz.func153, Tryz.ntmps153
    go_wp2_with fail
    refine (HC.out).mono ?_; rintro e' w1 ⟨rfl, hR, hK⟩
    have HR := hide hR
    clear hR
    go_wp2_with fail
    go_end0
    exact ⟨rfl, HR.out, hK⟩

set_option maxHeartbeats 1000000 in
theorem kind_any {T : List (List UInt8)} {rb : Nat} {lv : Value} {e : Nat} {X : Nat → Prop} {s : RS} {w : World} (k : Int) (hk0 : k ≠ 0) (h : Rd T rb lv e X s w) :
    Calls Tryz.prog 150 #[.pointer (some ⟨rb, 0, none⟩), .int .u8 k] w fun e' w' => e' = .returned (.string (bs (kindT T e k s))) ∧ Rd T rb lv e X (kindS T e k s) w' ∧ Kp rb w w' := by
  have hc := see_any h
  have hlt := h.lt
  have htl := h.t_le
  have hel := h.e_le
  cases hk : isKind T e k s
  · have hs : kindS T e k s = spoil s := by simp [kindS, hk]
    have hw : kindT T e k s = [] := by simp [kindT, hk]
    have hn : (tokKind (see T e s) != k) = true := by simpa [isKind, bne] using hk
    rw [hs, hw]
    clear hs hw hk
    generalize tokKind (see T e s) = kd at *
    generalize bs (see T e s) = tx at *
    have HC := hide hc
    have HR := hide h
    clear hc h
    go_enter Tryz.func150, Tryz.ntmps150
    go_wp2_with fail
    refine (HC.out).mono ?_; rintro e' w1 ⟨rfl, hb1⟩
    have hz := (HR.out.below hb1).lt
    obtain ⟨c0, c1, c2, c3, c5, cf⟩ := (HR.out.below hb1).cell
    go_wp2_with fail
    go_ret
    exact ⟨rfl, (HR.out.below hb1).setBad.alloc _, ((Kp.of_below hb1).setR _ _).alloc _⟩
  · have hs : kindS T e k s = adv s := by simp [kindS, hk]
    have hw : kindT T e k s = see T e s := by simp [kindT, hk]
    have hpos := see_pos (T := T) (e := e) (s := s) hk0 (by simpa [isKind] using hk)
    have hn : (tokKind (see T e s) != k) = false := by simpa [isKind, bne] using hk
    rw [hs, hw]
    clear hs hw hk
    generalize tokKind (see T e s) = kd at *
    generalize bs (see T e s) = tx at *
    have HC := hide hc
    have HR := hide h
    clear hc h
    go_enter Tryz.func150, Tryz.ntmps150
    go_wp2_with fail
    refine (HC.out).mono ?_; rintro e' w1 ⟨rfl, hb1⟩
    have hz := (HR.out.below hb1).lt
    obtain ⟨c0, c1, c2, c3, c5, cf⟩ := (HR.out.below hb1).cell
    go_wp2_with fail
    go_ret
    exact ⟨rfl, ((HR.out.below hb1).setPos hpos.1).alloc _, ((Kp.of_below hb1).setR _ _).alloc _⟩

end Go.Proofs.YtnocnkblhjifjaaGreatDoor
/-
  (*kilnref.Reader).node by its contract.
-/
namespace Go.Proofs.YtnocnkblhjifjaaGreatDoor
open Go.RowKit

theorem Tryz.infoNode : (Tryz.prog.info? 137).map (fun i => (i.zero, i.size, i.bytes)) = some (some (.agg #[.string ByteArray.empty, .string ByteArray.empty, .slice none 0 0, .int .i64 0]), 4, 64) := by kernel_rfl

/-- A node more lies in memory. -/
theorem Rd.push {T : List (List UInt8)} {rb : Nat} {lv : Value} {e : Nat} {X : Nat → Prop} {s : RS} {w w' : World} {nv nv' : Value} {pvs : List Value} {x : NodeP} {pv : Value}
    (h : Rd T rb lv e X s w) (hb : w.heap[rb]? = some (.cells (rdCells lv e s nv) tyReader (0, 0))) (hn : Nodes rb X s.nodes nv pvs w)
    (hpv : w.ownsRow 0 tyInt 1 pv x.parts.length (x.parts.map intV)) (hx : ∀ g, pv.ownBlock = some g → ¬ X g)
    (hg : w.grownBy w' nv.ownBlock) (hrow : w'.ownsRow (rb + 1) tyNode 4 nv' (s.nodes.length + 1) ((List.zipWith nodeV s.nodes pvs).flatten ++ nodeV x pv)) :
    Rd T rb lv e X { s with nodes := s.nodes ++ [x] } (w'.setCell ⟨rb, 4, none⟩ nv') ∧ Kp rb w w' ∧ w'.heap[rb]? = some (.cells (rdCells lv e s nv) tyReader (0, 0)) := by
  have hk : Kp rb w w' := (Kp.refl rb w).grownNode hg hn.row (Nat.lt_succ_self rb)
  have hb' : w'.heap[rb]? = some (.cells (rdCells lv e s nv) tyReader (0, 0)) := by
    rw [hg.block rb h.lt (fun er => ?_)]
    · exact hb
    · have := (hn.row.lt rb er.symm).1
      omega
  have other : ∀ k, k ≠ rb → (w'.setCell ⟨rb, 4, none⟩ nv').heap[k]? = w'.heap[k]? := fun k hk => Below.heap_setCell _ _ _ _ hk
  have keep : ∀ {base : Nat} {t : TypeId} {size : Nat} {v' : Value} {n : Nat} {xs : List Value}, t ≠ tyReader → w'.ownsRow base t size v' n xs → (w'.setCell ⟨rb, 4, none⟩ nv').ownsRow base t size v' n xs := by
    intro base t size v' n xs ht hown
    refine ⟨hown.1, ?_⟩
    rcases hown.2 with hn | ⟨g, cap, cur, rfl, hbb, hgg, rest⟩
    · exact .inl hn
    · refine .inr ⟨g, cap, cur, rfl, hbb, ?_, rest⟩
      rw [other g (fun e => by subst e; rw [hgg] at hb'; simp at hb'; exact ht hb'.2)]
      exact hgg
  refine ⟨⟨h.e_le, h.t_le, h.tl, h.pos_le, h.mts_le, keep (by decide) (h.keep hk h.toks (by decide) (by decide)), nv', pvs ++ [pv], ?_, by simp [hn.len], ?_, ?_, ?_⟩, hk, hb'⟩
  · simp only [World.setCell, Array.getElem?_modify, if_pos, hb', Option.map_some, Option.isSome_none, Bool.false_eq_true, if_false]
    simp [rdCells]
  · refine keep (by decide) ?_
    rw [List.zipWith_append hn.len.symm, List.flatten_append, List.length_append]
    simpa using hrow
  · intro i y pv' h1 h2
    refine keep (by decide) (h.keep hk ?_ (by decide) (by decide))
    by_cases hi : i < s.nodes.length
    · rw [List.getElem?_append_left hi] at h1
      rw [List.getElem?_append_left (by rw [hn.len]; exact hi)] at h2
      exact hn.parts i y pv' h1 h2
    · rw [List.getElem?_append_right (by omega)] at h1
      rw [List.getElem?_append_right (by rw [hn.len]; omega), hn.len] at h2
      cases hj : i - s.nodes.length with
      | zero => rw [hj] at h1 h2; simp at h1 h2; subst h1; subst h2; exact hpv
      | succ j => rw [hj] at h1; simp at h1
  · intro pv' hm g hg' hX
    rcases List.mem_append.1 hm with hm | hm
    · exact hn.sep pv' hm g hg' hX
    · simp at hm; subst hm; exact hx g hg' hX

theorem nodeP_some {is name : List UInt8} {parts : List Nat} {s s' : RS} {r : Nat} (h : nodeP is name parts s = some (r, s')) : s.nodes.length < nodeCap ∧ r = s.nodes.length ∧ s' = { s with nodes := s.nodes ++ [⟨is, name, parts, 0⟩] } := by
  unfold nodeP at h
  split at h
  · simp at h; exact ⟨by assumption, h.1.symm, h.2.symm⟩
  · cases h

set_option maxHeartbeats 2000000 in
theorem node_any {T : List (List UInt8)} {rb : Nat} {lv : Value} {e : Nat} {X : Nat → Prop} {s s' : RS} {w : World} {is name : List UInt8} {pv : Value} {parts : List Nat} {r : Nat}
    (hm : nodeP is name parts s = some (r, s')) (h : Rd T rb lv e X s w) (hpv : w.ownsRow 0 tyInt 1 pv parts.length (parts.map intV)) (hx : ∀ g, pv.ownBlock = some g → ¬ X g) :
    Calls Tryz.prog 152 #[.pointer (some ⟨rb, 0, none⟩), .string (bs is), .string (bs name), pv] w fun e' w' => e' = .returned (.int .i64 r) ∧ Rd T rb lv e X s' w' ∧ Kp rb w w' := by
  obtain ⟨hcap, rfl, rfl⟩ := nodeP_some hm
  clear hm
  obtain ⟨nv, pvs, hb, hn⟩ := h.own
  have hlt := h.lt
  have c4 : w.cell? ⟨rb, 4, none⟩ = some nv := by simp [World.cell?, hb, rdCells]
  have cf : ∀ o, w.frozen? ⟨rb, o, none⟩ = false := h.cell.2.2.2.2.2
  obtain ⟨i0, hi, hz0, hz1, hz2⟩ := info_parts Tryz.infoNode
  have hcl : nodeV ⟨is, name, parts, 0⟩ pv = [.string (bs is), .string (bs name), pv, .int .i64 0] := rfl
  have HV := hide hcl
  have HR := hide h
  have HB := hide hb
  have HN := hide hn
  have HP := hide hpv
  have HX := hide hx
  have hrow := hn.row
  unfold nodeCap at hcap
  clear h hb hn hcl hx
  generalize hbi : bs is = bi at *
  generalize hbn : bs name = bn at *
  clear hbi hbn
  rcases ownsRow_forms hpv with ⟨rfl, hn0⟩ | ⟨g, cap, rfl⟩
  · clear hpv hn0
    go_enter Tryz.func152, Tryz.ntmps152
    go_wp2_with (at_builtin; refine wpList_append_own _ rfl _ _ 133 rfl (rb + 1) tyNode i0 (.agg #[.string ByteArray.empty, .string ByteArray.empty, .slice none 0 0, .int .i64 0]) 4 64 Tryz.underlying133 hi hz0 hz1 hz2 rfl (by decide) _ _ _ rfl (hrow.alloc _) ⟨w.heap.size, 0, none⟩ 1 1 [.string bi, .string bn, .slice none 0 0, .int .i64 0] rfl rfl ?c1 ?c2 ?c3 ?c4 ?c5 ?_)
    case c1 =>
      intro j u hj
      match j, hj with
      | 0, hj => simp at hj; subst hj; simp [Addr.add]
      | 1, hj => simp at hj; subst hj; simp [Addr.add]
      | 2, hj => simp at hj; subst hj; simp [Addr.add]
      | 3, hj => simp at hj; subst hj; simp [Addr.add]
    case c2 => intro u hu; simp at hu; rcases hu with rfl | rfl | rfl | rfl <;> rfl
    case c3 => unfold maxLen; omega
    case c4 => omega
    case c5 => simp; omega
    · intro v' w2 hown' hgrow _
      have hpush := fun o => Rd.push (w' := w2) (nv' := v') (x := ⟨is, name, parts, 0⟩) (HR.out.alloc o) (by rw [Below.heap_alloc _ _ _ hlt]; exact HB.out) ⟨HN.out.len, HN.out.row.alloc o, fun i x pv h1 h2 => (HN.out.parts i x pv h1 h2).alloc o, HN.out.sep⟩ (HP.out.alloc o) HX.out
      have hpush2 := hpush _ hgrow (by rw [HV.out]; exact hown')
      clear hpush
      obtain ⟨hR2, hK2, hB2⟩ := hpush2
      have d4 : w2.cell? ⟨rb, 4, none⟩ = some nv := by simp [World.cell?, hB2, rdCells]
      have df : w2.frozen? ⟨rb, 4, none⟩ = false := by simp [World.frozen?, hB2]
      rcases ownsRow_forms hown' with ⟨_, hn0⟩ | ⟨g2, cap2, rfl⟩
      · omega
      have HR2 := hide hR2
      clear hown' hgrow hR2 hB2 hrow
      go_wp2
      go_ret
      exact ⟨retI (by omega), HR2.out, (((Kp.refl rb w).alloc _).trans hK2).setR _ _⟩
  · clear hpv
    go_enter Tryz.func152, Tryz.ntmps152
    go_wp2_with (at_builtin; refine wpList_append_own _ rfl _ _ 133 rfl (rb + 1) tyNode i0 (.agg #[.string ByteArray.empty, .string ByteArray.empty, .slice none 0 0, .int .i64 0]) 4 64 Tryz.underlying133 hi hz0 hz1 hz2 rfl (by decide) _ _ _ rfl (hrow.alloc _) ⟨w.heap.size, 0, none⟩ 1 1 [.string bi, .string bn, .slice (some ⟨g, 0, none⟩) parts.length cap, .int .i64 0] rfl rfl ?c1 ?c2 ?c3 ?c4 ?c5 ?_)
    case c1 =>
      intro j u hj
      match j, hj with
      | 0, hj => simp at hj; subst hj; simp [Addr.add]
      | 1, hj => simp at hj; subst hj; simp [Addr.add]
      | 2, hj => simp at hj; subst hj; simp [Addr.add]
      | 3, hj => simp at hj; subst hj; simp [Addr.add]
    case c2 => intro u hu; simp at hu; rcases hu with rfl | rfl | rfl | rfl <;> rfl
    case c3 => unfold maxLen; omega
    case c4 => omega
    case c5 => simp; omega
    · intro v' w2 hown' hgrow _
      have hpush := fun o => Rd.push (w' := w2) (nv' := v') (x := ⟨is, name, parts, 0⟩) (HR.out.alloc o) (by rw [Below.heap_alloc _ _ _ hlt]; exact HB.out) ⟨HN.out.len, HN.out.row.alloc o, fun i x pv h1 h2 => (HN.out.parts i x pv h1 h2).alloc o, HN.out.sep⟩ (HP.out.alloc o) HX.out
      have hpush2 := hpush _ hgrow (by rw [HV.out]; exact hown')
      clear hpush
      obtain ⟨hR2, hK2, hB2⟩ := hpush2
      have d4 : w2.cell? ⟨rb, 4, none⟩ = some nv := by simp [World.cell?, hB2, rdCells]
      have df : w2.frozen? ⟨rb, 4, none⟩ = false := by simp [World.frozen?, hB2]
      rcases ownsRow_forms hown' with ⟨_, hn0⟩ | ⟨g2, cap2, rfl⟩
      · omega
      have HR2 := hide hR2
      clear hown' hgrow hR2 hB2 hrow
      go_wp2
      go_ret
      exact ⟨retI (by omega), HR2.out, (((Kp.refl rb w).alloc _).trans hK2).setR _ _⟩

end Go.Proofs.YtnocnkblhjifjaaGreatDoor
