import Derived.Test.YtnocnkblhjifjaaGreatDoorMPLevel
import Derived.Test.YtnocnkblhjifjaaGreatDoorMLens
/-
  Names (package parse): a row of texts of one's own beside the reader; names by its contract.
-/
namespace Go.Proofs.YtnocnkblhjifjaaGreatDoor
open Go.RowKit

theorem run_append_str {w : World} {base : Nat} {v : Value} {ns : Toks} {ty : TypeId} (k : List UInt8) (hown : w.ownsRow base tyStr 1 v ns.length (ns.map strV)) (hn : ns.length ≤ 100000000) (hb : base ≤ w.heap.size) :
    ∃ v' w', (Builtin.append_ #[22, 22] ty #[v, .slice (some ⟨w.heap.size, 0, none⟩) 1 1]).run Tryz.prog (w.alloc (.cells #[.string (bs k)] tyStr)) = .ok v' w' ∧
      w'.ownsRow base tyStr 1 v' (ns ++ [k]).length ((ns ++ [k]).map strV) ∧ (w.alloc (.cells #[.string (bs k)] tyStr)).grownBy w' v.ownBlock ∧ (∀ g, v'.ownBlock = some g → v.ownBlock = some g ∨ w.heap.size < g) ∧ ∃ g cap, v' = .slice (some ⟨g, 0, none⟩) (ns ++ [k]).length cap := by
  obtain ⟨i0, hi, hz0, hz1, hz2⟩ := info_parts Tryz.infoStr
  have hown1 := hown.alloc (.cells #[.string (bs k)] tyStr)
  have hnews : ∀ j u, [Value.string (bs k)][j]? = some u → (w.alloc (.cells #[.string (bs k)] tyStr)).cell? ((⟨w.heap.size, 0, none⟩ : Addr).add j) = some u := fun j u hj => cell_new rfl (by simpa using hj)
  have h1 : ∀ u ∈ [Value.string (bs k)], u.oneCell' = true := by intro u hu; simp at hu; subst hu; rfl
  obtain ⟨v', w', hr, ho', hg', _⟩ := run_append_own (P := Tryz.prog) (w.alloc (.cells #[.string (bs k)] tyStr)) base 22 ty tyStr i0 (.string ByteArray.empty) 1 16 Tryz.underlying22 hi hz0 hz1 hz2 rfl (by decide) v ns.length (ns.map strV) hown1 ⟨w.heap.size, 0, none⟩ 1 1 [.string (bs k)] rfl hnews h1 (by unfold maxLen; omega) (by omega) (by simp; omega)
  have ho2 : w'.ownsRow base tyStr 1 v' (ns ++ [k]).length ((ns ++ [k]).map strV) := by
    rw [List.length_append, List.map_append]; exact ho'
  refine ⟨v', w', hr, ho2, hg', ?_, ?_⟩
  · intro g hgv
    rcases hown1.2 with ⟨rfl, hn0⟩ | ⟨g0, cap, cur, rfl, hbg, hg, hnc, hcm, hcs, htake⟩
    · have h := run_append_nil (P := Tryz.prog) (w.alloc (.cells #[.string (bs k)] tyStr)) 22 ty tyStr i0 (.string ByteArray.empty) Tryz.underlying22 hi hz0 ⟨w.heap.size, 0, none⟩ 1 1 [.string (bs k)] (by rw [hz1]; rfl) hnews (by omega) (by omega) (by rw [hz2]; omega)
      rw [hr] at h
      simp only [Result.ok.injEq] at h
      rw [h.1] at hgv
      simp [Value.ownBlock] at hgv
      omega
    · by_cases hroom : ns.length + 1 ≤ cap
      · have h := run_append_room (P := Tryz.prog) (w.alloc (.cells #[.string (bs k)] tyStr)) 22 ty tyStr i0 Tryz.underlying22 hi g0 ns.length cap cur hg ⟨w.heap.size, 0, none⟩ 1 1 [.string (bs k)] (by rw [hz1]; rfl) hnews h1 hroom (by rw [hcs, hz1]; simp only [List.length_cons, List.length_nil]; omega)
        rw [hr] at h
        simp only [Result.ok.injEq] at h
        rw [h.1] at hgv
        exact Or.inl hgv
      · have h := run_append_grow (P := Tryz.prog) (w.alloc (.cells #[.string (bs k)] tyStr)) 22 ty tyStr i0 (.string ByteArray.empty) Tryz.underlying22 hi hz0 ⟨g0, 0, none⟩ ns.length cap (ns.map strV) (by rw [hz1]; exact hown.1) (hown1.cells (g := g0) rfl) ⟨w.heap.size, 0, none⟩ 1 1 [.string (bs k)] (by rw [hz1]; rfl) hnews (by omega) (by omega) (growslice_fits (by omega) (by rw [hz2]; omega))
        rw [hr] at h
        simp only [Result.ok.injEq] at h
        rw [h.1] at hgv
        simp [Value.ownBlock] at hgv
        omega
  · rcases ownsRow_forms ho2 with ⟨_, hn0⟩ | h
    · simp at hn0
    · exact h

theorem append_str {ops : Array Oper} {rest : List Oper} {o : Oper} {a : Act} {Q : Exit → Act → World → Prop} {w : World} (hgd : o.guard = none) (s x : Operand)
    (ho : o.op = .call { callee := .builtin .append, args := #[s, x], argTypes := #[22, 22] }) {base : Nat} {v : Value} {ns : Toks} (k : List UInt8)
    (hown : w.ownsRow base tyStr 1 v ns.length (ns.map strV)) (hn : ns.length ≤ 100000000) (hb : base ≤ w.heap.size) (hs : a.eval s = v) (hx : a.eval x = .slice (some ⟨w.heap.size, 0, none⟩) 1 1)
    (h : ∀ v' w', w'.ownsRow base tyStr 1 v' (ns ++ [k]).length ((ns ++ [k]).map strV) → (w.alloc (.cells #[.string (bs k)] tyStr)).grownBy w' v.ownBlock → Hid (∀ g, v'.ownBlock = some g → v.ownBlock = some g ∨ w.heap.size < g) → wpList Tryz.prog ops Q rest (a.put o.dst v') w') :
    wpList Tryz.prog ops Q (o :: rest) a (w.alloc (.cells #[.string (bs k)] tyStr)) := by
  obtain ⟨v', w', hr, h2, h3, h4, _⟩ := run_append_str (ty := o.type) k hown hn hb
  refine wpList_plain hgd fun K hK => ?_
  unfold Oper.wp execOp
  simp only [ho, resolve, invoke, builtin, Sem.run_bind, Sem.run_pure, Result.andThen_ok, List.map_toArray, List.map_cons, List.map_nil, hs, hx, hr]
  exact hK _ _ (h v' w' h2 h3 h4)


/-- The reader, with the block of its tokens. -/
structure RqT (rb tb : Nat) (ts : Toks) (w : World) : Prop where
  len : ts.length ≤ 4000
  toks : ∀ t ∈ ts, Tok t ∧ t ≠ []
  own : ∃ (o cap : Nat) (cs : Array Value), w.heap[rb]? = some (.cells #[.slice (some ⟨tb, o, none⟩) ts.length cap] tyRdr (0, 0)) ∧ w.heap[tb]? = some (.cells cs tyStr (0, 0)) ∧ ts.length ≤ cap ∧ cap ≤ 9223372036854775807 ∧ ∀ i t, ts[i]? = some t → cs[o + i]? = some (strV t)

theorem RqT.rq {rb tb : Nat} {ts : Toks} {w : World} (h : RqT rb tb ts w) : Rq rb ts w := by
  obtain ⟨o, cap, cs, r⟩ := h.own
  exact ⟨h.len, h.toks, tb, o, cap, cs, r⟩

theorem Rq.tb {rb : Nat} {ts : Toks} {w : World} (h : Rq rb ts w) : ∃ tb, tb < w.heap.size ∧ RqT rb tb ts w := by
  obtain ⟨tb, o, cap, cs, h1, h2, r⟩ := h.own
  exact ⟨tb, lt_of_heap h2, h.len, h.toks, o, cap, cs, h1, h2, r⟩

theorem RqT.more {rb tb : Nat} {t : List UInt8} {ts : Toks} {w : World} (h : RqT rb tb (t :: ts) w) : rb < w.heap.size ∧ (∃ o cap, w.cell? ⟨rb, 0, none⟩ = some (.slice (some ⟨tb, o, none⟩) (ts.length + 1) cap) ∧ w.cell? ⟨tb, o, none⟩ = some (.string (bs t)) ∧ tb < w.heap.size ∧ ts.length + 1 ≤ cap ∧ cap ≤ 9223372036854775807 ∧
    ∀ o2, (cap = 1 ∨ o2 = o + 1) → RqT rb tb ts (w.setCell ⟨rb, 0, none⟩ (.slice (some ⟨tb, o2, none⟩) ts.length (cap - 1)))) ∧ w.frozen? ⟨rb, 0, none⟩ = false := by
  obtain ⟨o, cap, cs, hb, ht, h1, h2, h3⟩ := h.own
  have hl := lt_of_heap hb
  have hne : tb ≠ rb := by
    intro e; subst e
    rw [hb] at ht; simp at ht; exact absurd ht.2 (by decide)
  refine ⟨hl, ⟨o, cap, by simp [World.cell?, hb], ?_, lt_of_heap ht, h1, h2, fun o2 ho => ?_⟩, by simp [World.frozen?, hb]⟩
  · have := h3 0 t rfl
    simp [World.cell?, ht]
    simpa [strV] using this
  · refine ⟨by have := h.len; rw [List.length_cons] at this; omega, fun x hx => h.toks x (List.mem_cons_of_mem _ hx), o2, cap - 1, cs, ?_, ?_, by rw [List.length_cons] at h1; omega, by omega, ?_⟩
    · simp only [World.setCell, Array.getElem?_modify, if_pos, hb, Option.map_some, Option.isSome_none, Bool.false_eq_true, if_false]
      simp
    · rw [Below.heap_setCell _ _ _ _ hne]; exact ht
    · intro i x hi
      rcases ho with ho | rfl
      · exfalso
        have : ts = [] := List.length_eq_zero_iff.1 (by rw [List.length_cons] at h1; omega)
        subst this
        simp at hi
      · have := h3 (i + 1) x (by simpa using hi)
        rw [← this]; congr 1; omega

set_option maxHeartbeats 1000000 in
theorem take_T {rb tb : Nat} {t : List UInt8} {r : Toks} {w : World} (h : RqT rb tb (t :: r) w) : Calls Tryz.prog 140 #[ptrV rb] w fun e w' => e = .returned (.string (bs t)) ∧ Hid (Kq rb w w' ∧ RqT rb tb r w') := by
  obtain ⟨hl, ⟨o, cap, c0, c1, hl2, hc, hc2, hR⟩, hf⟩ := h.more
  have hcap := h.len
  rw [List.length_cons] at hcap
  have hfin : ∀ w', Kq rb w w' → RqT rb tb r w' → (fun (e : Ending) (w' : World) => e = .returned (.string (bs t)) ∧ Hid (Kq rb w w' ∧ RqT rb tb r w')) (.returned (.string (bs t))) w' := fun w' h1 h2 => ⟨rfl, h1, h2⟩
  have HR := hide hR
  have HF := hide hfin
  clear h hR hfin
  unfold ptrV
  generalize (fun (e : Ending) (w' : World) => e = .returned (.string (bs t)) ∧ Hid (Kq rb w w' ∧ RqT rb tb r w')) = Q at *
  generalize bs t = tx at *
  generalize hn : r.length = n at *
  have hd : ((n : Int) + 1 == 0) = false := by simp; omega
  have hd2 : ¬ ((n : Int) + 1 = 0) := by omega
  by_cases hc1 : cap = 1
  · subst hc1
    obtain rfl : n = 0 := by omega
    go_enter Tryz.func140, Tryz.ntmps140
    go_wp2
    exact HF.out _ ((Kq.refl _ _).setR _ _) (HR.out _ (Or.inl trivial))
  · go_enter Tryz.func140, Tryz.ntmps140
    go_wp2
    exact HF.out _ ((Kq.refl _ _).setR _ _) (HR.out _ (Or.inr rfl))

/-- What the loop of names holds at its head. -/
def NamesAt (rb tb : Nat) (w : World) (ts : Toks) (gk : Nat) (v : Value) (wr : World) : Prop :=
  ∃ acc ts1, wr.ownsRow w.heap.size tyStr 1 v acc.length (acc.map strV) ∧ Kq rb w wr ∧ RqT rb tb ts1 wr ∧ gk = ts1.length ∧ acc.length + ts1.length ≤ ts.length ∧ acc ++ (G.every 110 ts1).1 = (G.every 110 ts).1 ∧ (G.every 110 ts1).2 = (G.every 110 ts).2

def AnsNs (rb : Nat) (ts : Toks) (w : World) (e : Ending) (w' : World) : Prop :=
  ∃ v, e = .returned v ∧ Kq rb w w' ∧ w'.ownsRow w.heap.size tyStr 1 v (G.every 110 ts).1.length ((G.every 110 ts).1.map strV) ∧ Rq rb (G.every 110 ts).2 w' ∧ (G.every 110 ts).1.length ≤ 4000

def AnsNsT (rb tb : Nat) (ts : Toks) (w : World) (e : Ending) (w' : World) : Prop :=
  ∃ v, e = .returned v ∧ Kq rb w w' ∧ w'.ownsRow w.heap.size tyStr 1 v (G.every 110 ts).1.length ((G.every 110 ts).1.map strV) ∧ RqT rb tb (G.every 110 ts).2 w' ∧ (G.every 110 ts).1.length ≤ 4000

set_option maxRecDepth 100000 in
set_option maxHeartbeats 4000000 in
theorem p_namesT {rb tb : Nat} (ts : Toks) (w : World) (htb : tb < w.heap.size) (hT : RqT rb tb ts w) : Calls Tryz.prog 204 #[ptrV rb] w (AnsNsT rb tb ts w) := by
  have hlen := hT.len
  have HAt : Hid (NamesAt rb tb w ts ts.length (.slice none 0 0) w) := ⟨[], ts, World.ownsRow_nil _ _ _ _, Kq.refl _ _, hT, rfl, by simp, rfl, rfl⟩
  clear hT
  go_enter Tryz.func204, Tryz.ntmps204
  go_wp2_with fail
  go_loopg [3] ts.length (fun gk v wr => Hid (NamesAt rb tb w ts gk v wr))
  case atStart => exact HAt
  case round =>
    clear HAt
    obtain ⟨acc, ts1, h1, h2, h3, rfl, h5, h6, h7⟩ := hrel.out
    have HP := hide (peek_any h3.rq)
    have HI := hide (IsName_tok h3.rq.head wr)
    cases hk : (tokKind (ts1.headD []) == 110)
    · rw [hk] at HI
      have hev : G.every 110 ts1 = ([], ts1) := by
        cases ts1 with
        | nil => rfl
        | cons t r => rw [G.every]; rw [show (tokKind t == 110) = false from hk] <;> rfl
      rw [hev] at h6 h7
      rw [List.append_nil] at h6
      have hQ : AnsNsT rb tb ts w (.returned _) wr := ⟨_, rfl, h2, by rw [← h6]; exact h1, by rw [← h7]; exact h3, by rw [← h6]; omega⟩
      have HQ := hide hQ
      clear hrel h1 h2 h3 h5 h6 h7 hev hk hQ
      generalize bs (ts1.headD []) = bx at *
      go_wp2_with fail
      refine (HP.out).mono ?_; rintro e wp ⟨rfl, hw⟩
      rw [hw]; clear hw wp
      go_wp2_with fail
      refine (HI.out).mono ?_; rintro e wp ⟨rfl, hw⟩
      rw [hw]; clear hw wp
      go_wp2_with fail
      go_ret
      exact HQ.out
    · obtain ⟨t, r, rfl⟩ := kind_cons (ts := ts1) (k := 110) (by decide) hk
      rw [hk] at HI
      have hev : G.every 110 (t :: r) = (t :: (G.every 110 r).1, (G.every 110 r).2) := by rw [G.every, show (tokKind t == 110) = true from hk] <;> rfl
      rw [hev] at h6 h7
      rw [show (t :: r).headD [] = t from rfl] at HP HI
      have HT := hide (take_T h3)
      have hacc : acc.length ≤ 100000000 := by rw [List.length_cons] at h5; omega
      have H1 := hide h1
      have H2 := hide h2
      have H5 := hide h5
      have H6 := hide h6
      have H7 := hide h7
      have HR := hide h3.rq
      clear hrel h1 h2 h3 h5 h6 h7 hev hk
      go_wp2_with fail
      refine (HP.out).mono ?_; rintro e wp ⟨rfl, hw⟩
      rw [hw]; clear hw wp
      go_wp2_with fail
      refine (HI.out).mono ?_; rintro e wp ⟨rfl, hw⟩
      rw [hw]; clear hw wp
      go_wp2_with fail
      refine (HT.out).mono ?_; rintro e w3 ⟨rfl, hT⟩
      have hown3 := ownsRow_kept (w' := w3) H1.out fun k c f _ he => kq_other (by decide) HR.out.isR hT.out.1 he
      have hsz : w.heap.size ≤ w3.heap.size := (H2.out.to hT.out.1).size
      clear HP HI HT HR
      go_wp2_with (at_builtin; refine append_str rfl _ _ rfl t hown3 hacc hsz rfl rfl ?_)
      intro v4 w4 hown4 hgr HLt
      have hown5 : w4.ownsRow w.heap.size tyStr 1 v4 (acc ++ [t]).length ((acc ++ [t]).map strV) := by
        rw [List.length_append, List.map_append]; exact hown4
      have hkg := ((H2.out.to hT.out.1).alloc _).grownOwn hgr (fun g hg => (hown3.lt g hg).1)
      have hR4 : RqT rb tb r w4 := by
        obtain ⟨o, cap, cs, e1, e2, e3⟩ := hT.out.2.own
        have hrb : rb < w3.heap.size := lt_of_heap e1
        refine ⟨hT.out.2.len, hT.out.2.toks, o, cap, cs, ?_, ?_, e3⟩
        · rw [hgr.block rb (by simp; omega) (fun e => ?_), Below.heap_alloc _ _ _ hrb]
          · exact e1
          · rcases hown3.2 with ⟨rfl, _⟩ | ⟨g2, cap2, cur, rfl, _, hgg, _⟩
            · simp [Value.ownBlock] at e
            · have e : rb = g2 := by simpa [Value.ownBlock] using e
              subst e
              rw [e1] at hgg; simp at hgg
              exact absurd hgg.2 (by decide)
        · rw [hgr.block tb (by simp; omega) (fun e => ?_), Below.heap_alloc _ _ _ (by omega)]
          · exact e2
          · have := (hown3.lt tb e.symm).1; omega
      have HAt : Hid (NamesAt rb tb w ts r.length v4 w4) := by
        refine ⟨acc ++ [t], r, hown5, hkg, hR4, rfl, ?_, ?_, H7.out⟩
        · have := H5.out; simp only [List.length_append, List.length_cons, List.length_nil] at *; omega
        · rw [List.append_assoc]; exact H6.out
      obtain ⟨g', cap', rfl⟩ : ∃ g' cap', v4 = .slice (some ⟨g', 0, none⟩) (acc ++ [t]).length cap' := by
        rcases ownsRow_forms hown5 with ⟨_, hn0⟩ | h
        · simp at hn0
        · exact h
      clear hown3 hown4 hown5 hgr HLt hkg hR4 H1 H2 H5 H6 H7 hT
      go_wp2_with fail
      go_roundg r.length
      case rel => exact HAt
      case measure => simp

theorem p_names {rb : Nat} (ts : Toks) (w : World) (h : Rq rb ts w) : Calls Tryz.prog 204 #[ptrV rb] w (AnsNs rb ts w) := by
  obtain ⟨tb, htb, hT⟩ := h.tb
  refine (p_namesT ts w htb hT).mono ?_
  rintro e w' ⟨v, h1, h2, h3, h4, h5⟩
  exact ⟨v, h1, h2, h3, h4.rq, h5⟩

end Go.Proofs.YtnocnkblhjifjaaGreatDoor
