import Derived.Test.YtnocnkblhjifjaaGreatDoorMRefText
/-
  Plain mathematics: the document's reader (Read) against the grammar (Gram2): the small steps; what is bad stays bad.
-/
namespace Go.Proofs.YtnocnkblhjifjaaGreatDoor
open Go.RowKit

/-- The reader stands at these tokens, and all is well. -/
structure At (T : Toks) (e : Nat) (s : RS) (ts : Toks) : Prop where
  bad : s.bad = false
  pos : s.pos ≤ e
  top : e ≤ T.length
  toks : ts = (T.take e).drop s.pos

section
variable {T : Toks} {e : Nat} {s : RS} {ts : Toks}

theorem At.see (h : At T e s ts) : see T e s = ts.headD [] := by
  unfold Go.Proofs.YtnocnkblhjifjaaGreatDoor.see
  rw [h.toks]
  by_cases hp : e ≤ s.pos
  · rw [if_pos (Or.inl hp), List.drop_of_length_le (by simp; omega)]; rfl
  · rw [if_neg (by simp [h.bad]; omega)]
    have hl : s.pos < (T.take e).length := by have := h.top; simp; omega
    rw [List.drop_eq_getElem_cons hl, List.headD_cons, List.getElem_take, List.getD_eq_getElem?_getD, List.getElem?_eq_getElem (by have := h.top; omega)]
    rfl

theorem At.isSign (h : At T e s ts) (x : List UInt8) : isSign T e x s = G.isW x ts := by
  unfold Go.Proofs.YtnocnkblhjifjaaGreatDoor.isSign G.isW; rw [h.see]

theorem At.isKind (h : At T e s ts) (k : Int) : isKind T e k s = (G.kindOf ts == k) := by
  unfold Go.Proofs.YtnocnkblhjifjaaGreatDoor.isKind G.kindOf; rw [h.see]

theorem At.adv (h : At T e s ts) (hk : tokKind (ts.headD []) ≠ 0) : At T e (adv s) ts.tail := by
  have hne : ts ≠ [] := fun e => by rw [e] at hk; exact hk rfl
  have hp : s.pos < e := by
    by_cases hp : s.pos < e
    · exact hp
    · rw [h.toks, List.drop_of_length_le (by simp; omega)] at hne; exact absurd rfl hne
  refine ⟨h.bad, hp, h.top, ?_⟩
  rw [h.toks]
  show _ = (T.take e).drop (s.pos + 1)
  rw [List.tail_drop]

theorem At.advW (h : At T e s ts) {x : List UInt8} (hk : G.isW x ts = true) : At T e (Go.Proofs.YtnocnkblhjifjaaGreatDoor.adv s) ts.tail :=
  h.adv (by unfold G.isW at hk; simp only [Bool.and_eq_true, beq_iff_eq] at hk; rw [hk.1]; decide)

theorem At.advK (h : At T e s ts) {k : Int} (h0 : k ≠ 0) (hk : (G.kindOf ts == k) = true) : At T e (Go.Proofs.YtnocnkblhjifjaaGreatDoor.adv s) ts.tail :=
  h.adv (by unfold G.kindOf at hk; simp only [beq_iff_eq] at hk; rw [hk]; exact h0)

theorem At.want (h : At T e s ts) (x : List UInt8) : (∃ r, G.want x ts = some r ∧ At T e (want T e x s) r) ∨ (G.want x ts = none ∧ (want T e x s).bad = true) := by
  unfold Go.Proofs.YtnocnkblhjifjaaGreatDoor.want G.want
  rw [h.isSign]
  cases hk : G.isW x ts
  · exact Or.inr ⟨rfl, rfl⟩
  · exact Or.inl ⟨_, rfl, h.advW hk⟩

theorem At.kind (h : At T e s ts) (k : Int) (h0 : k ≠ 0) : (∃ r, G.kind k ts = some (kindT T e k s, r) ∧ At T e (kindS T e k s) r) ∨ (G.kind k ts = none ∧ (kindS T e k s).bad = true) := by
  unfold kindT kindS G.kind
  rw [h.isKind, h.see]
  cases hk : (G.kindOf ts == k)
  · exact Or.inr ⟨rfl, rfl⟩
  · exact Or.inl ⟨_, rfl, h.advK h0 hk⟩

/-- What is bad sees nothing. -/
theorem bad_see (h : s.bad = true) : see T e s = [] := by unfold see; rw [if_pos (Or.inr h)]
theorem bad_sign (h : s.bad = true) (x : List UInt8) : isSign T e x s = false := by unfold isSign; rw [bad_see h]; rfl
theorem bad_kind (h : s.bad = true) (k : Int) (h0 : k ≠ 0) : isKind T e k s = false := by
  unfold isKind; rw [bad_see h]
  show ((0 : Int) == k) = false
  simp; exact fun e => h0 e.symm
theorem bad_want (h : s.bad = true) (x : List UInt8) : (want T e x s).bad = true := by unfold want; rw [bad_sign h]; rfl
theorem bad_kindS (h : s.bad = true) (k : Int) (h0 : k ≠ 0) : (kindS T e k s).bad = true := by unfold kindS; rw [bad_kind h k h0]; rfl
theorem bad_every (h : s.bad = true) (k : Int) (h0 : k ≠ 0) : everyP T e k s = ([], s) := every_no (bad_kind h k h0)
end

theorem node_bad {is name : List UInt8} {parts : List Nat} {s : RS} {q : Nat × RS} (h : nodeP is name parts s = some q) : q.2.bad = s.bad ∧ q.2.pos = s.pos := by
  obtain ⟨_, _, h3⟩ := nodeP_some (r := q.1) (s' := q.2) h
  rw [h3]; exact ⟨rfl, rfl⟩

theorem curried_bad : ∀ (l : Toks) (x : Nat) (s : RS) (q : Nat × RS), curriedP l x s = some q → q.2.bad = s.bad := by
  intro l
  induction l with
  | nil => intro x s q h; simp [curriedP] at h; rw [← h]
  | cons a r ih =>
    intro x s q h
    simp only [curriedP, Option.bind_eq_some_iff] at h
    obtain ⟨q1, h1, h2⟩ := h
    rw [(node_bad h2).1, ih _ _ _ h1]

theorem apps_bad : ∀ (l : List Nat) (f : Nat) (s : RS) (q : Nat × RS), appsP l f s = some q → q.2.bad = s.bad := by
  intro l
  induction l with
  | nil => intro f s q h; simp [appsP] at h; rw [← h]
  | cons a r ih =>
    intro f s q h
    simp only [appsP, Option.bind_eq_some_iff] at h
    obtain ⟨q1, h1, h2⟩ := h
    rw [ih _ _ _ h2, (node_bad h1).1]

end Go.Proofs.YtnocnkblhjifjaaGreatDoor
/-
  Plain mathematics: the document's reader of types is the grammar's.
-/
namespace Go.Proofs.YtnocnkblhjifjaaGreatDoor
open Go.RowKit

/-- What came of reading one tree: it is bad and the grammar has none, or it stands for the grammar's tree, at the grammar's rest. -/
def GoodN (T : Toks) (e : Nat) (s : RS) (q : Nat × RS) (g : Option (Tr × Toks)) : Prop :=
  (q.2.bad = true ∧ g = none) ∨ ∃ t r, g = some (t, r) ∧ At T e q.2 r ∧ Ext s.nodes q.2.nodes ∧ Rep q.2.nodes q.1 t

def GoodL (T : Toks) (e : Nat) (s : RS) (q : List Nat × RS) (g : Option (List Tr × Toks)) : Prop :=
  (q.2.bad = true ∧ g = none) ∨ ∃ t r, g = some (t, r) ∧ At T e q.2 r ∧ Ext s.nodes q.2.nodes ∧ Rep.Reps q.2.nodes q.1 t

theorem At.node {T : Toks} {e : Nat} {s : RS} {ts : Toks} (h : At T e s ts) {is name : List UInt8} {parts : List Nat} {q : Nat × RS} (hq : nodeP is name parts s = some q) : At T e q.2 ts := by
  obtain ⟨_, _, h3⟩ := nodeP_some (r := q.1) (s' := q.2) hq
  rw [h3]
  exact ⟨h.bad, h.pos, h.top, h.toks⟩

/-- A node of trees that were read. -/
theorem rep_node {is name : List UInt8} {parts : List Nat} {trs : List Tr} {s : RS} {q : Nat × RS} (hq : nodeP is name parts s = some q) (hr : Rep.Reps s.nodes parts trs) : Rep q.2.nodes q.1 (.mk is name trs) ∧ Ext s.nodes q.2.nodes := by
  have := Rep.node (r := q.1) (s' := q.2) hq hr hr.lt
  exact ⟨this.1, this.2.1⟩

section
variable {T : Toks} {e : Nat}

theorem atypes_bad {n : Nat} {s : RS} {q : List Nat × RS} (h : atypesP T e n s = some q) (hb : s.bad = true) : q.2.bad = true := by
  cases n with
  | zero => simp [atypesP] at h
  | succ n =>
    rw [atypesP, bad_kind hb 108 (by decide), bad_kind hb 110 (by decide), bad_sign hb] at h
    simp only [cond_false, Option.some.injEq] at h
    rw [← h]; exact hb

theorem typ_bad {n : Nat} {s : RS} {q : Nat × RS} (h : atypesP.typP T e n s = some q) (hb : s.bad = true) : q.2.bad = true := by
  cases n with
  | zero => simp [atypesP.typP] at h
  | succ n =>
    rw [atypesP.typP, bad_kind hb 108 (by decide), bad_kind hb 110 (by decide), bad_sign hb] at h
    simp only [Bool.not_false, Bool.and_self, cond_true, Option.some.injEq] at h
    rw [← h]; rfl

theorem types_law : ∀ n, (∀ s ts q, At T e s ts → atypesP T e n s = some q → GoodL T e s q (G.atypes n ts)) ∧ (∀ s ts q, At T e s ts → atypesP.typ1P T e n s = some q → ((G.kindOf ts == 110) = true ∨ (G.kindOf ts == 108) = true ∨ G.isW K.open_ ts = true) → GoodN T e s q (G.atypes.typ1 n ts)) ∧ (∀ s ts q, At T e s ts → atypesP.typP T e n s = some q → GoodN T e s q (G.atypes.typ n ts)) := by
  intro n
  induction n with
  | zero => exact ⟨fun s ts q _ h => by simp [atypesP] at h, fun s ts q _ h => by simp [atypesP.typ1P] at h, fun s ts q _ h => by simp [atypesP.typP] at h⟩
  | succ n ih =>
    obtain ⟨ihA, ih1, ihT⟩ := ih
    refine ⟨?_, ?_, ?_⟩
    · intro s ts q hA h
      rw [atypesP, hA.isKind, hA.isKind, hA.isSign, hA.see] at h
      rw [G.atypes]
      cases k1 : (G.kindOf ts == 108)
      · rw [k1, cond_false] at h
        rw [cond_false]
        cases k2 : (G.kindOf ts == 110)
        · rw [k2, cond_false] at h
          rw [cond_false]
          cases k3 : G.isW K.open_ ts
          · rw [k3, cond_false] at h
            rw [cond_false]
            obtain rfl := Option.some.inj h
            exact Or.inr ⟨[], ts, rfl, hA, Ext.refl _, .nil⟩
          · rw [k3, cond_true] at h
            rw [cond_true]
            simp only [Option.bind_eq_some_iff, Option.some.injEq] at h
            obtain ⟨a, ha, l, hl, rfl⟩ := h
            rcases ihT _ _ _ (hA.advW k3) ha with ⟨hb, hg⟩ | ⟨t, r, hg, hAt, hE, hR⟩
            · rw [hg]
              exact Or.inl ⟨(show l.2.bad = true from atypes_bad hl (bad_want hb _)), rfl⟩
            · rw [hg, Option.bind_some]
              rcases hAt.want K.shut_ with ⟨r2, hw, hA2⟩ | ⟨hw, hb⟩
              · rw [hw, Option.bind_some]
                have hnd : (want T e K.shut_ a.2).nodes = a.2.nodes := by unfold want; cases isSign T e K.shut_ a.2 <;> rfl
                rcases ihA _ _ _ hA2 hl with ⟨hb, hg2⟩ | ⟨ts2, r3, hg2, hA3, hE3, hR3⟩
                · rw [hg2]; exact Or.inl ⟨hb, rfl⟩
                · rw [hg2]
                  rw [hnd] at hE3
                  exact Or.inr ⟨_, _, rfl, hA3, hE.trans hE3, .cons (hR.ext hE3) hR3⟩
              · rw [hw]
                exact Or.inl ⟨(show l.2.bad = true from atypes_bad hl hb), rfl⟩
        · rw [k2, cond_true] at h
          rw [cond_true]
          simp only [Option.bind_eq_some_iff, Option.some.injEq] at h
          obtain ⟨a, ha, l, hl, rfl⟩ := h
          have hn := rep_node ha .nil
          rcases ihA _ _ _ ((hA.advK (by decide) k2).node ha) hl with ⟨hb, hg2⟩ | ⟨ts2, r3, hg2, hA3, hE3, hR3⟩
          · rw [hg2]; exact Or.inl ⟨hb, rfl⟩
          · rw [hg2]
            exact Or.inr ⟨_, _, rfl, hA3, hn.2.trans hE3, .cons (hn.1.ext hE3) hR3⟩
      · rw [k1, cond_true] at h
        rw [cond_true]
        simp only [Option.bind_eq_some_iff, Option.some.injEq] at h
        obtain ⟨a, ha, l, hl, rfl⟩ := h
        have hn := rep_node ha .nil
        rcases ihA _ _ _ ((hA.advK (by decide) k1).node ha) hl with ⟨hb, hg2⟩ | ⟨ts2, r3, hg2, hA3, hE3, hR3⟩
        · rw [hg2]; exact Or.inl ⟨hb, rfl⟩
        · rw [hg2]
          exact Or.inr ⟨_, _, rfl, hA3, hn.2.trans hE3, .cons (hn.1.ext hE3) hR3⟩
    · intro s ts q hA h hk
      rw [atypesP.typ1P, hA.isKind, hA.isKind, hA.see] at h
      rw [G.atypes.typ1]
      cases k1 : (G.kindOf ts == 110)
      · rw [k1, cond_false] at h
        rw [cond_false]
        cases k2 : (G.kindOf ts == 108)
        · rw [k2, cond_false] at h
          rw [cond_false]
          have k3 : G.isW K.open_ ts = true := by
            rcases hk with hk | hk | hk
            · rw [k1] at hk; cases hk
            · rw [k2] at hk; cases hk
            · exact hk
          have hw : want T e K.open_ s = adv s := by unfold want; rw [hA.isSign, k3]; rfl
          rw [hw] at h
          rw [show G.want K.open_ ts = some ts.tail by unfold G.want; rw [k3]; rfl, Option.bind_some]
          simp only [Option.bind_eq_some_iff, Option.some.injEq] at h
          obtain ⟨a, ha, rfl⟩ := h
          rcases ihT _ _ _ (hA.advW k3) ha with ⟨hb, hg⟩ | ⟨t, r, hg, hAt, hE, hR⟩
          · rw [hg]; exact Or.inl ⟨bad_want hb _, rfl⟩
          · rw [hg, Option.bind_some]
            have hnd : (want T e K.shut_ a.2).nodes = a.2.nodes := by unfold want; cases isSign T e K.shut_ a.2 <;> rfl
            rcases hAt.want K.shut_ with ⟨r2, hw, hA2⟩ | ⟨hw, hb⟩
            · rw [hw]
              exact Or.inr ⟨_, _, rfl, hA2, by rw [hnd]; exact hE, by rw [hnd]; exact hR⟩
            · rw [hw]; exact Or.inl ⟨hb, rfl⟩
        · rw [k2, cond_true] at h
          rw [cond_true]
          have hn := rep_node h .nil
          exact Or.inr ⟨_, _, rfl, (hA.advK (by decide) k2).node h, hn.2, hn.1⟩
      · rw [k1, cond_true, Option.bind_eq_some_iff] at h
        rw [cond_true]
        obtain ⟨l, hl, h⟩ := h
        rcases ihA _ _ _ (hA.advK (by decide) k1) hl with ⟨hb, hg2⟩ | ⟨ts2, r3, hg2, hA3, hE3, hR3⟩
        · rw [hg2]; exact Or.inl ⟨by rw [(node_bad h).1]; exact hb, rfl⟩
        · rw [hg2]
          have hn := rep_node h hR3
          exact Or.inr ⟨_, _, rfl, hA3.node h, hE3.trans hn.2, hn.1⟩
    · intro s ts q hA h
      rw [atypesP.typP, hA.isKind, hA.isKind, hA.isSign] at h
      rw [G.atypes.typ]
      cases k : (!(G.kindOf ts == 110) && !(G.kindOf ts == 108) && !G.isW K.open_ ts)
      · rw [k, cond_false, Option.bind_eq_some_iff] at h
        obtain ⟨a, ha, h⟩ := h
        have hk : (G.kindOf ts == 110) = true ∨ (G.kindOf ts == 108) = true ∨ G.isW K.open_ ts = true := by
          cases h1 : (G.kindOf ts == 110)
          · cases h2 : (G.kindOf ts == 108)
            · cases h3 : G.isW K.open_ ts
              · rw [h1, h2, h3] at k; cases k
              · exact Or.inr (Or.inr rfl)
            · exact Or.inr (Or.inl rfl)
          · exact Or.inl rfl
        rcases ih1 _ _ _ hA ha hk with ⟨hb, hg⟩ | ⟨t, r, hg, hAt, hE, hR⟩
        · rw [hg]
          rw [bad_sign hb, cond_false] at h
          obtain rfl := Option.some.inj h
          exact Or.inl ⟨hb, rfl⟩
        · rw [hg, Option.bind_some]
          rw [hAt.isSign] at h
          cases k4 : G.isW K.arrow_ r
          · rw [k4, cond_false] at h
            obtain rfl := Option.some.inj h
            exact Or.inr ⟨_, _, rfl, hAt, hE, hR⟩
          · rw [k4, cond_true, Option.bind_eq_some_iff] at h
            obtain ⟨b, hb, h⟩ := h
            rcases ihT _ _ _ (hAt.advW k4) hb with ⟨hbb, hg2⟩ | ⟨t2, r2, hg2, hA2, hE2, hR2⟩
            · simp only [cond_true]
              rw [hg2]; exact Or.inl ⟨by rw [(node_bad h).1]; exact hbb, rfl⟩
            · simp only [cond_true]
              rw [hg2]
              have hn := rep_node h (.cons (hR.ext hE2) (.cons hR2 .nil))
              exact Or.inr ⟨_, _, rfl, hA2.node h, (hE.trans hE2).trans hn.2, hn.1⟩
      · rw [k, cond_true] at h
        obtain rfl := Option.some.inj h
        refine Or.inl ⟨rfl, ?_⟩
        simp only [Bool.and_eq_true, Bool.not_eq_true'] at k
        cases n with
        | zero => rfl
        | succ n =>
          rw [G.atypes.typ1, k.1.1, k.1.2]
          simp only [cond_false, G.want, k.2]
          rfl

end
end Go.Proofs.YtnocnkblhjifjaaGreatDoor
