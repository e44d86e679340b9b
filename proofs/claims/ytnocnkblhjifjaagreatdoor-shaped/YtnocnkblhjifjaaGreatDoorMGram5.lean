import Derived.Test.YtnocnkblhjifjaaGreatDoorMGram3
import Derived.Test.YtnocnkblhjifjaaGreatDoorMRefApattern
/-
  Plain mathematics: the document's reader of patterns is the grammar's.
-/
namespace Go.Proofs.YtnocnkblhjifjaaGreatDoor
open Go.RowKit

def GoodA (T : Toks) (e : Nat) (s : RS) (q : Nat × Bool × RS) (g : Option (Option Tr × Toks)) : Prop :=
  (q.2.2.bad = true ∧ g = none) ∨ (∃ r, g = some (none, r) ∧ q.2.1 = false ∧ At T e q.2.2 r ∧ Ext s.nodes q.2.2.nodes) ∨ ∃ t r, g = some (some t, r) ∧ q.2.1 = true ∧ At T e q.2.2 r ∧ Ext s.nodes q.2.2.nodes ∧ Rep q.2.2.nodes q.1 t

section
variable {T : Toks} {e : Nat}

theorem want_nodes (x : List UInt8) (s : RS) : (want T e x s).nodes = s.nodes := by unfold want; cases isSign T e x s <;> rfl

theorem plain_law {s : RS} {ts : Toks} {p : Nat × Bool × RS} (hA : At T e s ts) (h : plainP T e s = some p) :
    (G.plain ts = none ∧ p = (0, false, s)) ∨ ∃ t r, G.plain ts = some (t, r) ∧ p.2.1 = true ∧ At T e p.2.2 r ∧ Ext s.nodes p.2.2.nodes ∧ Rep p.2.2.nodes p.1 t := by
  unfold plainP at h
  unfold G.plain
  rw [hA.isKind, hA.isKind, hA.isKind, hA.isSign, hA.isSign, hA.see] at h
  cases k1 : (G.kindOf ts == 100)
  · rw [k1, cond_false] at h
    rw [cond_false]
    cases k2 : (G.kindOf ts == 110)
    · rw [k2, cond_false] at h
      rw [cond_false]
      cases k3 : (G.kindOf ts == 99)
      · rw [k3, cond_false] at h
        rw [cond_false]
        cases k4 : (G.isW K.true_ ts || G.isW K.false_ ts)
        · rw [k4, cond_false] at h
          exact Or.inl ⟨rfl, (Option.some.inj h).symm⟩
        · rw [k4, cond_true, Option.bind_eq_some_iff] at h
          obtain ⟨q, hq, h⟩ := h
          obtain rfl := Option.some.inj h
          have hn := rep_node hq .nil
          have hadv : At T e (adv s) ts.tail := by
            cases k5 : G.isW K.true_ ts
            · rw [k5, Bool.false_or] at k4; exact hA.advW k4
            · exact hA.advW k5
          exact Or.inr ⟨_, _, rfl, rfl, hadv.node hq, hn.2, hn.1⟩
      · rw [k3, cond_true, Option.bind_eq_some_iff] at h
        obtain ⟨q, hq, h⟩ := h
        obtain rfl := Option.some.inj h
        have hn := rep_node hq .nil
        exact Or.inr ⟨_, _, rfl, rfl, (hA.advK (by decide) k3).node hq, hn.2, hn.1⟩
    · rw [k2, cond_true, Option.bind_eq_some_iff] at h
      obtain ⟨q, hq, h⟩ := h
      obtain rfl := Option.some.inj h
      have hn := rep_node hq .nil
      exact Or.inr ⟨_, _, rfl, rfl, (hA.advK (by decide) k2).node hq, hn.2, hn.1⟩
  · rw [k1, cond_true, Option.bind_eq_some_iff] at h
    obtain ⟨q, hq, h⟩ := h
    obtain rfl := Option.some.inj h
    have hn := rep_node hq .nil
    exact Or.inr ⟨_, _, rfl, rfl, (hA.advK (by decide) k1).node hq, hn.2, hn.1⟩

theorem plain_bad {s : RS} (hb : s.bad = true) : plainP T e s = some (0, false, s) := by
  unfold plainP
  rw [bad_kind hb 100 (by decide), bad_kind hb 110 (by decide), bad_kind hb 99 (by decide), bad_sign hb, bad_sign hb]
  rfl

theorem apattern_bad {n : Nat} {s : RS} {q : Nat × Bool × RS} (h : patternP.apatternP T e n s = some q) (hb : s.bad = true) : q = (0, false, s) := by
  cases n with
  | zero => simp [patternP.apatternP] at h
  | succ n =>
    rw [patternP.apatternP, plain_bad hb, Option.bind_some, bad_sign hb, bad_sign hb] at h
    exact (Option.some.inj h).symm

theorem apatterns_bad {n : Nat} {s : RS} {q : List Nat × RS} (h : patternP.apatternsP T e n s = some q) (hb : s.bad = true) : q.2.bad = true := by
  cases n with
  | zero => simp [patternP.apatternsP] at h
  | succ n =>
    rw [patternP.apatternsP, Option.bind_eq_some_iff] at h
    obtain ⟨a, ha, h⟩ := h
    rw [apattern_bad ha hb, cond_false] at h
    rw [← Option.some.inj h]; exact hb

theorem pattern_bad {n : Nat} {s : RS} {q : Nat × RS} (h : patternP T e n s = some q) (hb : s.bad = true) : q.2.bad = true := by
  cases n with
  | zero => simp [patternP] at h
  | succ n =>
    rw [patternP, bad_kind hb 99 (by decide), cond_false, Option.bind_eq_some_iff] at h
    obtain ⟨a, ha, h⟩ := h
    rw [apattern_bad ha hb] at h
    rw [← Option.some.inj h]; rfl

theorem patterns_law : ∀ n, (∀ s ts q, At T e s ts → patternP T e n s = some q → GoodN T e s q (G.pattern n ts)) ∧ (∀ s ts q, At T e s ts → patternP.apatternsP T e n s = some q → GoodL T e s q (G.pattern.apatterns n ts)) ∧ (∀ s ts q, At T e s ts → patternP.apatternP T e n s = some q → GoodA T e s q (G.pattern.apattern n ts)) := by
  intro n
  induction n with
  | zero => exact ⟨fun s ts q _ h => by simp [patternP] at h, fun s ts q _ h => by simp [patternP.apatternsP] at h, fun s ts q _ h => by simp [patternP.apatternP] at h⟩
  | succ n ih =>
    obtain ⟨ihP, ihS, ihA⟩ := ih
    refine ⟨?_, ?_, ?_⟩
    · intro s ts q hA h
      rw [patternP, hA.isKind, hA.see] at h
      rw [G.pattern]
      cases k1 : (G.kindOf ts == 99)
      · rw [k1, cond_false, Option.bind_eq_some_iff] at h
        rw [cond_false]
        obtain ⟨a, ha, h⟩ := h
        obtain rfl := Option.some.inj h
        rcases ihA _ _ _ hA ha with ⟨hb, hg⟩ | ⟨r, hg, hok, hAt, hE⟩ | ⟨t, r, hg, hok, hAt, hE, hR⟩
        · rw [hg]
          refine Or.inl ⟨?_, rfl⟩
          show (bif a.2.1 then a.2.2 else spoil a.2.2).bad = true
          cases a.2.1
          · rfl
          · exact hb
        · rw [hg]
          refine Or.inl ⟨?_, rfl⟩
          show (bif a.2.1 then a.2.2 else spoil a.2.2).bad = true
          rw [hok]; rfl
        · rw [hg]
          refine Or.inr ⟨t, r, rfl, ?_, ?_, ?_⟩
          · show At T e (bif a.2.1 then a.2.2 else spoil a.2.2) r
            rw [hok]; exact hAt
          · show Ext s.nodes (bif a.2.1 then a.2.2 else spoil a.2.2).nodes
            rw [hok]; exact hE
          · show Rep (bif a.2.1 then a.2.2 else spoil a.2.2).nodes a.1 t
            rw [hok]; exact hR
      · rw [k1, cond_true, Option.bind_eq_some_iff] at h
        rw [cond_true]
        obtain ⟨l, hl, h⟩ := h
        rcases ihS _ _ _ (hA.advK (by decide) k1) hl with ⟨hb, hg2⟩ | ⟨ts2, r3, hg2, hA3, hE3, hR3⟩
        · rw [hg2]; exact Or.inl ⟨by rw [(node_bad h).1]; exact hb, rfl⟩
        · rw [hg2]
          have hn := rep_node h hR3
          exact Or.inr ⟨_, _, rfl, hA3.node h, hE3.trans hn.2, hn.1⟩
    · intro s ts q hA h
      rw [patternP.apatternsP, Option.bind_eq_some_iff] at h
      rw [G.pattern.apatterns]
      obtain ⟨a, ha, h⟩ := h
      rcases ihA _ _ _ hA ha with ⟨hb, hg⟩ | ⟨r, hg, hok, hAt, hE⟩ | ⟨t, r, hg, hok, hAt, hE, hR⟩
      · rw [hg]
        refine Or.inl ⟨?_, rfl⟩
        cases hok : a.2.1
        · rw [hok, cond_false] at h
          rw [← Option.some.inj h]; exact hb
        · rw [hok, cond_true, Option.bind_eq_some_iff] at h
          obtain ⟨l, hl, h⟩ := h
          rw [← Option.some.inj h]
          exact (show l.2.bad = true from apatterns_bad hl hb)
      · rw [hok, cond_false] at h
        obtain rfl := Option.some.inj h
        rw [hg]
        exact Or.inr ⟨[], r, rfl, hAt, hE, .nil⟩
      · rw [hok, cond_true, Option.bind_eq_some_iff] at h
        obtain ⟨l, hl, h⟩ := h
        obtain rfl := Option.some.inj h
        rw [hg]
        simp only [Option.bind_some]
        rcases ihS _ _ _ hAt hl with ⟨hb, hg2⟩ | ⟨ts2, r3, hg2, hA3, hE3, hR3⟩
        · rw [hg2]; exact Or.inl ⟨hb, rfl⟩
        · rw [hg2]
          exact Or.inr ⟨_, _, rfl, hA3, hE.trans hE3, .cons (hR.ext hE3) hR3⟩
    · intro s ts q hA h
      rw [patternP.apatternP, Option.bind_eq_some_iff] at h
      rw [G.pattern.apattern]
      obtain ⟨p, hp, h⟩ := h
      rcases plain_law hA hp with ⟨hg, rfl⟩ | ⟨t, r, hg, hok, hAt, hE, hR⟩
      · rw [hg]
        rw [cond_false, hA.isSign, hA.isSign] at h
        simp only
        cases k1 : G.isW K.under_ ts
        · rw [k1, cond_false] at h
          rw [cond_false]
          cases k2 : G.isW K.open_ ts
          · rw [k2, cond_false] at h
            rw [cond_false]
            obtain rfl := Option.some.inj h
            exact Or.inr (Or.inl ⟨ts, rfl, rfl, hA, Ext.refl _⟩)
          · rw [k2, cond_true, (hA.advW k2).isSign] at h
            rw [cond_true]
            cases k3 : G.isW K.shut_ ts.tail
            · rw [k3, cond_false, Option.bind_eq_some_iff] at h
              rw [cond_false]
              obtain ⟨a, ha, h⟩ := h
              obtain rfl := Option.some.inj h
              rcases ihP _ _ _ (hA.advW k2) ha with ⟨hb, hg2⟩ | ⟨t, r, hg2, hAt, hE, hR⟩
              · rw [hg2]; exact Or.inl ⟨bad_want hb _, rfl⟩
              · rw [hg2, Option.bind_some]
                rcases hAt.want K.shut_ with ⟨r2, hw, hA2⟩ | ⟨hw, hb⟩
                · rw [hw]
                  exact Or.inr (Or.inr ⟨t, r2, rfl, rfl, hA2, by rw [want_nodes]; exact hE, by rw [want_nodes]; exact hR⟩)
                · rw [hw]; exact Or.inl ⟨hb, rfl⟩
            · rw [k3, cond_true, Option.bind_eq_some_iff] at h
              rw [cond_true]
              obtain ⟨a, ha, h⟩ := h
              obtain rfl := Option.some.inj h
              have hn := rep_node ha .nil
              exact Or.inr (Or.inr ⟨_, _, rfl, rfl, ((hA.advW k2).advW k3).node ha, hn.2, hn.1⟩)
        · rw [k1, cond_true, Option.bind_eq_some_iff] at h
          rw [cond_true]
          obtain ⟨a, ha, h⟩ := h
          obtain rfl := Option.some.inj h
          have hn := rep_node ha .nil
          exact Or.inr (Or.inr ⟨_, _, rfl, rfl, (hA.advW k1).node ha, hn.2, hn.1⟩)
      · rw [hok, cond_true] at h
        obtain rfl := Option.some.inj h
        rw [hg]
        exact Or.inr (Or.inr ⟨t, r, rfl, hok, hAt, hE, hR⟩)

end
end Go.Proofs.YtnocnkblhjifjaaGreatDoor
/-
  Plain mathematics: the steps that the reader of expressions takes: names, functions of several names, apps; what is bad stays bad.
-/
namespace Go.Proofs.YtnocnkblhjifjaaGreatDoor
open Go.RowKit

section
variable {T : Toks} {e : Nat}

theorem every_law (k : Int) (h0 : k ≠ 0) : ∀ (n : Nat) (s : RS) (ts : Toks), e - s.pos = n → At T e s ts → (everyP T e k s).1 = (G.every k ts).1 ∧ At T e (everyP T e k s).2 (G.every k ts).2 ∧ (everyP T e k s).2.nodes = s.nodes := by
  intro n
  induction n with
  | zero =>
    intro s ts hn hA
    have hts : ts = [] := by rw [hA.toks, List.drop_of_length_le (by simp; omega)]
    have hk : isKind T e k s = false := by rw [hA.isKind, hts]; unfold G.kindOf; show ((0 : Int) == k) = false; simp; exact fun h => h0 h.symm
    rw [every_no hk, hts]
    refine ⟨rfl, ?_, rfl⟩
    rw [hts] at hA; exact hA
  | succ n ih =>
    intro s ts hn hA
    have hp : s.pos < e := by omega
    have hl : s.pos < (T.take e).length := by have := hA.top; simp; omega
    obtain ⟨t, r, htr⟩ : ∃ t r, ts = t :: r := ⟨_, _, by rw [hA.toks, List.drop_eq_getElem_cons hl]⟩
    cases hk : isKind T e k s
    · rw [every_no hk]
      rw [hA.isKind, htr] at hk
      rw [htr] at hA ⊢
      have : (tokKind t == k) = false := hk
      rw [G.every, this]
      exact ⟨rfl, hA, rfl⟩
    · rw [every_yes hp hk, hA.see]
      rw [hA.isKind] at hk
      have hadv := hA.advK h0 hk
      rw [htr] at hk hadv ⊢
      have hkt : (tokKind t == k) = true := hk
      have := ih (adv s) r (by show e - (s.pos + 1) = n; omega) hadv
      rw [G.every, hkt]
      simp only [cond_true, List.headD_cons]
      exact ⟨by rw [this.1], this.2.1, this.2.2⟩

theorem curried_law : ∀ (l : Toks) (x : Nat) (t : Tr) (s : RS) (ts : Toks) (q : Nat × RS), At T e s ts → curriedP l x s = some q → Rep s.nodes x t → At T e q.2 ts ∧ Ext s.nodes q.2.nodes ∧ Rep q.2.nodes q.1 (G.curried l t) := by
  intro l
  induction l with
  | nil =>
    intro x t s ts q hA h hR
    obtain rfl := Option.some.inj h
    exact ⟨hA, Ext.refl _, hR⟩
  | cons a r ih =>
    intro x t s ts q hA h hR
    simp only [curriedP, Option.bind_eq_some_iff] at h
    obtain ⟨q1, h1, h2⟩ := h
    have hi := ih x t s ts q1 hA h1 hR
    have hn := rep_node h2 (.cons hi.2.2 .nil)
    exact ⟨hi.1.node h2, hi.2.1.trans hn.2, hn.1⟩

theorem apps_law : ∀ (l : List Nat) (trs : List Tr) (f : Nat) (t : Tr) (s : RS) (ts : Toks) (q : Nat × RS), At T e s ts → appsP l f s = some q → Rep.Reps s.nodes l trs → Rep s.nodes f t → At T e q.2 ts ∧ Ext s.nodes q.2.nodes ∧ Rep q.2.nodes q.1 (G.apps trs t) := by
  intro l
  induction l with
  | nil =>
    intro trs f t s ts q hA h hRs hR
    obtain rfl := Option.some.inj h
    obtain rfl := hRs.unnil
    exact ⟨hA, Ext.refl _, hR⟩
  | cons a r ih =>
    intro trs f t s ts q hA h hRs hR
    simp only [appsP, Option.bind_eq_some_iff] at h
    obtain ⟨q1, h1, h2⟩ := h
    obtain ⟨t2, trs, rfl, ha, hr⟩ := hRs.uncons
    have hn := rep_node h1 (.cons hR (.cons ha .nil))
    have hi := ih _ q1.1 _ q1.2 ts q (hA.node h1) h2 (hr.ext hn.2) hn.1
    exact ⟨hi.1, hn.2.trans hi.2.1, hi.2.2⟩

theorem expr_bad {n : Nat} {s : RS} {q : Nat × RS} (h : bindingP.exprP T e n s = some q) (hb : s.bad = true) : q.2.bad = true := by
  cases n with
  | zero => simp [bindingP.exprP] at h
  | succ n =>
    rw [bindingP.exprP, hb, cond_true] at h
    rw [← Option.some.inj h]; exact hb

theorem atoms_bad {n : Nat} {s : RS} {q : List Nat × RS} (h : bindingP.atomsP T e n s = some q) (hb : s.bad = true) : q = ([], s) := by
  cases n with
  | zero => simp [bindingP.atomsP] at h
  | succ n =>
    rw [bindingP.atomsP, hb, cond_true] at h
    exact (Option.some.inj h).symm

theorem app_bad {n : Nat} {s : RS} {q : Nat × RS} (h : bindingP.appP T e n s = some q) (hb : s.bad = true) : q.2.bad = true := by
  cases n with
  | zero => simp [bindingP.appP] at h
  | succ n =>
    rw [bindingP.appP, bad_kind hb 99 (by decide), cond_false, Option.bind_eq_some_iff] at h
    obtain ⟨l, hl, h⟩ := h
    rw [atoms_bad hl hb] at h
    rw [← Option.some.inj h]; rfl

theorem levels_bad {n k a : Nat} {s : RS} {q : Nat × RS} (h : bindingP.levelsP T e n k a s = some q) (hb : s.bad = true) : q.2.bad = true := by
  cases n with
  | zero => simp [bindingP.levelsP] at h
  | succ n =>
    rw [bindingP.levelsP, bad_kind hb 119 (by decide)] at h
    simp only [Bool.false_and, cond_false, Option.some.injEq] at h
    rw [← h]; exact hb

theorem level_bad : ∀ {n k : Nat} {s : RS} {q : Nat × RS}, bindingP.levelP T e n k s = some q → s.bad = true → q.2.bad = true := by
  intro n
  induction n with
  | zero => intro k s q h; simp [bindingP.levelP] at h
  | succ n ih =>
    intro k s q h hb
    rw [bindingP.levelP] at h
    split at h
    · exact app_bad h hb
    · rw [Option.bind_eq_some_iff] at h
      obtain ⟨a, ha, h⟩ := h
      exact levels_bad h (ih ha hb)

theorem set_bad {n a : Nat} {s : RS} {q : Nat × RS} (h : bindingP.setP T e n a s = some q) (hb : s.bad = true) : q.2.bad = true := by
  cases n with
  | zero => simp [bindingP.setP] at h
  | succ n =>
    rw [bindingP.setP, bad_sign hb, cond_false] at h
    rw [← Option.some.inj h]; exact hb

theorem rows_bad {n : Nat} {s : RS} {q : List Nat × RS} (h : bindingP.rowsP T e n s = some q) (hb : s.bad = true) : q.2.bad = true := by
  cases n with
  | zero => simp [bindingP.rowsP] at h
  | succ n =>
    rw [bindingP.rowsP, hb, cond_true] at h
    rw [← Option.some.inj h]; exact hb

theorem matchEnd_bad {m : Nat} {l : List Nat} {s : RS} {q : Nat × RS} (h : matchEnd m l s = some q) (hb : s.bad = true ∨ 13 < l.length) : q.2.bad = true := by
  rw [matchEnd, Option.bind_eq_some_iff] at h
  obtain ⟨a, ha, h⟩ := h
  rw [← Option.some.inj h]
  show a.2.bad = true
  rw [(node_bad ha).1]
  split
  · rfl
  · rcases hb with hb | hb
    · exact hb
    · contradiction

theorem binding_bad {n : Nat} {s : RS} {q : List UInt8 × List UInt8 × Nat × RS} (h : bindingP T e n s = some q) (hb : s.bad = true) : q.2.2.2.bad = true := by
  cases n with
  | zero => simp [bindingP] at h
  | succ n =>
    rw [bindingP, bad_sign hb] at h
    simp only [cond_false, Bool.false_and, Option.bind_eq_some_iff] at h
    obtain ⟨x, hx, f, hf, h⟩ := h
    rw [← Option.some.inj h]
    show f.2.bad = true
    have hk := bad_kindS (T := T) (e := e) hb 110 (by decide)
    rw [bad_every hk 110 (by decide)] at hx
    rw [curried_bad _ _ _ _ hf]
    exact expr_bad hx (bad_want hk _)

end
end Go.Proofs.YtnocnkblhjifjaaGreatDoor
/-
  Plain mathematics: the document's reader of expressions is the grammar's.
-/
namespace Go.Proofs.YtnocnkblhjifjaaGreatDoor
open Go.RowKit

section
variable (T : Toks) (e : Nat)

def LawB (n : Nat) : Prop := ∀ s ts q, At T e s ts → bindingP T e n s = some q → (q.2.2.2.bad = true ∧ G.binding n ts = none) ∨ ∃ t r, G.binding n ts = some (q.1, q.2.1, t, r) ∧ At T e q.2.2.2 r ∧ Ext s.nodes q.2.2.2.nodes ∧ Rep q.2.2.2.nodes q.2.2.1 t
def LawE (n : Nat) : Prop := ∀ s ts q, At T e s ts → bindingP.exprP T e n s = some q → GoodN T e s q (G.binding.expr n ts)
def LawS (n : Nat) : Prop := ∀ s ts a ta q, At T e s ts → Rep s.nodes a ta → bindingP.setP T e n a s = some q → GoodN T e s q (G.binding.set n ta ts)
def LawL (n : Nat) : Prop := ∀ k s ts q, At T e s ts → bindingP.levelP T e n k s = some q → GoodN T e s q (G.binding.level n k ts)
def LawLs (n : Nat) : Prop := ∀ k s ts a ta q, At T e s ts → Rep s.nodes a ta → bindingP.levelsP T e n k a s = some q → GoodN T e s q (G.binding.levels n k ta ts)
def LawAp (n : Nat) : Prop := ∀ s ts q, At T e s ts → bindingP.appP T e n s = some q → GoodN T e s q (G.binding.app n ts)
def LawAs (n : Nat) : Prop := ∀ s ts q, At T e s ts → bindingP.atomsP T e n s = some q → GoodL T e s q (G.binding.atoms n ts)
def LawA (n : Nat) : Prop := ∀ s ts q, At T e s ts → bindingP.atomP T e n s = some q → GoodA T e s q (G.binding.atom n ts)
def LawM (n : Nat) : Prop := ∀ s ts q, At T e s ts → bindingP.matchP T e n s = some q → GoodN T e s q (G.binding.matches_ n ts)
def LawR (n : Nat) : Prop := ∀ s ts q, At T e s ts → bindingP.rowsP T e n s = some q → GoodL T e s q (G.binding.rows n ts)
end

section
variable {T : Toks} {e : Nat}

theorem lawB_step {n : Nat} (hE : LawE T e n) : LawB T e (n + 1) := by
  intro s0 ts0 q hA0 h
  rw [bindingP, hA0.isSign] at h
  rw [G.binding]
  have main : ∀ (rc : Bool) (s : RS) (ts : Toks), At T e s ts → s.nodes = s0.nodes →
      ((bindingP.exprP T e n (want T e K.eq_ (bif rc && (everyP T e 110 (kindS T e 110 s)).1.isEmpty then spoil (everyP T e 110 (kindS T e 110 s)).2 else (everyP T e 110 (kindS T e 110 s)).2))).bind fun x => (curriedP (everyP T e 110 (kindS T e 110 s)).1 x.1 x.2).bind fun f => some (bif rc then K.rec_ else K.let_, kindT T e 110 s, f.1, f.2)) = some q →
      (q.2.2.2.bad = true ∧ ((G.kind 110 ts).bind fun nm => bif rc && (G.every 110 nm.2).1.isEmpty then none else (G.want K.eq_ (G.every 110 nm.2).2).bind fun ts => (G.binding.expr n ts).bind fun x => some (bif rc then K.rec_ else K.let_, nm.1, G.curried (G.every 110 nm.2).1 x.1, x.2)) = none) ∨
      ∃ t r, ((G.kind 110 ts).bind fun nm => bif rc && (G.every 110 nm.2).1.isEmpty then none else (G.want K.eq_ (G.every 110 nm.2).2).bind fun ts => (G.binding.expr n ts).bind fun x => some (bif rc then K.rec_ else K.let_, nm.1, G.curried (G.every 110 nm.2).1 x.1, x.2)) = some (q.1, q.2.1, t, r) ∧ At T e q.2.2.2 r ∧ Ext s0.nodes q.2.2.2.nodes ∧ Rep q.2.2.2.nodes q.2.2.1 t := by
    intro rc s ts hA hnd h
    simp only [Option.bind_eq_some_iff] at h
    obtain ⟨x, hx, f, hf, h⟩ := h
    obtain rfl := Option.some.inj h
    rcases hA.kind 110 (by decide) with ⟨r1, hk, hA1⟩ | ⟨hk, hb⟩
    · rw [hk, Option.bind_some]
      have hkn : (kindS T e 110 s).nodes = s.nodes := by unfold kindS; cases isKind T e 110 s <;> rfl
      have hev := every_law (T := T) (e := e) 110 (by decide) _ (kindS T e 110 s) r1 rfl hA1
      simp only
      rw [← hev.1]
      cases hc : (rc && (everyP T e 110 (kindS T e 110 s)).1.isEmpty)
      · rw [hc, cond_false] at hx
        rw [cond_false]
        rcases hev.2.1.want K.eq_ with ⟨r2, hw, hA2⟩ | ⟨hw, hb⟩
        · rw [hw, Option.bind_some]
          rcases hE _ _ _ hA2 hx with ⟨hb, hg⟩ | ⟨t, r, hg, hAt, hEx, hR⟩
          · rw [hg]
            exact Or.inl ⟨(show f.2.bad = true by rw [curried_bad _ _ _ _ hf]; exact hb), rfl⟩
          · rw [hg, Option.bind_some]
            have hcl := curried_law _ _ _ _ _ _ hAt hf hR
            rw [want_nodes, hev.2.2, hkn, hnd] at hEx
            exact Or.inr ⟨_, _, rfl, hcl.1, hEx.trans hcl.2.1, hcl.2.2⟩
        · rw [hw]
          exact Or.inl ⟨(show f.2.bad = true by rw [curried_bad _ _ _ _ hf]; exact expr_bad hx hb), rfl⟩
      · rw [hc, cond_true] at hx
        rw [cond_true]
        exact Or.inl ⟨(show f.2.bad = true by rw [curried_bad _ _ _ _ hf]; exact expr_bad hx (bad_want rfl _)), rfl⟩
    · rw [hk]
      refine Or.inl ⟨(show f.2.bad = true from ?_), rfl⟩
      rw [curried_bad _ _ _ _ hf]
      refine expr_bad hx (bad_want ?_ _)
      rw [bad_every hb 110 (by decide)]
      cases rc <;> first | exact hb | rfl
  cases k1 : G.isW K.rec_ ts0
  · rw [k1] at h
    exact main false s0 ts0 hA0 rfl h
  · rw [k1] at h
    exact main true (adv s0) ts0.tail (hA0.advW k1) rfl h

theorem lawS_step {n : Nat} (hL : LawL T e n) : LawS T e (n + 1) := by
  intro s ts a ta q hA hR h
  rw [bindingP.setP, hA.isSign] at h
  rw [G.binding.set]
  cases k1 : G.isW K.set_ ts
  · rw [k1, cond_false] at h
    obtain rfl := Option.some.inj h
    exact Or.inr ⟨_, _, rfl, hA, Ext.refl _, hR⟩
  · rw [k1, cond_true, Option.bind_eq_some_iff] at h
    rw [cond_true]
    obtain ⟨b, hb, h⟩ := h
    rcases hL _ _ _ _ (hA.advW k1) hb with ⟨hbb, hg⟩ | ⟨t, r, hg, hAt, hE, hRb⟩
    · rw [hg]; exact Or.inl ⟨by rw [(node_bad h).1]; exact hbb, rfl⟩
    · rw [hg]
      have hE' : Ext s.nodes b.2.nodes := hE
      have hn := rep_node h (.cons (hR.ext hE') (.cons hRb .nil))
      exact Or.inr ⟨_, _, rfl, hAt.node h, hE'.trans hn.2, hn.1⟩

theorem lawE_step {n : Nat} (hB : LawB T e n) (hE : LawE T e n) (hS : LawS T e n) (hL : LawL T e n) : LawE T e (n + 1) := by
  intro s ts q hA h
  rw [bindingP.exprP, hA.bad, cond_false, hA.isSign, hA.isSign, hA.isSign] at h
  rw [G.binding.expr]
  cases k1 : G.isW K.let_ ts
  · rw [k1, cond_false] at h
    rw [cond_false]
    cases k2 : G.isW K.fun_ ts
    · rw [k2, cond_false] at h
      rw [cond_false]
      cases k3 : G.isW K.if_ ts
      · rw [k3, cond_false, Option.bind_eq_some_iff] at h
        rw [cond_false]
        obtain ⟨a, ha, h⟩ := h
        rw [Option.bind_eq_some_iff] at h
        obtain ⟨b, hb, h⟩ := h
        rcases hL _ _ _ _ hA ha with ⟨hbb, hg⟩ | ⟨t, r, hg, hAt, hEx, hR⟩
        · rw [hg]
          have h1 := set_bad hb hbb
          rw [bad_sign h1, cond_false] at h
          obtain rfl := Option.some.inj h
          exact Or.inl ⟨h1, rfl⟩
        · rw [hg, Option.bind_some]
          rcases hS _ _ _ _ _ hAt hR hb with ⟨hbb, hg2⟩ | ⟨t2, r2, hg2, hA2, hE2, hR2⟩
          · rw [hg2]
            rw [bad_sign hbb, cond_false] at h
            obtain rfl := Option.some.inj h
            exact Or.inl ⟨hbb, rfl⟩
          · rw [hg2, Option.bind_some]
            rw [hA2.isSign] at h
            cases k4 : G.isW K.semi_ r2
            · rw [k4, cond_false] at h
              obtain rfl := Option.some.inj h
              exact Or.inr ⟨_, _, rfl, hA2, hEx.trans hE2, hR2⟩
            · rw [k4, cond_true, Option.bind_eq_some_iff] at h
              simp only [cond_true]
              obtain ⟨c, hc, h⟩ := h
              rcases hE _ _ _ (hA2.advW k4) hc with ⟨hbb, hg3⟩ | ⟨t3, r3, hg3, hA3, hE3, hR3⟩
              · rw [hg3]; exact Or.inl ⟨by rw [(node_bad h).1]; exact hbb, rfl⟩
              · rw [hg3]
                have hE3' : Ext b.2.nodes c.2.nodes := hE3
                have hn := rep_node h (.cons (hR2.ext hE3') (.cons hR3 .nil))
                exact Or.inr ⟨_, _, rfl, hA3.node h, ((hEx.trans hE2).trans hE3').trans hn.2, hn.1⟩
      · rw [k3, cond_true] at h
        rw [cond_true]
        simp only [Option.bind_eq_some_iff] at h
        obtain ⟨a, ha, b, hb, c, hc, h⟩ := h
        have hnb := node_bad h
        rcases hE _ _ _ (hA.advW k3) ha with ⟨hbb, hg⟩ | ⟨t, r, hg, hAt, hEx, hR⟩
        · rw [hg]
          exact Or.inl ⟨by rw [hnb.1]; exact expr_bad hc (bad_want (expr_bad hb (bad_want hbb _)) _), rfl⟩
        · rw [hg, Option.bind_some]
          rcases hAt.want K.then_ with ⟨r1, hw, hA1⟩ | ⟨hw, hbb⟩
          · rw [hw, Option.bind_some]
            rcases hE _ _ _ hA1 hb with ⟨hbb, hg2⟩ | ⟨t2, r2, hg2, hA2, hE2, hR2⟩
            · rw [hg2]; exact Or.inl ⟨by rw [hnb.1]; exact expr_bad hc (bad_want hbb _), rfl⟩
            · rw [hg2, Option.bind_some]
              rw [want_nodes] at hE2
              rcases hA2.want K.else_ with ⟨r3, hw3, hA3⟩ | ⟨hw3, hbb⟩
              · rw [hw3, Option.bind_some]
                rcases hE _ _ _ hA3 hc with ⟨hbb, hg4⟩ | ⟨t4, r4, hg4, hA4, hE4, hR4⟩
                · rw [hg4]; exact Or.inl ⟨by rw [hnb.1]; exact hbb, rfl⟩
                · rw [hg4]
                  rw [want_nodes] at hE4
                  have hn := rep_node h (.cons (hR.ext (hE2.trans hE4)) (.cons (hR2.ext hE4) (.cons hR4 .nil)))
                  have hEx' : Ext s.nodes a.2.nodes := hEx
                  exact Or.inr ⟨_, _, rfl, hA4.node h, ((hEx'.trans hE2).trans hE4).trans hn.2, hn.1⟩
              · rw [hw3]; exact Or.inl ⟨by rw [hnb.1]; exact expr_bad hc hbb, rfl⟩
          · rw [hw]; exact Or.inl ⟨by rw [hnb.1]; exact expr_bad hc (bad_want (expr_bad hb hbb) _), rfl⟩
    · rw [k2, cond_true] at h
      rw [cond_true]
      simp only [Option.bind_eq_some_iff] at h
      obtain ⟨x, hx, h⟩ := h
      have hcb := curried_bad _ _ _ _ h
      rcases (hA.advW k2).kind 110 (by decide) with ⟨r1, hk, hA1⟩ | ⟨hk, hb⟩
      · rw [hk, Option.bind_some]
        have hkn : (kindS T e 110 (adv s)).nodes = s.nodes := by unfold kindS; cases isKind T e 110 (adv s) <;> rfl
        have hev := every_law (T := T) (e := e) 110 (by decide) _ (kindS T e 110 (adv s)) r1 rfl hA1
        simp only
        rw [← hev.1]
        rcases hev.2.1.want K.arrow_ with ⟨r2, hw, hA2⟩ | ⟨hw, hb⟩
        · rw [hw, Option.bind_some]
          rcases hE _ _ _ hA2 hx with ⟨hb, hg⟩ | ⟨t, r, hg, hAt, hEx, hR⟩
          · rw [hg]; exact Or.inl ⟨by rw [hcb]; exact hb, rfl⟩
          · rw [hg]
            have hcl := curried_law _ _ _ _ _ _ hAt h hR
            rw [want_nodes, hev.2.2, hkn] at hEx
            exact Or.inr ⟨_, _, rfl, hcl.1, hEx.trans hcl.2.1, hcl.2.2⟩
        · rw [hw]; exact Or.inl ⟨by rw [hcb]; exact expr_bad hx hb, rfl⟩
      · rw [hk]
        refine Or.inl ⟨?_, rfl⟩
        rw [hcb]
        refine expr_bad hx (bad_want ?_ _)
        rw [bad_every hb 110 (by decide)]; exact hb
  · rw [k1, cond_true] at h
    rw [cond_true]
    simp only [Option.bind_eq_some_iff] at h
    obtain ⟨b, hb, x, hx, h⟩ := h
    have hnb := node_bad h
    rcases hB _ _ _ (hA.advW k1) hb with ⟨hbb, hg⟩ | ⟨t, r, hg, hAt, hEx, hR⟩
    · rw [hg]; exact Or.inl ⟨by rw [hnb.1]; exact expr_bad hx (bad_want hbb _), rfl⟩
    · rw [hg, Option.bind_some]
      rcases hAt.want K.in_ with ⟨r1, hw, hA1⟩ | ⟨hw, hbb⟩
      · rw [hw, Option.bind_some]
        rcases hE _ _ _ hA1 hx with ⟨hbb, hg2⟩ | ⟨t2, r2, hg2, hA2, hE2, hR2⟩
        · rw [hg2]; exact Or.inl ⟨by rw [hnb.1]; exact hbb, rfl⟩
        · rw [hg2]
          rw [want_nodes] at hE2
          have hn := rep_node h (.cons (hR.ext hE2) (.cons hR2 .nil))
          have hEx' : Ext s.nodes b.2.2.2.nodes := hEx
          exact Or.inr ⟨_, _, rfl, hA2.node h, (hEx'.trans hE2).trans hn.2, hn.1⟩
      · rw [hw]; exact Or.inl ⟨by rw [hnb.1]; exact expr_bad hx hbb, rfl⟩

end
end Go.Proofs.YtnocnkblhjifjaaGreatDoor
