import Derived.Test.YtnocnkblhjifjaaGreatDoorMGram5
/-
  Plain mathematics: the document's reader of levels, apps, atoms and matches is the grammar's; all of it together.
-/
namespace Go.Proofs.YtnocnkblhjifjaaGreatDoor
open Go.RowKit

section
variable {T : Toks} {e : Nat}

theorem lawL_step {n : Nat} (hAp : LawAp T e n) (hL : LawL T e n) (hLs : LawLs T e n) : LawL T e (n + 1) := by
  intro k s ts q hA h
  rw [bindingP.levelP] at h
  rw [G.binding.level]
  split at h
  · rename_i hk
    rw [if_pos hk]
    exact hAp _ _ _ hA h
  · rename_i hk
    rw [if_neg hk]
    rw [Option.bind_eq_some_iff] at h
    obtain ⟨a, ha, h⟩ := h
    rcases hL _ _ _ _ hA ha with ⟨hb, hg⟩ | ⟨t, r, hg, hAt, hE, hR⟩
    · rw [hg]; exact Or.inl ⟨levels_bad h hb, rfl⟩
    · rw [hg, Option.bind_some]
      rcases hLs _ _ _ _ _ _ hAt hR h with ⟨hb, hg2⟩ | ⟨t2, r2, hg2, hA2, hE2, hR2⟩
      · exact Or.inl ⟨hb, hg2⟩
      · exact Or.inr ⟨t2, r2, hg2, hA2, hE.trans hE2, hR2⟩

theorem lawLs_step {n : Nat} (hL : LawL T e n) (hLs : LawLs T e n) : LawLs T e (n + 1) := by
  intro k s ts a ta q hA hR h
  rw [bindingP.levelsP, hA.isKind, hA.see] at h
  rw [G.binding.levels]
  cases hc : (G.kindOf ts == 119 && (ts.headD []).length == 1 && (signsAt k).contains ((ts.headD []).getD 0 0))
  · rw [hc, cond_false] at h
    obtain rfl := Option.some.inj h
    exact Or.inr ⟨_, _, rfl, hA, Ext.refl _, hR⟩
  · rw [hc, cond_true] at h
    rw [cond_true]
    have hk : (G.kindOf ts == 119) = true := by
      simp only [Bool.and_eq_true] at hc
      exact hc.1.1
    simp only [Option.bind_eq_some_iff] at h
    obtain ⟨b, hb, c, hcn, h⟩ := h
    rcases hL _ _ _ _ (hA.advK (by decide) hk) hb with ⟨hbb, hg⟩ | ⟨t, r, hg, hAt, hE, hRb⟩
    · rw [hg]
      have hcb : c.2.bad = true := by rw [(node_bad hcn).1]; exact hbb
      refine Or.inl ⟨?_, rfl⟩
      split at h
      · rw [← Option.some.inj h]; exact hcb
      · exact levels_bad h hcb
    · rw [hg, Option.bind_some]
      have hE' : Ext s.nodes b.2.nodes := hE
      have hn := rep_node hcn (.cons (hR.ext hE') (.cons hRb .nil))
      split at h
      · rename_i h0
        rw [if_pos h0]
        obtain rfl := Option.some.inj h
        exact Or.inr ⟨_, _, rfl, hAt.node hcn, hE'.trans hn.2, hn.1⟩
      · rename_i h0
        rw [if_neg h0]
        rcases hLs _ _ _ _ _ _ (hAt.node hcn) hn.1 h with ⟨hbb, hg2⟩ | ⟨t2, r2, hg2, hA2, hE2, hR2⟩
        · exact Or.inl ⟨hbb, hg2⟩
        · exact Or.inr ⟨t2, r2, hg2, hA2, (hE'.trans hn.2).trans hE2, hR2⟩

theorem lawAp_step {n : Nat} (hAs : LawAs T e n) : LawAp T e (n + 1) := by
  intro s ts q hA h
  rw [bindingP.appP, hA.isKind, hA.see] at h
  rw [G.binding.app]
  cases k1 : (G.kindOf ts == 99)
  · rw [k1, cond_false, Option.bind_eq_some_iff] at h
    rw [cond_false]
    obtain ⟨l, hl, h⟩ := h
    rcases hAs _ _ _ hA hl with ⟨hb, hg⟩ | ⟨trs, r, hg, hAt, hE, hR⟩
    · rw [hg]
      refine Or.inl ⟨?_, rfl⟩
      obtain ⟨ll, l2⟩ := l
      cases ll with
      | nil => rw [← Option.some.inj h]; rfl
      | cons f rr => rw [apps_bad _ _ _ _ h]; exact hb
    · rw [hg, Option.bind_some]
      obtain ⟨ll, l2⟩ := l
      cases ll with
      | nil =>
        obtain rfl := hR.unnil
        refine Or.inl ⟨?_, rfl⟩
        rw [← Option.some.inj h]; rfl
      | cons f0 rr =>
        obtain ⟨t0, trs, rfl, hf, hr⟩ := hR.uncons
        have ha := apps_law _ _ _ _ _ _ _ hAt h hr hf
        exact Or.inr ⟨_, _, rfl, ha.1, hE.trans ha.2.1, ha.2.2⟩
  · rw [k1, cond_true, Option.bind_eq_some_iff] at h
    rw [cond_true]
    obtain ⟨l, hl, h⟩ := h
    rcases hAs _ _ _ (hA.advK (by decide) k1) hl with ⟨hb, hg⟩ | ⟨trs, r, hg, hAt, hE, hR⟩
    · rw [hg]; exact Or.inl ⟨by rw [(node_bad h).1]; exact hb, rfl⟩
    · rw [hg]
      have hE' : Ext s.nodes l.2.nodes := hE
      have hn := rep_node h hR
      exact Or.inr ⟨_, _, rfl, hAt.node h, hE'.trans hn.2, hn.1⟩

theorem lawAs_step {n : Nat} (hA1 : LawA T e n) (hAs : LawAs T e n) : LawAs T e (n + 1) := by
  intro s ts q hA h
  rw [bindingP.atomsP, hA.bad, cond_false, Option.bind_eq_some_iff] at h
  rw [G.binding.atoms]
  obtain ⟨a, ha, h⟩ := h
  rcases hA1 _ _ _ hA ha with ⟨hb, hg⟩ | ⟨r, hg, hok, hAt, hE⟩ | ⟨t, r, hg, hok, hAt, hE, hR⟩
  · rw [hg]
    refine Or.inl ⟨?_, rfl⟩
    cases hok : a.2.1
    · rw [hok, cond_false] at h
      rw [← Option.some.inj h]; exact hb
    · rw [hok, cond_true, Option.bind_eq_some_iff] at h
      obtain ⟨l, hl, h⟩ := h
      rw [← Option.some.inj h]
      show l.2.bad = true
      rw [atoms_bad hl hb]; exact hb
  · rw [hok, cond_false] at h
    obtain rfl := Option.some.inj h
    rw [hg]
    exact Or.inr ⟨[], r, rfl, hAt, hE, .nil⟩
  · rw [hok, cond_true, Option.bind_eq_some_iff] at h
    obtain ⟨l, hl, h⟩ := h
    obtain rfl := Option.some.inj h
    rw [hg]
    simp only [Option.bind_some]
    rcases hAs _ _ _ hAt hl with ⟨hb, hg2⟩ | ⟨ts2, r3, hg2, hA3, hE3, hR3⟩
    · rw [hg2]; exact Or.inl ⟨hb, rfl⟩
    · rw [hg2]
      exact Or.inr ⟨_, _, rfl, hA3, hE.trans hE3, .cons (hR.ext hE3) hR3⟩

theorem atom_bad {n : Nat} {s : RS} {q : Nat × Bool × RS} (h : bindingP.atomP T e n s = some q) (hb : s.bad = true) : q = (0, false, s) := by
  cases n with
  | zero => simp [bindingP.atomP] at h
  | succ n =>
    rw [bindingP.atomP, plain_bad hb, Option.bind_some, bad_sign hb, bad_sign hb, bad_sign hb] at h
    exact (Option.some.inj h).symm

theorem lawA_step {n : Nat} (hE1 : LawE T e n) (hA1 : LawA T e n) (hM : LawM T e n) : LawA T e (n + 1) := by
  intro s ts q hA h
  rw [bindingP.atomP, Option.bind_eq_some_iff] at h
  rw [G.binding.atom]
  obtain ⟨p, hp, h⟩ := h
  rcases plain_law hA hp with ⟨hg, rfl⟩ | ⟨t, r, hg, hok, hAt, hE, hR⟩
  · rw [hg]
    rw [cond_false, hA.isSign, hA.isSign, hA.isSign] at h
    simp only
    cases k1 : G.isW K.open_ ts
    · rw [k1, cond_false] at h
      rw [cond_false]
      cases k2 : G.isW K.bang_ ts
      · rw [k2, cond_false] at h
        rw [cond_false]
        cases k3 : G.isW K.match_ ts
        · rw [k3, cond_false] at h
          rw [cond_false]
          obtain rfl := Option.some.inj h
          exact Or.inr (Or.inl ⟨ts, rfl, rfl, hA, Ext.refl _⟩)
        · rw [k3, cond_true, Option.bind_eq_some_iff] at h
          rw [cond_true]
          obtain ⟨a, ha, h⟩ := h
          obtain rfl := Option.some.inj h
          rcases hM _ _ _ (hA.advW k3) ha with ⟨hb, hg2⟩ | ⟨t, r, hg2, hAt, hE, hR⟩
          · rw [hg2]; exact Or.inl ⟨hb, rfl⟩
          · rw [hg2]; exact Or.inr (Or.inr ⟨t, r, rfl, rfl, hAt, hE, hR⟩)
      · rw [k2, cond_true] at h
        rw [cond_true]
        simp only [Option.bind_eq_some_iff] at h
        obtain ⟨a, ha, b, hbn, h⟩ := h
        obtain rfl := Option.some.inj h
        have hnb := node_bad hbn
        rcases hA1 _ _ _ (hA.advW k2) ha with ⟨hb, hg2⟩ | ⟨r, hg2, hok, hAt, hE⟩ | ⟨t, r, hg2, hok, hAt, hE, hR⟩
        · rw [hg2]
          refine Or.inl ⟨(show b.2.bad = true from ?_), rfl⟩
          rw [hnb.1]
          cases a.2.1
          · rfl
          · exact hb
        · rw [hg2]
          refine Or.inl ⟨(show b.2.bad = true from ?_), rfl⟩
          rw [hnb.1, hok]; rfl
        · rw [hg2]
          rw [hok, cond_true] at hbn
          have hE' : Ext s.nodes a.2.2.nodes := hE
          have hn := rep_node hbn (.cons hR .nil)
          exact Or.inr (Or.inr ⟨_, _, rfl, rfl, hAt.node hbn, hE'.trans hn.2, hn.1⟩)
    · rw [k1, cond_true, (hA.advW k1).isSign] at h
      rw [cond_true]
      cases k3 : G.isW K.shut_ ts.tail
      · rw [k3, cond_false, Option.bind_eq_some_iff] at h
        rw [cond_false]
        obtain ⟨a, ha, h⟩ := h
        obtain rfl := Option.some.inj h
        rcases hE1 _ _ _ (hA.advW k1) ha with ⟨hb, hg2⟩ | ⟨t, r, hg2, hAt, hE, hR⟩
        · rw [hg2]; exact Or.inl ⟨bad_want hb _, rfl⟩
        · rw [hg2, Option.bind_some]
          rcases hAt.want K.shut_ with ⟨r2, hw, hA2⟩ | ⟨hw, hb⟩
          · rw [hw]
            exact Or.inr (Or.inr ⟨t, r2, rfl, rfl, hA2, by rw [want_nodes]; exact hE, by rw [want_nodes]; exact hR⟩)
          · rw [hw]; exact Or.inl ⟨hb, rfl⟩
      · rw [k3, cond_true, Option.bind_eq_some_iff] at h
        rw [cond_true]
        obtain ⟨a, ha, h⟩ := h
        obtain rfl := Option.some.inj h
        have hn := rep_node ha .nil
        exact Or.inr (Or.inr ⟨_, _, rfl, rfl, ((hA.advW k1).advW k3).node ha, hn.2, hn.1⟩)
  · rw [hok, cond_true] at h
    obtain rfl := Option.some.inj h
    rw [hg]
    exact Or.inr (Or.inr ⟨t, r, rfl, hok, hAt, hE, hR⟩)

theorem reps_len {ns : List NodeP} : ∀ {l : List Nat} {ts : List Tr}, Rep.Reps ns l ts → l.length = ts.length := by
  intro l
  induction l with
  | nil => intro ts h; rw [h.unnil]; rfl
  | cons a r ih => intro ts h; obtain ⟨t, ts, rfl, h, hr⟩ := h.uncons; simp [ih hr]

theorem lawR_step {n : Nat} (hE : LawE T e n) (hR1 : LawR T e n) : LawR T e (n + 1) := by
  intro s ts q hA h
  rw [bindingP.rowsP, hA.bad, cond_false] at h
  rw [G.binding.rows]
  simp only [Option.bind_eq_some_iff] at h
  obtain ⟨p, hp, a, ha, c, hc, h⟩ := h
  have hcb := node_bad hc
  have fin : c.2.bad = true → q.2.bad = true := by
    intro hb
    rw [bad_sign hb, cond_false, Option.bind_eq_some_iff] at h
    obtain ⟨l, hl, h⟩ := h
    rw [← Option.some.inj h]
    exact (show l.2.bad = true from rows_bad hl hb)
  rcases hA.want K.bar_ with ⟨r1, hw, hA1⟩ | ⟨hw, hbb⟩
  · rw [hw, Option.bind_some]
    rcases (patterns_law (T := T) (e := e) n).1 _ _ _ hA1 hp with ⟨hb, hg⟩ | ⟨t, r, hg, hAt, hEx, hR⟩
    · rw [hg]
      exact Or.inl ⟨fin (by rw [hcb.1]; exact expr_bad ha (bad_want hb _)), rfl⟩
    · rw [hg, Option.bind_some]
      rw [want_nodes] at hEx
      rcases hAt.want K.arrow_ with ⟨r2, hw2, hA2⟩ | ⟨hw2, hbb⟩
      · rw [hw2, Option.bind_some]
        rcases hE _ _ _ hA2 ha with ⟨hb, hg3⟩ | ⟨t3, r3, hg3, hA3, hE3, hR3⟩
        · rw [hg3]; exact Or.inl ⟨fin (by rw [hcb.1]; exact hb), rfl⟩
        · rw [hg3, Option.bind_some]
          rw [want_nodes] at hE3
          have hn := rep_node hc (.cons (hR.ext hE3) (.cons hR3 .nil))
          have hA4 := hA3.node hc
          rw [hA4.isSign] at h
          cases k : G.isW K.end_ r3
          · rw [k, cond_false, Option.bind_eq_some_iff] at h
            obtain ⟨l, hl, h⟩ := h
            obtain rfl := Option.some.inj h
            simp only [cond_false]
            rcases hR1 _ _ _ hA4 hl with ⟨hb, hg5⟩ | ⟨t5, r5, hg5, hA5, hE5, hR5⟩
            · rw [hg5]; exact Or.inl ⟨hb, rfl⟩
            · rw [hg5]
              exact Or.inr ⟨_, _, rfl, hA5, ((hEx.trans hE3).trans hn.2).trans hE5, .cons (hn.1.ext hE5) hR5⟩
          · rw [k, cond_true] at h
            obtain rfl := Option.some.inj h
            exact Or.inr ⟨_, _, rfl, hA4.advW k, (hEx.trans hE3).trans hn.2, .cons hn.1 .nil⟩
      · rw [hw2]; exact Or.inl ⟨fin (by rw [hcb.1]; exact expr_bad ha hbb), rfl⟩
  · rw [hw]
    exact Or.inl ⟨fin (by rw [hcb.1]; exact expr_bad ha (bad_want (pattern_bad hp hbb) _)), rfl⟩

theorem lawM_step {n : Nat} (hE : LawE T e n) (hR1 : LawR T e n) : LawM T e (n + 1) := by
  intro s ts q hA h
  rw [bindingP.matchP] at h
  rw [G.binding.matches_]
  simp only [Option.bind_eq_some_iff] at h
  obtain ⟨x, hx, l, hl, h⟩ := h
  rcases hE { s with mts := s.mts + 1 } ts x ⟨hA.bad, hA.pos, hA.top, hA.toks⟩ hx with ⟨hb, hg⟩ | ⟨t, r, hg, hAt, hEx, hR⟩
  · rw [hg]; exact Or.inl ⟨matchEnd_bad h (Or.inl (rows_bad hl (bad_want hb _))), rfl⟩
  · rw [hg, Option.bind_some]
    rcases hAt.want K.with_ with ⟨r1, hw, hA1⟩ | ⟨hw, hbb⟩
    · rw [hw, Option.bind_some]
      rcases hR1 _ _ _ hA1 hl with ⟨hb, hg2⟩ | ⟨trs, r2, hg2, hA2, hE2, hR2⟩
      · rw [hg2]; exact Or.inl ⟨matchEnd_bad h (Or.inl hb), rfl⟩
      · rw [hg2, Option.bind_some]
        rw [want_nodes] at hE2
        have hlen := reps_len hR2
        by_cases h12 : 12 < trs.length
        · rw [if_pos h12]
          exact Or.inl ⟨matchEnd_bad h (Or.inr (by simp; omega)), rfl⟩
        · rw [if_neg h12]
          rw [matchEnd, Option.bind_eq_some_iff] at h
          obtain ⟨a, ha, h⟩ := h
          rw [if_neg (by simp; omega)] at ha
          obtain rfl := Option.some.inj h
          have hn := rep_node ha (.cons (hR.ext hE2) hR2)
          have hA3 := hA2.node ha
          have hEx' : Ext s.nodes x.2.nodes := hEx
          have hnum := Ext.number a.2.nodes a.1 s.mts
          exact Or.inr ⟨_, _, rfl, ⟨hA3.bad, hA3.pos, hA3.top, hA3.toks⟩, ((hEx'.trans hE2).trans hn.2).trans hnum, hn.1.ext hnum⟩
    · rw [hw]; exact Or.inl ⟨matchEnd_bad h (Or.inl (rows_bad hl hbb)), rfl⟩

theorem exprs_law (T : Toks) (e : Nat) : ∀ n, LawB T e n ∧ LawE T e n ∧ LawS T e n ∧ LawL T e n ∧ LawLs T e n ∧ LawAp T e n ∧ LawAs T e n ∧ LawA T e n ∧ LawM T e n ∧ LawR T e n := by
  intro n
  induction n with
  | zero =>
    exact ⟨fun s ts q _ h => by simp [bindingP] at h, fun s ts q _ h => by simp [bindingP.exprP] at h, fun s ts a ta q _ _ h => by simp [bindingP.setP] at h, fun k s ts q _ h => by simp [bindingP.levelP] at h, fun k s ts a ta q _ _ h => by simp [bindingP.levelsP] at h, fun s ts q _ h => by simp [bindingP.appP] at h, fun s ts q _ h => by simp [bindingP.atomsP] at h, fun s ts q _ h => by simp [bindingP.atomP] at h, fun s ts q _ h => by simp [bindingP.matchP] at h, fun s ts q _ h => by simp [bindingP.rowsP] at h⟩
  | succ n ih =>
    obtain ⟨b, ex, st, l, ls, ap, as_, a, m, r⟩ := ih
    exact ⟨lawB_step ex, lawE_step b ex st l, lawS_step l, lawL_step ap l ls, lawLs_step l ls, lawAp_step as_, lawAs_step a as_, lawA_step ex a m, lawM_step ex r, lawR_step ex r⟩

end
end Go.Proofs.YtnocnkblhjifjaaGreatDoor
/-
  Plain mathematics: the document's reader of declarations is the grammar's.
-/
namespace Go.Proofs.YtnocnkblhjifjaaGreatDoor
open Go.RowKit

section
variable {T : Toks} {e : Nat}

theorem letters_law : ∀ (l : Toks) (s : RS) (ts : Toks) (z : List Nat × RS), At T e s ts → lettersP l s = some z → At T e z.2 ts ∧ Ext s.nodes z.2.nodes ∧ Rep.Reps z.2.nodes z.1 (G.letters l) := by
  intro l
  induction l with
  | nil =>
    intro s ts z hA h
    obtain rfl := Option.some.inj h
    exact ⟨hA, Ext.refl _, .nil⟩
  | cons a r ih =>
    intro s ts z hA h
    simp only [lettersP, Option.bind_eq_some_iff] at h
    obtain ⟨q, hq, l, hl, h⟩ := h
    obtain rfl := Option.some.inj h
    have hn := rep_node hq .nil
    have hi := ih q.2 ts l (hA.node hq) hl
    exact ⟨hi.1, hn.2.trans hi.2.1, .cons (hn.1.ext hi.2.1) hi.2.2⟩

theorem letters_bad : ∀ (l : Toks) (s : RS) (z : List Nat × RS), lettersP l s = some z → z.2.bad = s.bad := by
  intro l
  induction l with
  | nil => intro s z h; rw [← Option.some.inj h]
  | cons a r ih =>
    intro s z h
    simp only [lettersP, Option.bind_eq_some_iff] at h
    obtain ⟨q, hq, l, hl, h⟩ := h
    rw [← Option.some.inj h]
    show l.2.bad = s.bad
    rw [ih _ _ hl, (node_bad hq).1]

theorem variants_bad {n : Nat} {s : RS} {q : List Nat × RS} (h : variantsP T e n s = some q) (hb : s.bad = true) : q.2.bad = true := by
  cases n with
  | zero => simp [variantsP] at h
  | succ n =>
    rw [variantsP, hb, cond_true] at h
    rw [← Option.some.inj h]; exact hb

theorem kindS_nodes (k : Int) (s : RS) : (kindS T e k s).nodes = s.nodes := by unfold kindS; cases isKind T e k s <;> rfl

theorem variants_law : ∀ (n : Nat) (s : RS) (ts : Toks) (q : List Nat × RS), At T e s ts → variantsP T e n s = some q → GoodL T e s q (G.variants n ts) := by
  intro n
  induction n with
  | zero => intro s ts q _ h; simp [variantsP] at h
  | succ n ih =>
    intro s ts q hA h
    rw [variantsP, hA.bad, cond_false] at h
    rw [G.variants]
    simp only [Option.bind_eq_some_iff] at h
    obtain ⟨l, hl, c, hc, h⟩ := h
    have hcb := node_bad hc
    have fin : c.2.bad = true → q.2.bad = true := by
      intro hb
      rw [bad_sign hb, cond_false] at h
      rw [← Option.some.inj h]; exact hb
    rcases hA.kind 99 (by decide) with ⟨r1, hk, hA1⟩ | ⟨hk, hb⟩
    · rw [hk, Option.bind_some]
      rcases (types_law (T := T) (e := e) n).1 _ _ _ hA1 hl with ⟨hb, hg⟩ | ⟨trs, r, hg, hAt, hEx, hR⟩
      · rw [hg]; exact Or.inl ⟨fin (by rw [hcb.1]; exact hb), rfl⟩
      · rw [hg, Option.bind_some]
        rw [kindS_nodes] at hEx
        have hn := rep_node hc hR
        have hA2 := hAt.node hc
        rw [hA2.isSign] at h
        cases k : G.isW K.bar_ r
        · rw [k, cond_false] at h
          obtain rfl := Option.some.inj h
          exact Or.inr ⟨_, _, rfl, hA2, hEx.trans hn.2, .cons hn.1 .nil⟩
        · rw [k, cond_true, Option.bind_eq_some_iff] at h
          obtain ⟨v, hv, h⟩ := h
          obtain rfl := Option.some.inj h
          simp only [cond_true]
          rcases ih _ _ _ (hA2.advW k) hv with ⟨hb, hg5⟩ | ⟨t5, r5, hg5, hA5, hE5, hR5⟩
          · rw [hg5]; exact Or.inl ⟨hb, rfl⟩
          · rw [hg5]
            have hE5' : Ext c.2.nodes v.2.nodes := hE5
            exact Or.inr ⟨_, _, rfl, hA5, (hEx.trans hn.2).trans hE5', .cons (hn.1.ext hE5') hR5⟩
    · rw [hk]
      exact Or.inl ⟨fin (by rw [hcb.1]; exact atypes_bad hl hb), rfl⟩

theorem reps_append {ns : List NodeP} : ∀ {l : List Nat} {ts : List Tr} {l2 : List Nat} {ts2 : List Tr}, Rep.Reps ns l ts → Rep.Reps ns l2 ts2 → Rep.Reps ns (l ++ l2) (ts ++ ts2) := by
  intro l
  induction l with
  | nil => intro ts l2 ts2 h h2; rw [h.unnil]; exact h2
  | cons a r ih => intro ts l2 ts2 h h2; obtain ⟨t, ts, rfl, h, hr⟩ := h.uncons; exact .cons h (ih hr h2)

/-- One declaration: bad or something left over where the grammar has none; else it stands for the grammar's tree. -/
theorem decl_law {n : Nat} {s : RS} {ts : Toks} {q : Nat × RS} (hA : At T e s ts) (h : declP T e n s = some q) :
    (G.decl n ts = none ∧ (q.2.bad = true ∨ q.2.pos ≠ e)) ∨ ∃ t, G.decl n ts = some t ∧ q.2.bad = false ∧ q.2.pos = e ∧ Ext s.nodes q.2.nodes ∧ Rep q.2.nodes q.1 t := by
  have hEL := exprs_law T e n
  have key : ∀ g : Option (Tr × Toks), GoodN T e s q g →
      ((g.bind fun q => bif q.2.isEmpty then some q.1 else none) = none ∧ (q.2.bad = true ∨ q.2.pos ≠ e)) ∨ ∃ t, (g.bind fun q => bif q.2.isEmpty then some q.1 else none) = some t ∧ q.2.bad = false ∧ q.2.pos = e ∧ Ext s.nodes q.2.nodes ∧ Rep q.2.nodes q.1 t := by
    intro g hg
    rcases hg with ⟨hb, rfl⟩ | ⟨t, r, rfl, hAt, hE, hR⟩
    · exact Or.inl ⟨rfl, Or.inl hb⟩
    · rw [Option.bind_some]
      by_cases hp : q.2.pos = e
      · have hr : r = [] := by rw [hAt.toks, List.drop_of_length_le (by simp; omega)]
        subst hr
        exact Or.inr ⟨t, rfl, hAt.bad, hp, hE, hR⟩
      · have hl : q.2.pos < (T.take e).length := by have := hAt.top; have := hAt.pos; simp; omega
        have hr : r.isEmpty = false := by rw [hAt.toks, List.drop_eq_getElem_cons hl]; rfl
        refine Or.inl ⟨?_, Or.inr hp⟩
        simp only [hr, cond_false]
  unfold G.decl
  apply key
  rw [declP, hA.isSign, hA.isSign] at h
  cases k1 : G.isW K.type_ ts
  · rw [k1, cond_false] at h
    rw [cond_false]
    cases k2 : G.isW K.do_ ts
    · rw [k2, cond_false, Option.bind_eq_some_iff] at h
      rw [cond_false]
      obtain ⟨b, hb, h⟩ := h
      rcases hA.want K.let_ with ⟨r1, hw, hA1⟩ | ⟨hw, hbb⟩
      · rw [hw, Option.bind_some]
        rcases hEL.1 _ _ _ hA1 hb with ⟨hbb, hg⟩ | ⟨t, r, hg, hAt, hE, hR⟩
        · rw [hg]; exact Or.inl ⟨by rw [(node_bad h).1]; exact hbb, rfl⟩
        · rw [hg]
          rw [want_nodes] at hE
          have hn := rep_node h (.cons hR .nil)
          exact Or.inr ⟨_, _, rfl, hAt.node h, hE.trans hn.2, hn.1⟩
      · rw [hw]; exact Or.inl ⟨by rw [(node_bad h).1]; exact binding_bad hb hbb, rfl⟩
    · rw [k2, cond_true, Option.bind_eq_some_iff] at h
      rw [cond_true]
      obtain ⟨x, hx, h⟩ := h
      rcases hEL.2.1 _ _ _ (hA.advW k2) hx with ⟨hbb, hg⟩ | ⟨t, r, hg, hAt, hE, hR⟩
      · rw [hg]; exact Or.inl ⟨by rw [(node_bad h).1]; exact hbb, rfl⟩
      · rw [hg]
        have hE' : Ext s.nodes x.2.nodes := hE
        have hn := rep_node h (.cons hR .nil)
        exact Or.inr ⟨_, _, rfl, hAt.node h, hE'.trans hn.2, hn.1⟩
  · rw [k1, cond_true] at h
    rw [cond_true]
    simp only [Option.bind_eq_some_iff] at h
    obtain ⟨l, hl, v, hv, h⟩ := h
    have hnb := node_bad h
    rcases (hA.advW k1).kind 110 (by decide) with ⟨r1, hk, hA1⟩ | ⟨hk, hb⟩
    · rw [hk, Option.bind_some]
      have hev := every_law (T := T) (e := e) 108 (by decide) _ (kindS T e 110 (adv s)) r1 rfl hA1
      simp only
      rw [← hev.1]
      have hll := letters_law _ _ _ _ hev.2.1 hl
      rcases hll.1.want K.eq_ with ⟨r2, hw, hA2⟩ | ⟨hw, hbb⟩
      · rw [hw, Option.bind_some]
        rcases variants_law _ _ _ _ hA2 hv with ⟨hbb, hg⟩ | ⟨trs, r, hg, hAt, hE, hR⟩
        · rw [hg]; exact Or.inl ⟨by rw [hnb.1]; exact hbb, rfl⟩
        · rw [hg]
          rw [want_nodes] at hE
          have hE0 := hll.2.1
          rw [hev.2.2, kindS_nodes] at hE0
          have hE0' : Ext s.nodes l.2.nodes := hE0
          have hn := rep_node h (reps_append (hll.2.2.ext hE) hR)
          exact Or.inr ⟨_, _, rfl, hAt.node h, (hE0'.trans hE).trans hn.2, hn.1⟩
      · rw [hw]; exact Or.inl ⟨by rw [hnb.1]; exact variants_bad hv hbb, rfl⟩
    · rw [hk]
      refine Or.inl ⟨?_, rfl⟩
      rw [hnb.1]
      refine variants_bad hv (bad_want ?_ _)
      rw [bad_every hb 108 (by decide)] at hl
      rw [letters_bad _ _ _ hl]; exact hb

end
end Go.Proofs.YtnocnkblhjifjaaGreatDoor
