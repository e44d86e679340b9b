import Derived.Test.YtnocnkblhjifjaaGreatDoorMGram10
/-
  Plain mathematics: the document's reader of types comes to an end, and makes few nodes.
-/
namespace Go.Proofs.YtnocnkblhjifjaaGreatDoor
open Go.RowKit

/-- How many tokens are still to come. -/
def rem (e : Nat) (s : RS) : Nat := if s.bad = true then 0 else e - s.pos

/-- What the nodes may come to. -/
def phi (L : Nat) (s : RS) : Nat := s.nodes.length + 3 * (L - s.pos)

section
variable {T : Toks} {e : Nat}

theorem kind_rem {k : Int} {s : RS} (h0 : k ≠ 0) (h : isKind T e k s = true) : rem e (adv s) + 1 = rem e s ∧ s.pos < e ∧ s.bad = false := by
  have hp := see_pos (T := T) (e := e) (s := s) h0 (by simpa [isKind] using h)
  unfold rem
  rw [if_neg (by show ¬ s.bad = true; rw [hp.2]; simp), if_neg (by rw [hp.2]; simp)]
  show e - (s.pos + 1) + 1 = e - s.pos ∧ _
  exact ⟨by omega, hp⟩

theorem sign_rem {x : List UInt8} {s : RS} (h : isSign T e x s = true) : rem e (adv s) + 1 = rem e s ∧ s.pos < e ∧ s.bad = false := by
  have hp := see_pos (T := T) (e := e) (s := s) (by decide) (sign_kind h).1
  unfold rem
  rw [if_neg (by show ¬ s.bad = true; rw [hp.2]; simp), if_neg (by rw [hp.2]; simp)]
  show e - (s.pos + 1) + 1 = e - s.pos ∧ _
  exact ⟨by omega, hp⟩

theorem phi_adv {L : Nat} {s : RS} (h : s.pos < L) : phi L (adv s) + 3 = phi L s := by
  show s.nodes.length + 3 * (L - (s.pos + 1)) + 3 = s.nodes.length + 3 * (L - s.pos)
  omega

theorem want_rem (x : List UInt8) (s : RS) (L : Nat) (hL : e ≤ L) : rem e (want T e x s) ≤ rem e s ∧ phi L (want T e x s) ≤ phi L s ∧ s.pos ≤ (want T e x s).pos := by
  unfold want
  cases h : isSign T e x s
  · exact ⟨by show rem e (spoil s) ≤ _; simp [rem, spoil], Nat.le_refl _, Nat.le_refl _⟩
  · have hr := sign_rem h
    have hp := phi_adv (L := L) (s := s) (by omega)
    exact ⟨by show rem e (adv s) ≤ _; omega, by show phi L (adv s) ≤ _; omega, by show s.pos ≤ s.pos + 1; omega⟩

/-- A node can be made where there is room. -/
theorem node_end {L : Nat} (is name : List UInt8) (parts : List Nat) (s : RS) (h : phi L s < nodeCap) : ∃ q, nodeP is name parts s = some q ∧ rem e q.2 = rem e s ∧ phi L q.2 = phi L s + 1 ∧ q.2.pos = s.pos := by
  have hl : s.nodes.length < nodeCap := by unfold phi at h; omega
  refine ⟨_, by unfold nodeP; rw [if_pos hl], rfl, ?_, rfl⟩
  show (s.nodes ++ [_]).length + 3 * (L - s.pos) = _
  unfold phi
  simp; omega

/-- It comes to an end, no farther from the end of the tokens, with no more than it may have. -/
def EndN (e L : Nat) (s : RS) (o : Option (Nat × RS)) : Prop := ∃ q, o = some q ∧ rem e q.2 ≤ rem e s ∧ phi L q.2 ≤ phi L s
def EndL (e L : Nat) (s : RS) (o : Option (List Nat × RS)) : Prop := ∃ q, o = some q ∧ rem e q.2 ≤ rem e s ∧ phi L q.2 ≤ phi L s

theorem types_end {L : Nat} (hL : e ≤ L) : ∀ m, (∀ s n, rem e s ≤ m → phi L s < nodeCap → 2 * m + 1 ≤ n → EndL e L s (atypesP T e n s)) ∧ (∀ s n, rem e s ≤ m → phi L s < nodeCap → 2 * m + 2 ≤ n → EndN e L s (atypesP.typP T e n s)) := by
  intro m
  induction m with
  | zero =>
    have hk : ∀ (k : Int) (s : RS), k ≠ 0 → rem e s ≤ 0 → isKind T e k s = false := by
      intro k s h0 hr
      cases h : isKind T e k s
      · rfl
      · have := kind_rem h0 h; omega
    have hs : ∀ (x : List UInt8) (s : RS), rem e s ≤ 0 → isSign T e x s = false := by
      intro x s hr
      cases h : isSign T e x s
      · rfl
      · have := sign_rem h; omega
    refine ⟨fun s n hr hp hn => ?_, fun s n hr hp hn => ?_⟩
    · obtain ⟨n, rfl⟩ : ∃ k, n = k + 1 := ⟨n - 1, by omega⟩
      rw [atypesP, hk 108 s (by decide) hr, hk 110 s (by decide) hr, hs _ s hr]
      exact ⟨_, rfl, Nat.le_refl _, Nat.le_refl _⟩
    · obtain ⟨n, rfl⟩ : ∃ k, n = k + 1 := ⟨n - 1, by omega⟩
      rw [atypesP.typP, hk 108 s (by decide) hr, hk 110 s (by decide) hr, hs _ s hr]
      exact ⟨_, rfl, by show rem e (spoil s) ≤ _; simp [rem, spoil], Nat.le_refl _⟩
  | succ m ih =>
    obtain ⟨ihA, ihT⟩ := ih
    have one : ∀ (is name : List UInt8) (s : RS) (n : Nat), rem e (adv s) + 1 = rem e s → s.pos < e → rem e s ≤ m + 1 → phi L s < nodeCap → 2 * m + 1 ≤ n → EndL e L s ((nodeP is name [] (adv s)).bind fun q => (atypesP T e n q.2).bind fun l => some (q.1 :: l.1, l.2)) := by
      intro is name s n h1 h2 hr hp hn
      have ha := phi_adv (L := L) (s := s) (by omega)
      obtain ⟨q, hq, q1, q2, _⟩ := node_end (e := e) (L := L) is name [] (adv s) (by omega)
      obtain ⟨l, hl, l1, l2⟩ := ihA q.2 n (by omega) (by omega) hn
      rw [hq, Option.bind_some, hl]
      exact ⟨_, rfl, by show rem e l.2 ≤ _; omega, by show phi L l.2 ≤ _; omega⟩
    refine ⟨fun s n hr hp hn => ?_, fun s n hr hp hn => ?_⟩
    · obtain ⟨n, rfl⟩ : ∃ k, n = k + 1 := ⟨n - 1, by omega⟩
      rw [atypesP]
      cases k1 : isKind T e 108 s
      · cases k2 : isKind T e 110 s
        · cases k3 : isSign T e K.open_ s
          · exact ⟨_, rfl, Nat.le_refl _, Nat.le_refl _⟩
          · have h1 := sign_rem k3
            have ha := phi_adv (L := L) (s := s) (by omega)
            obtain ⟨q, hq, q1, q2⟩ := ihT (adv s) n (by omega) (by omega) (by omega)
            have hw := want_rem (T := T) (e := e) K.shut_ q.2 L hL
            obtain ⟨l, hl, l1, l2⟩ := ihA (want T e K.shut_ q.2) n (by omega) (by omega) (by omega)
            simp only [cond_false, cond_true]
            rw [hq, Option.bind_some, hl]
            exact ⟨_, rfl, by show rem e l.2 ≤ _; omega, by show phi L l.2 ≤ _; omega⟩
        · have h1 := kind_rem (by decide) k2
          exact one _ _ s n h1.1 h1.2.1 hr hp (by omega)
      · have h1 := kind_rem (by decide) k1
        exact one _ _ s n h1.1 h1.2.1 hr hp (by omega)
    · obtain ⟨n, rfl⟩ : ∃ k, n = k + 2 := ⟨n - 2, by omega⟩
      rw [atypesP.typP]
      cases hc : (!isKind T e 110 s && !isKind T e 108 s && !isSign T e K.open_ s)
      · rw [cond_false]
        have h1 : EndN e L s (atypesP.typ1P T e (n + 1) s) ∧ ∀ q, atypesP.typ1P T e (n + 1) s = some q → rem e q.2 + 1 ≤ rem e s ∧ phi L q.2 + 1 ≤ phi L s := by
          rw [atypesP.typ1P]
          cases k1 : isKind T e 110 s
          · cases k2 : isKind T e 108 s
            · have k3 : isSign T e K.open_ s = true := by
                rw [k1, k2] at hc; simpa using hc
              have h1 := sign_rem k3
              have ha := phi_adv (L := L) (s := s) (by omega)
              obtain ⟨q, hq, q1, q2⟩ := ihT (adv s) n (by omega) (by omega) (by omega)
              have hw := want_rem (T := T) (e := e) K.shut_ q.2 L hL
              simp only [cond_false]
              rw [show want T e K.open_ s = adv s by unfold want; rw [k3]; rfl, hq, Option.bind_some]
              exact ⟨⟨_, rfl, by show rem e (want T e K.shut_ q.2) ≤ _; omega, by show phi L (want T e K.shut_ q.2) ≤ _; omega⟩, fun z hz => by
                rw [← Option.some.inj hz]
                exact ⟨by show rem e (want T e K.shut_ q.2) + 1 ≤ _; omega, by show phi L (want T e K.shut_ q.2) + 1 ≤ _; omega⟩⟩
            · have h1 := kind_rem (by decide) k2
              have ha := phi_adv (L := L) (s := s) (by omega)
              obtain ⟨q, hq, q1, q2, _⟩ := node_end (e := e) (L := L) K.var_ (see T e s) [] (adv s) (by omega)
              simp only [cond_false, cond_true]
              rw [hq]
              exact ⟨⟨_, rfl, by omega, by omega⟩, fun z hz => by rw [← Option.some.inj hz]; exact ⟨by omega, by omega⟩⟩
          · have h1 := kind_rem (by decide) k1
            have ha := phi_adv (L := L) (s := s) (by omega)
            obtain ⟨l, hl, l1, l2⟩ := ihA (adv s) n (by omega) (by omega) (by omega)
            obtain ⟨q, hq, q1, q2, _⟩ := node_end (e := e) (L := L) K.named_ (see T e s) l.1 l.2 (by omega)
            simp only [cond_true]
            rw [hl, Option.bind_some, hq]
            exact ⟨⟨_, rfl, by omega, by omega⟩, fun z hz => by rw [← Option.some.inj hz]; exact ⟨by omega, by omega⟩⟩
        obtain ⟨⟨a, ha, a1, a2⟩, hst⟩ := h1
        have hs2 := hst a ha
        rw [ha, Option.bind_some]
        cases k4 : isSign T e K.arrow_ a.2
        · exact ⟨_, rfl, a1, a2⟩
        · have h1 := sign_rem k4
          have hb := phi_adv (L := L) (s := a.2) (by omega)
          obtain ⟨b, hbb, b1, b2⟩ := ihT (adv a.2) (n + 1) (by omega) (by omega) (by omega)
          obtain ⟨q, hq, q1, q2, _⟩ := node_end (e := e) (L := L) K.arrow_ [] [a.1, b.1] b.2 (by omega)
          rw [cond_true, hbb, Option.bind_some, hq]
          exact ⟨_, rfl, by omega, by omega⟩
      · exact ⟨_, rfl, by show rem e (spoil s) ≤ _; simp [rem, spoil], Nat.le_refl _⟩

end
end Go.Proofs.YtnocnkblhjifjaaGreatDoor
/-
  Plain mathematics: the document's reader of patterns comes to an end, and makes few nodes.
-/
namespace Go.Proofs.YtnocnkblhjifjaaGreatDoor
open Go.RowKit

def EndA (e L : Nat) (s : RS) (o : Option (Nat × Bool × RS)) : Prop := ∃ q, o = some q ∧ rem e q.2.2 ≤ rem e s ∧ phi L q.2.2 ≤ phi L s ∧ (q.2.1 = true → rem e q.2.2 + 1 ≤ rem e s ∧ phi L q.2.2 + 1 ≤ phi L s)

section
variable {T : Toks} {e : Nat}

/-- A token and a node. -/
theorem leaf_end {L : Nat} (is name : List UInt8) (s : RS) (h1 : rem e (adv s) + 1 = rem e s) (h2 : s.pos < L) (hp : phi L s < nodeCap) : EndA e L s ((nodeP is name [] (adv s)).bind fun q => some (q.1, true, q.2)) := by
  have ha := phi_adv (L := L) (s := s) h2
  obtain ⟨q, hq, q1, q2, _⟩ := node_end (e := e) (L := L) is name [] (adv s) (by omega)
  rw [hq]
  exact ⟨_, rfl, by show rem e q.2 ≤ _; omega, by show phi L q.2 ≤ _; omega, fun _ => ⟨by show rem e q.2 + 1 ≤ _; omega, by show phi L q.2 + 1 ≤ _; omega⟩⟩

theorem plain_end {L : Nat} (hL : e ≤ L) (s : RS) (hp : phi L s < nodeCap) : EndA e L s (plainP T e s) := by
  unfold plainP
  cases k1 : isKind T e 100 s
  · cases k2 : isKind T e 110 s
    · cases k3 : isKind T e 99 s
      · cases k4 : isSign T e K.true_ s
        · cases k5 : isSign T e K.false_ s
          · exact ⟨_, rfl, Nat.le_refl _, Nat.le_refl _, fun h => by cases h⟩
          · have h1 := sign_rem k5
            exact leaf_end _ _ s h1.1 (by omega) hp
        · have h1 := sign_rem k4
          exact leaf_end _ _ s h1.1 (by omega) hp
      · have h1 := kind_rem (by decide) k3
        exact leaf_end _ _ s h1.1 (by omega) hp
    · have h1 := kind_rem (by decide) k2
      exact leaf_end _ _ s h1.1 (by omega) hp
  · have h1 := kind_rem (by decide) k1
    exact leaf_end _ _ s h1.1 (by omega) hp

theorem patterns_end_step {L : Nat} (hL : e ≤ L) (m : Nat) (ih : (m = 0 ∨ ∃ k, m = k + 1 ∧ (∀ s n, rem e s ≤ k → phi L s < nodeCap → 3 * k + 2 ≤ n → EndL e L s (patternP.apatternsP T e n s)) ∧ (∀ s n, rem e s ≤ k → phi L s < nodeCap → 3 * k + 3 ≤ n → EndN e L s (patternP T e n s)))) :
    (∀ s n, rem e s ≤ m → phi L s < nodeCap → 3 * m + 1 ≤ n → EndA e L s (patternP.apatternP T e n s)) ∧ (∀ s n, rem e s ≤ m → phi L s < nodeCap → 3 * m + 2 ≤ n → EndL e L s (patternP.apatternsP T e n s)) ∧ (∀ s n, rem e s ≤ m → phi L s < nodeCap → 3 * m + 3 ≤ n → EndN e L s (patternP T e n s)) := by
  have pA : ∀ s n, rem e s ≤ m → phi L s < nodeCap → 3 * m + 1 ≤ n → EndA e L s (patternP.apatternP T e n s) := by
    intro s n hr hp hn
    obtain ⟨n, rfl⟩ : ∃ k, n = k + 1 := ⟨n - 1, by omega⟩
    rw [patternP.apatternP]
    obtain ⟨p, hpp, p1, p2, p3⟩ := plain_end (T := T) hL s hp
    rw [hpp, Option.bind_some]
    cases hok : p.2.1
    · cases k1 : isSign T e K.under_ s
      · cases k2 : isSign T e K.open_ s
        · exact ⟨_, rfl, Nat.le_refl _, Nat.le_refl _, fun h => by cases h⟩
        · have h1 := sign_rem k2
          have ha := phi_adv (L := L) (s := s) (by omega)
          cases k3 : isSign T e K.shut_ (adv s)
          · rcases ih with rfl | ⟨k, rfl, _, ihP⟩
            · omega
            · obtain ⟨q, hq, q1, q2⟩ := ihP (adv s) n (by omega) (by omega) (by omega)
              have hw := want_rem (T := T) (e := e) K.shut_ q.2 L hL
              simp only [cond_false, cond_true]
              rw [hq]
              exact ⟨_, rfl, by show rem e (want T e K.shut_ q.2) ≤ _; omega, by show phi L (want T e K.shut_ q.2) ≤ _; omega, fun _ => ⟨by show rem e (want T e K.shut_ q.2) + 1 ≤ _; omega, by show phi L (want T e K.shut_ q.2) + 1 ≤ _; omega⟩⟩
          · have h3 := sign_rem k3
            obtain ⟨q, hq, q1, q2, q3⟩ := leaf_end (e := e) (L := L) K.const_ K.unit_ (adv s) h3.1 (by omega) (by omega)
            simp only [cond_false, cond_true]
            rw [hq]
            exact ⟨_, rfl, by omega, by omega, fun _ => ⟨by omega, by omega⟩⟩
      · have h1 := sign_rem k1
        exact leaf_end _ _ s h1.1 (by omega) hp
    · rw [cond_true]
      exact ⟨_, rfl, p1, p2, p3⟩
  refine ⟨pA, ?_, ?_⟩
  · intro s n hr hp hn
    obtain ⟨n, rfl⟩ : ∃ k, n = k + 1 := ⟨n - 1, by omega⟩
    rw [patternP.apatternsP]
    obtain ⟨q, hq, q1, q2, q3⟩ := pA s n hr hp (by omega)
    rw [hq, Option.bind_some]
    cases hok : q.2.1
    · exact ⟨_, rfl, q1, q2⟩
    · have q4 := q3 hok
      rcases ih with rfl | ⟨k, rfl, ihS, _⟩
      · omega
      · obtain ⟨l, hl, l1, l2⟩ := ihS q.2.2 n (by omega) (by omega) (by omega)
        rw [cond_true, hl]
        exact ⟨_, rfl, by show rem e l.2 ≤ _; omega, by show phi L l.2 ≤ _; omega⟩
  · intro s n hr hp hn
    obtain ⟨n, rfl⟩ : ∃ k, n = k + 1 := ⟨n - 1, by omega⟩
    rw [patternP]
    cases k1 : isKind T e 99 s
    · obtain ⟨q, hq, q1, q2, q3⟩ := pA s n hr hp (by omega)
      rw [cond_false, hq]
      refine ⟨_, rfl, ?_, ?_⟩
      · show rem e (bif q.2.1 then q.2.2 else spoil q.2.2) ≤ _
        cases q.2.1
        · show rem e (spoil q.2.2) ≤ _; simp [rem, spoil]
        · exact q1
      · show phi L (bif q.2.1 then q.2.2 else spoil q.2.2) ≤ _
        cases q.2.1
        · exact q2
        · exact q2
    · have h1 := kind_rem (by decide) k1
      have ha := phi_adv (L := L) (s := s) (by omega)
      rcases ih with rfl | ⟨k, rfl, ihS, _⟩
      · omega
      · obtain ⟨l, hl, l1, l2⟩ := ihS (adv s) n (by omega) (by omega) (by omega)
        obtain ⟨q, hq, q1, q2, _⟩ := node_end (e := e) (L := L) K.con_ (see T e s) l.1 l.2 (by omega)
        rw [cond_true, hl, Option.bind_some, hq]
        exact ⟨_, rfl, by omega, by omega⟩

theorem patterns_end {L : Nat} (hL : e ≤ L) : ∀ m, (∀ s n, rem e s ≤ m → phi L s < nodeCap → 3 * m + 1 ≤ n → EndA e L s (patternP.apatternP T e n s)) ∧ (∀ s n, rem e s ≤ m → phi L s < nodeCap → 3 * m + 2 ≤ n → EndL e L s (patternP.apatternsP T e n s)) ∧ (∀ s n, rem e s ≤ m → phi L s < nodeCap → 3 * m + 3 ≤ n → EndN e L s (patternP T e n s)) := by
  intro m
  induction m with
  | zero => exact patterns_end_step hL 0 (Or.inl rfl)
  | succ k ih => exact patterns_end_step hL (k + 1) (Or.inr ⟨k, rfl, ih.2.1, ih.2.2⟩)

end
end Go.Proofs.YtnocnkblhjifjaaGreatDoor
