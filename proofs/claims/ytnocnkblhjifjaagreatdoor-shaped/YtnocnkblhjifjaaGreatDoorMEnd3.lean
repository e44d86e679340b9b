import Derived.Test.YtnocnkblhjifjaaGreatDoorMEnd1
/-
  Plain mathematics: the document's reader of expressions comes to an end, and makes few nodes.
-/
namespace Go.Proofs.YtnocnkblhjifjaaGreatDoor
open Go.RowKit

/-- A list of nodes, each of which has paid for one node more. -/
def EndS (e L : Nat) (s : RS) (o : Option (List Nat × RS)) : Prop := ∃ q, o = some q ∧ rem e q.2 ≤ rem e s ∧ phi L q.2 + q.1.length ≤ phi L s
/-- It may have some nodes more. -/
def EndM (e L c : Nat) (s : RS) (o : Option (Nat × RS)) : Prop := ∃ q, o = some q ∧ rem e q.2 ≤ rem e s ∧ phi L q.2 ≤ phi L s + c
def EndR (e L c : Nat) (s : RS) (o : Option (List Nat × RS)) : Prop := ∃ q, o = some q ∧ rem e q.2 ≤ rem e s ∧ phi L q.2 ≤ phi L s + c
def EndB (e L : Nat) (s : RS) (o : Option (List UInt8 × List UInt8 × Nat × RS)) : Prop := ∃ q, o = some q ∧ rem e q.2.2.2 ≤ rem e s ∧ phi L q.2.2.2 ≤ phi L s

theorem rem_spoil (e : Nat) (s : RS) : rem e (spoil s) = 0 := by simp [rem, spoil]
theorem rem_bad {e : Nat} {s : RS} (h : s.bad = true) : rem e s = 0 := by simp [rem, h]

section
variable {T : Toks} {e : Nat}

theorem kindS_rem (k : Int) (h0 : k ≠ 0) (s : RS) (L : Nat) (hL : e ≤ L) : rem e (kindS T e k s) ≤ rem e s ∧ phi L (kindS T e k s) ≤ phi L s := by
  unfold kindS
  cases h : isKind T e k s
  · exact ⟨by rw [cond_false, rem_spoil]; exact Nat.zero_le _, Nat.le_refl _⟩
  · have hr := kind_rem h0 h
    have hp := phi_adv (L := L) (s := s) (by omega)
    rw [cond_true]
    exact ⟨by omega, by omega⟩

theorem every_rem (k : Int) (h0 : k ≠ 0) (L : Nat) (hL : e ≤ L) : ∀ (n : Nat) (s : RS), rem e (everyF T e k n s).2 ≤ rem e s ∧ phi L (everyF T e k n s).2 + 3 * (everyF T e k n s).1.length ≤ phi L s := by
  intro n
  induction n with
  | zero => intro s; exact ⟨Nat.le_refl _, by simp [everyF]⟩
  | succ n ih =>
    intro s
    rw [everyF]
    cases h : isKind T e k s
    · exact ⟨Nat.le_refl _, by simp⟩
    · have hr := kind_rem h0 h
      have hp := phi_adv (L := L) (s := s) (by omega)
      have hi := ih (adv s)
      rw [cond_true]
      exact ⟨by show rem e (everyF T e k n (adv s)).2 ≤ _; omega, by show phi L (everyF T e k n (adv s)).2 + 3 * ((everyF T e k n (adv s)).1.length + 1) ≤ _; omega⟩

theorem curried_end {L : Nat} : ∀ (l : Toks) (x : Nat) (s : RS), phi L s + l.length < nodeCap → ∃ q, curriedP l x s = some q ∧ rem e q.2 = rem e s ∧ phi L q.2 = phi L s + l.length := by
  intro l
  induction l with
  | nil => intro x s _; exact ⟨_, rfl, rfl, rfl⟩
  | cons a r ih =>
    intro x s h
    rw [List.length_cons] at h
    obtain ⟨q, hq, q1, q2⟩ := ih x s (by omega)
    obtain ⟨z, hz, z1, z2, _⟩ := node_end (e := e) (L := L) K.fun_ a [q.1] q.2 (by omega)
    rw [curriedP, hq, Option.bind_some, hz]
    exact ⟨_, rfl, by omega, by rw [List.length_cons]; omega⟩

theorem apps_end {L : Nat} : ∀ (l : List Nat) (f : Nat) (s : RS), phi L s + l.length < nodeCap → ∃ q, appsP l f s = some q ∧ rem e q.2 = rem e s ∧ phi L q.2 = phi L s + l.length := by
  intro l
  induction l with
  | nil => intro x s _; exact ⟨_, rfl, rfl, rfl⟩
  | cons a r ih =>
    intro x s h
    rw [List.length_cons] at h
    obtain ⟨z, hz, z1, z2, _⟩ := node_end (e := e) (L := L) K.app_ [] [x, a] s (by omega)
    obtain ⟨q, hq, q1, q2⟩ := ih z.1 z.2 (by omega)
    rw [appsP, hz, Option.bind_some, hq]
    exact ⟨_, rfl, by omega, by rw [List.length_cons]; omega⟩

/-- All that is said of expressions, at one number of tokens. -/
structure Ends (T : Toks) (e L m : Nat) : Prop where
  atom : ∀ s n, rem e s ≤ m → phi L s + 5 < nodeCap → 10 * m + 4 ≤ n → EndA e L s (bindingP.atomP T e n s)
  atoms : ∀ s n, rem e s ≤ m → phi L s + 5 < nodeCap → 10 * m + 5 ≤ n → EndS e L s (bindingP.atomsP T e n s)
  level : ∀ k s n, k ≤ 3 → rem e s ≤ m → phi L s + 5 < nodeCap → 10 * m + 10 ≤ n + k → EndN e L s (bindingP.levelP T e n k s)
  levels : ∀ k a s n, k ≤ 2 → rem e s ≤ m → phi L s + 5 < nodeCap → 10 * m + 5 ≤ n → EndN e L s (bindingP.levelsP T e n k a s)
  expr : ∀ s n, rem e s ≤ m → phi L s + 5 < nodeCap → 10 * m + 11 ≤ n → EndN e L s (bindingP.exprP T e n s)
  binding : ∀ s n, rem e s ≤ m → phi L s + 5 < nodeCap → 10 * m + 12 ≤ n → EndB e L s (bindingP T e n s)
  rows : ∀ s n, rem e s ≤ m → phi L s + 5 < nodeCap → 10 * m + 12 ≤ n → EndR e L 1 s (bindingP.rowsP T e n s)
  matches_ : ∀ s n, rem e s ≤ m → phi L s + 5 < nodeCap → 10 * m + 13 ≤ n → EndM e L 2 s (bindingP.matchP T e n s)

section
variable {L m : Nat}

/-- What stands for one token less. -/
def Fewer (T : Toks) (e L m : Nat) : Prop := m = 0 ∨ ∃ k, m = k + 1 ∧ Ends T e L k

theorem atom_end (hL : e ≤ L) (ih : Fewer T e L m) : ∀ s n, rem e s ≤ m → phi L s + 5 < nodeCap → 10 * m + 4 ≤ n → EndA e L s (bindingP.atomP T e n s) := by
  intro s n hr hp hn
  obtain ⟨n, rfl⟩ : ∃ k, n = k + 1 := ⟨n - 1, by omega⟩
  rw [bindingP.atomP]
  obtain ⟨p, hpp, p1, p2, p3⟩ := plain_end (T := T) hL s (by omega)
  rw [hpp, Option.bind_some]
  cases hok : p.2.1
  · cases k1 : isSign T e K.open_ s
    · cases k2 : isSign T e K.bang_ s
      · cases k3 : isSign T e K.match_ s
        · exact ⟨_, rfl, Nat.le_refl _, Nat.le_refl _, fun h => by cases h⟩
        · have h1 := sign_rem k3
          have ha := phi_adv (L := L) (s := s) (by omega)
          rcases ih with rfl | ⟨k, rfl, ih⟩
          · omega
          · obtain ⟨q, hq, q1, q2⟩ := ih.matches_ (adv s) n (by omega) (by omega) (by omega)
            simp only [cond_false, cond_true]
            rw [hq]
            exact ⟨_, rfl, by show rem e q.2 ≤ _; omega, by show phi L q.2 ≤ _; omega, fun _ => ⟨by show rem e q.2 + 1 ≤ _; omega, by show phi L q.2 + 1 ≤ _; omega⟩⟩
      · have h1 := sign_rem k2
        have ha := phi_adv (L := L) (s := s) (by omega)
        rcases ih with rfl | ⟨k, rfl, ih⟩
        · omega
        · obtain ⟨a, hq, q1, q2, _⟩ := ih.atom (adv s) n (by omega) (by omega) (by omega)
          have hz : rem e (bif a.2.1 then a.2.2 else spoil a.2.2) ≤ rem e a.2.2 ∧ phi L (bif a.2.1 then a.2.2 else spoil a.2.2) = phi L a.2.2 := by
            cases a.2.1
            · exact ⟨by rw [cond_false, rem_spoil]; exact Nat.zero_le _, rfl⟩
            · exact ⟨Nat.le_refl _, rfl⟩
          obtain ⟨z, hzz, z1, z2, _⟩ := node_end (e := e) (L := L) K.bang_ [] [a.1] (bif a.2.1 then a.2.2 else spoil a.2.2) (by omega)
          simp only [cond_false, cond_true]
          rw [hq, Option.bind_some, hzz]
          exact ⟨_, rfl, by show rem e z.2 ≤ _; omega, by show phi L z.2 ≤ _; omega, fun _ => ⟨by show rem e z.2 + 1 ≤ _; omega, by show phi L z.2 + 1 ≤ _; omega⟩⟩
    · have h1 := sign_rem k1
      have ha := phi_adv (L := L) (s := s) (by omega)
      cases k3 : isSign T e K.shut_ (adv s)
      · rcases ih with rfl | ⟨k, rfl, ih⟩
        · omega
        · obtain ⟨q, hq, q1, q2⟩ := ih.expr (adv s) n (by omega) (by omega) (by omega)
          have hw := want_rem (T := T) (e := e) K.shut_ q.2 L hL
          simp only [cond_false, cond_true]
          rw [hq]
          exact ⟨_, rfl, by show rem e (want T e K.shut_ q.2) ≤ _; omega, by show phi L (want T e K.shut_ q.2) ≤ _; omega, fun _ => ⟨by show rem e (want T e K.shut_ q.2) + 1 ≤ _; omega, by show phi L (want T e K.shut_ q.2) + 1 ≤ _; omega⟩⟩
      · have h3 := sign_rem k3
        obtain ⟨q, hq, q1, q2, q3⟩ := leaf_end (e := e) (L := L) K.const_ K.unit_ (adv s) h3.1 (by omega) (by omega)
        simp only [cond_false, cond_true]
        rw [hq]
        exact ⟨_, rfl, by omega, by omega, fun _ => ⟨by omega, by omega⟩⟩
  · rw [cond_true]
    exact ⟨_, rfl, p1, p2, p3⟩

theorem atoms_end (ih : Fewer T e L m) (hA : ∀ s n, rem e s ≤ m → phi L s + 5 < nodeCap → 10 * m + 4 ≤ n → EndA e L s (bindingP.atomP T e n s)) : ∀ s n, rem e s ≤ m → phi L s + 5 < nodeCap → 10 * m + 5 ≤ n → EndS e L s (bindingP.atomsP T e n s) := by
  intro s n hr hp hn
  obtain ⟨n, rfl⟩ : ∃ k, n = k + 1 := ⟨n - 1, by omega⟩
  rw [bindingP.atomsP]
  cases hb : s.bad
  · obtain ⟨q, hq, q1, q2, q3⟩ := hA s n hr hp (by omega)
    rw [cond_false, hq, Option.bind_some]
    cases hok : q.2.1
    · exact ⟨_, rfl, q1, q2⟩
    · have q4 := q3 hok
      rcases ih with rfl | ⟨k, rfl, ih⟩
      · omega
      · obtain ⟨l, hl, l1, l2⟩ := ih.atoms q.2.2 n (by omega) (by omega) (by omega)
        rw [cond_true, hl]
        exact ⟨_, rfl, by show rem e l.2 ≤ _; omega, by show phi L l.2 + (l.1.length + 1) ≤ _; omega⟩
  · exact ⟨_, rfl, Nat.le_refl _, Nat.le_refl _⟩

theorem app_end (hL : e ≤ L) (ih : Fewer T e L m) (hS : ∀ s n, rem e s ≤ m → phi L s + 5 < nodeCap → 10 * m + 5 ≤ n → EndS e L s (bindingP.atomsP T e n s)) : ∀ s n, rem e s ≤ m → phi L s + 5 < nodeCap → 10 * m + 6 ≤ n → EndN e L s (bindingP.appP T e n s) := by
  intro s n hr hp hn
  obtain ⟨n, rfl⟩ : ∃ k, n = k + 1 := ⟨n - 1, by omega⟩
  rw [bindingP.appP]
  cases k1 : isKind T e 99 s
  · obtain ⟨l, hl, l1, l2⟩ := hS s n hr hp (by omega)
    rw [cond_false, hl, Option.bind_some]
    obtain ⟨ll, ls⟩ := l
    cases ll with
    | nil => exact ⟨_, rfl, by show rem e (spoil ls) ≤ _; rw [rem_spoil]; exact Nat.zero_le _, by show phi L ls ≤ _; simp at l2; exact l2⟩
    | cons f r =>
      simp only [List.length_cons] at l2
      have l1' : rem e ls ≤ rem e s := l1
      obtain ⟨q, hq, q1, q2⟩ := apps_end (e := e) (L := L) r f ls (by omega)
      exact ⟨q, hq, by omega, by omega⟩
  · have h1 := kind_rem (by decide) k1
    have ha := phi_adv (L := L) (s := s) (by omega)
    rcases ih with rfl | ⟨k, rfl, ih⟩
    · omega
    · obtain ⟨l, hl, l1, l2⟩ := ih.atoms (adv s) n (by omega) (by omega) (by omega)
      obtain ⟨q, hq, q1, q2, _⟩ := node_end (e := e) (L := L) K.con_ (see T e s) l.1 l.2 (by omega)
      rw [cond_true, hl, Option.bind_some, hq]
      exact ⟨_, rfl, by omega, by omega⟩

theorem levels_end (hL : e ≤ L) (ih : Fewer T e L m) : ∀ k a s n, k ≤ 2 → rem e s ≤ m → phi L s + 5 < nodeCap → 10 * m + 5 ≤ n → EndN e L s (bindingP.levelsP T e n k a s) := by
  intro k a s n hk hr hp hn
  obtain ⟨n, rfl⟩ : ∃ k, n = k + 1 := ⟨n - 1, by omega⟩
  rw [bindingP.levelsP]
  cases k1 : (isKind T e 119 s && (see T e s).length == 1 && (signsAt k).contains ((see T e s).getD 0 0))
  · exact ⟨_, rfl, Nat.le_refl _, Nat.le_refl _⟩
  · have k2 : isKind T e 119 s = true := by
      simp only [Bool.and_eq_true] at k1
      exact k1.1.1
    have h1 := kind_rem (by decide) k2
    have ha := phi_adv (L := L) (s := s) (by omega)
    rcases ih with rfl | ⟨j, rfl, ih⟩
    · omega
    · obtain ⟨b, hb, b1, b2⟩ := ih.level (k + 1) (adv s) n (by omega) (by omega) (by omega) (by omega)
      obtain ⟨q, hq, q1, q2, _⟩ := node_end (e := e) (L := L) (see T e s) [] [a, b.1] b.2 (by omega)
      rw [cond_true, hb, Option.bind_some, hq, Option.bind_some]
      by_cases h0 : k = 0
      · rw [if_pos h0]
        exact ⟨_, rfl, by omega, by omega⟩
      · rw [if_neg h0]
        obtain ⟨z, hz, z1, z2⟩ := ih.levels k q.1 q.2 n hk (by omega) (by omega) (by omega)
        exact ⟨z, hz, by omega, by omega⟩

theorem level_end (hP : ∀ s n, rem e s ≤ m → phi L s + 5 < nodeCap → 10 * m + 6 ≤ n → EndN e L s (bindingP.appP T e n s)) (hS : ∀ k a s n, k ≤ 2 → rem e s ≤ m → phi L s + 5 < nodeCap → 10 * m + 5 ≤ n → EndN e L s (bindingP.levelsP T e n k a s)) :
    ∀ j k s n, k + j = 3 → rem e s ≤ m → phi L s + 5 < nodeCap → 10 * m + 10 ≤ n + k → EndN e L s (bindingP.levelP T e n k s) := by
  intro j
  induction j with
  | zero =>
    intro k s n hk hr hp hn
    obtain ⟨n, rfl⟩ : ∃ k, n = k + 1 := ⟨n - 1, by omega⟩
    rw [bindingP.levelP, if_pos (by omega)]
    exact hP s n hr hp (by omega)
  | succ j ih =>
    intro k s n hk hr hp hn
    obtain ⟨n, rfl⟩ : ∃ k, n = k + 1 := ⟨n - 1, by omega⟩
    rw [bindingP.levelP, if_neg (by omega)]
    obtain ⟨a, ha, a1, a2⟩ := ih (k + 1) s n (by omega) hr hp (by omega)
    rw [ha, Option.bind_some]
    obtain ⟨z, hz, z1, z2⟩ := hS k a.1 a.2 n (by omega) (by omega) (by omega) (by omega)
    exact ⟨z, hz, by omega, by omega⟩

theorem set_end (hL : e ≤ L) (ih : Fewer T e L m) : ∀ a s n, rem e s ≤ m → phi L s + 5 < nodeCap → 10 * m + 5 ≤ n → EndN e L s (bindingP.setP T e n a s) := by
  intro a s n hr hp hn
  obtain ⟨n, rfl⟩ : ∃ k, n = k + 1 := ⟨n - 1, by omega⟩
  rw [bindingP.setP]
  cases k1 : isSign T e K.set_ s
  · exact ⟨_, rfl, Nat.le_refl _, Nat.le_refl _⟩
  · have h1 := sign_rem k1
    have ha := phi_adv (L := L) (s := s) (by omega)
    rcases ih with rfl | ⟨j, rfl, ih⟩
    · omega
    · obtain ⟨b, hb, b1, b2⟩ := ih.level 0 (adv s) n (by omega) (by omega) (by omega) (by omega)
      obtain ⟨q, hq, q1, q2, _⟩ := node_end (e := e) (L := L) K.setN_ [] [a, b.1] b.2 (by omega)
      rw [cond_true, hb, Option.bind_some, hq]
      exact ⟨_, rfl, by omega, by omega⟩

theorem expr_end (hL : e ≤ L) (ih : Fewer T e L m) (hV : ∀ s n, rem e s ≤ m → phi L s + 5 < nodeCap → 10 * m + 10 ≤ n → EndN e L s (bindingP.levelP T e n 0 s)) (hS : ∀ a s n, rem e s ≤ m → phi L s + 5 < nodeCap → 10 * m + 5 ≤ n → EndN e L s (bindingP.setP T e n a s)) :
    ∀ s n, rem e s ≤ m → phi L s + 5 < nodeCap → 10 * m + 11 ≤ n → EndN e L s (bindingP.exprP T e n s) := by
  intro s n hr hp hn
  obtain ⟨n, rfl⟩ : ∃ k, n = k + 1 := ⟨n - 1, by omega⟩
  rw [bindingP.exprP]
  cases hb : s.bad
  · rw [cond_false]
    cases k1 : isSign T e K.let_ s
    · rw [cond_false]
      cases k2 : isSign T e K.fun_ s
      · rw [cond_false]
        cases k3 : isSign T e K.if_ s
        · rw [cond_false]
          obtain ⟨a, ha, a1, a2⟩ := hV s n hr hp (by omega)
          rw [ha, Option.bind_some]
          obtain ⟨b, hb, b1, b2⟩ := hS a.1 a.2 n (by omega) (by omega) (by omega)
          rw [hb, Option.bind_some]
          cases k4 : isSign T e K.semi_ b.2
          · exact ⟨_, rfl, by omega, by omega⟩
          · have h1 := sign_rem k4
            have hh := phi_adv (L := L) (s := b.2) (by omega)
            rcases ih with rfl | ⟨j, rfl, ih⟩
            · omega
            · obtain ⟨c, hc, c1, c2⟩ := ih.expr (adv b.2) n (by omega) (by omega) (by omega)
              obtain ⟨q, hq, q1, q2, _⟩ := node_end (e := e) (L := L) K.seq_ [] [b.1, c.1] c.2 (by omega)
              rw [cond_true, hc, Option.bind_some, hq]
              exact ⟨_, rfl, by omega, by omega⟩
        · rw [cond_true]
          have h1 := sign_rem k3
          have hh := phi_adv (L := L) (s := s) (by omega)
          rcases ih with rfl | ⟨j, rfl, ih⟩
          · omega
          · obtain ⟨a, ha, a1, a2⟩ := ih.expr (adv s) n (by omega) (by omega) (by omega)
            have hw := want_rem (T := T) (e := e) K.then_ a.2 L hL
            obtain ⟨b, hb, b1, b2⟩ := ih.expr (want T e K.then_ a.2) n (by omega) (by omega) (by omega)
            have hw2 := want_rem (T := T) (e := e) K.else_ b.2 L hL
            obtain ⟨c, hc, c1, c2⟩ := ih.expr (want T e K.else_ b.2) n (by omega) (by omega) (by omega)
            obtain ⟨q, hq, q1, q2, _⟩ := node_end (e := e) (L := L) K.if_ [] [a.1, b.1, c.1] c.2 (by omega)
            rw [ha, Option.bind_some, hb, Option.bind_some, hc, Option.bind_some, hq]
            exact ⟨_, rfl, by omega, by omega⟩
      · rw [cond_true]
        have h1 := sign_rem k2
        have hh := phi_adv (L := L) (s := s) (by omega)
        rcases ih with rfl | ⟨j, rfl, ih⟩
        · omega
        · have hk := kindS_rem (T := T) (e := e) 110 (by decide) (adv s) L hL
          have hv := every_rem (T := T) (e := e) 110 (by decide) L hL (e - (kindS T e 110 (adv s)).pos) (kindS T e 110 (adv s))
          have hw := want_rem (T := T) (e := e) K.arrow_ (everyP T e 110 (kindS T e 110 (adv s))).2 L hL
          have hv1 : rem e (everyP T e 110 (kindS T e 110 (adv s))).2 ≤ rem e (kindS T e 110 (adv s)) := hv.1
          have hv2 : phi L (everyP T e 110 (kindS T e 110 (adv s))).2 + 3 * (everyP T e 110 (kindS T e 110 (adv s))).1.length ≤ phi L (kindS T e 110 (adv s)) := hv.2
          obtain ⟨x, hx, x1, x2⟩ := ih.expr (want T e K.arrow_ (everyP T e 110 (kindS T e 110 (adv s))).2) n (by omega) (by omega) (by omega)
          obtain ⟨q, hq, q1, q2⟩ := curried_end (e := e) (L := L) (kindT T e 110 (adv s) :: (everyP T e 110 (kindS T e 110 (adv s))).1) x.1 x.2 (by rw [List.length_cons]; omega)
          rw [List.length_cons] at q2
          show EndN e L s ((bindingP.exprP T e n (want T e K.arrow_ (everyP T e 110 (kindS T e 110 (adv s))).2)).bind fun x => curriedP (kindT T e 110 (adv s) :: (everyP T e 110 (kindS T e 110 (adv s))).1) x.1 x.2)
          rw [hx, Option.bind_some, hq]
          exact ⟨_, rfl, by omega, by omega⟩
    · rw [cond_true]
      have h1 := sign_rem k1
      have hh := phi_adv (L := L) (s := s) (by omega)
      rcases ih with rfl | ⟨j, rfl, ih⟩
      · omega
      · obtain ⟨b, hb, b1, b2⟩ := ih.binding (adv s) n (by omega) (by omega) (by omega)
        have hw := want_rem (T := T) (e := e) K.in_ b.2.2.2 L hL
        obtain ⟨x, hx, x1, x2⟩ := ih.expr (want T e K.in_ b.2.2.2) n (by omega) (by omega) (by omega)
        obtain ⟨q, hq, q1, q2, _⟩ := node_end (e := e) (L := L) b.1 b.2.1 [b.2.2.1, x.1] x.2 (by omega)
        rw [hb, Option.bind_some, hx, Option.bind_some, hq]
        exact ⟨_, rfl, by omega, by omega⟩
  · exact ⟨_, rfl, Nat.le_refl _, Nat.le_refl _⟩

theorem binding_end (hL : e ≤ L) (hE : ∀ s n, rem e s ≤ m → phi L s + 5 < nodeCap → 10 * m + 11 ≤ n → EndN e L s (bindingP.exprP T e n s)) : ∀ s n, rem e s ≤ m → phi L s + 5 < nodeCap → 10 * m + 12 ≤ n → EndB e L s (bindingP T e n s) := by
  intro s n hr hp hn
  obtain ⟨n, rfl⟩ : ∃ k, n = k + 1 := ⟨n - 1, by omega⟩
  rw [bindingP]
  have h0 : rem e (bif isSign T e K.rec_ s then adv s else s) ≤ rem e s ∧ phi L (bif isSign T e K.rec_ s then adv s else s) ≤ phi L s := by
    cases k : isSign T e K.rec_ s
    · exact ⟨Nat.le_refl _, Nat.le_refl _⟩
    · have h1 := sign_rem k
      have hh := phi_adv (L := L) (s := s) (by omega)
      rw [cond_true]
      exact ⟨by omega, by omega⟩
  generalize (bif isSign T e K.rec_ s then adv s else s) = s0 at h0 ⊢
  have hk := kindS_rem (T := T) (e := e) 110 (by decide) s0 L hL
  have hv := every_rem (T := T) (e := e) 110 (by decide) L hL (e - (kindS T e 110 s0).pos) (kindS T e 110 s0)
  have hv1 : rem e (everyP T e 110 (kindS T e 110 s0)).2 ≤ rem e (kindS T e 110 s0) := hv.1
  have hv2 : phi L (everyP T e 110 (kindS T e 110 s0)).2 + 3 * (everyP T e 110 (kindS T e 110 s0)).1.length ≤ phi L (kindS T e 110 s0) := hv.2
  have h3 : rem e (bif isSign T e K.rec_ s && (everyP T e 110 (kindS T e 110 s0)).1.isEmpty then spoil (everyP T e 110 (kindS T e 110 s0)).2 else (everyP T e 110 (kindS T e 110 s0)).2) ≤ rem e (everyP T e 110 (kindS T e 110 s0)).2 ∧ phi L (bif isSign T e K.rec_ s && (everyP T e 110 (kindS T e 110 s0)).1.isEmpty then spoil (everyP T e 110 (kindS T e 110 s0)).2 else (everyP T e 110 (kindS T e 110 s0)).2) = phi L (everyP T e 110 (kindS T e 110 s0)).2 := by
    cases (isSign T e K.rec_ s && (everyP T e 110 (kindS T e 110 s0)).1.isEmpty)
    · exact ⟨Nat.le_refl _, rfl⟩
    · exact ⟨by rw [cond_true, rem_spoil]; exact Nat.zero_le _, rfl⟩
  generalize (bif isSign T e K.rec_ s && (everyP T e 110 (kindS T e 110 s0)).1.isEmpty then spoil (everyP T e 110 (kindS T e 110 s0)).2 else (everyP T e 110 (kindS T e 110 s0)).2) = s3 at h3 ⊢
  have hw := want_rem (T := T) (e := e) K.eq_ s3 L hL
  obtain ⟨x, hx, x1, x2⟩ := hE (want T e K.eq_ s3) n (by omega) (by omega) (by omega)
  obtain ⟨q, hq, q1, q2⟩ := curried_end (e := e) (L := L) (everyP T e 110 (kindS T e 110 s0)).1 x.1 x.2 (by omega)
  rw [hx, Option.bind_some, hq]
  exact ⟨_, rfl, by show rem e q.2 ≤ _; omega, by show phi L q.2 ≤ _; omega⟩

theorem rows_end (hL : e ≤ L) (ih : Fewer T e L m) (hE : ∀ s n, rem e s ≤ m → phi L s + 5 < nodeCap → 10 * m + 11 ≤ n → EndN e L s (bindingP.exprP T e n s)) : ∀ s n, rem e s ≤ m → phi L s + 5 < nodeCap → 10 * m + 12 ≤ n → EndR e L 1 s (bindingP.rowsP T e n s) := by
  intro s n hr hp hn
  obtain ⟨n, rfl⟩ : ∃ k, n = k + 2 := ⟨n - 2, by omega⟩
  rw [bindingP.rowsP]
  cases hb : s.bad
  · rw [cond_false]
    have hw := want_rem (T := T) (e := e) K.bar_ s L hL
    obtain ⟨p, hpp, p1, p2⟩ := (patterns_end (T := T) hL m).2.2 (want T e K.bar_ s) (n + 1) (by omega) (by omega) (by omega)
    have hw2 := want_rem (T := T) (e := e) K.arrow_ p.2 L hL
    obtain ⟨a, ha, a1, a2⟩ := hE (want T e K.arrow_ p.2) (n + 1) (by omega) (by omega) (by omega)
    obtain ⟨q, hq, q1, q2, q3⟩ := node_end (e := e) (L := L) K.row_ [] [p.1, a.1] a.2 (by omega)
    rw [hpp, Option.bind_some, ha, Option.bind_some, hq, Option.bind_some]
    cases k1 : isSign T e K.end_ q.2
    · rw [cond_false]
      cases k2 : isSign T e K.bar_ s
      · have hq2 : q.2.bad = true := by
          rw [(node_bad hq).1]
          refine expr_bad ha (bad_want (pattern_bad hpp ?_) _)
          unfold want; rw [k2]; rfl
        rw [bindingP.rowsP, hq2]
        exact ⟨_, rfl, by show rem e q.2 ≤ _; omega, by show phi L q.2 ≤ _; omega⟩
      · have h1 := sign_rem k2
        have hh := phi_adv (L := L) (s := s) (by omega)
        have hw3 : want T e K.bar_ s = adv s := by unfold want; rw [k2]; rfl
        rw [hw3] at p1 p2
        rcases ih with rfl | ⟨j, rfl, ih⟩
        · omega
        · obtain ⟨l, hl, l1, l2⟩ := ih.rows q.2 (n + 1) (by omega) (by omega) (by omega)
          rw [hl]
          exact ⟨_, rfl, by show rem e l.2 ≤ _; omega, by show phi L l.2 ≤ _; omega⟩
    · have h1 := sign_rem k1
      have hh := phi_adv (L := L) (s := q.2) (by omega)
      exact ⟨_, rfl, by show rem e (adv q.2) ≤ _; omega, by show phi L (adv q.2) ≤ _; omega⟩
  · exact ⟨_, rfl, Nat.le_refl _, Nat.le_succ _⟩

theorem match_end (hL : e ≤ L) (hE : ∀ s n, rem e s ≤ m → phi L s + 5 < nodeCap → 10 * m + 11 ≤ n → EndN e L s (bindingP.exprP T e n s)) (hR : ∀ s n, rem e s ≤ m → phi L s + 5 < nodeCap → 10 * m + 12 ≤ n → EndR e L 1 s (bindingP.rowsP T e n s)) :
    ∀ s n, rem e s ≤ m → phi L s + 5 < nodeCap → 10 * m + 13 ≤ n → EndM e L 2 s (bindingP.matchP T e n s) := by
  intro s n hr hp hn
  obtain ⟨n, rfl⟩ : ∃ k, n = k + 1 := ⟨n - 1, by omega⟩
  rw [bindingP.matchP]
  have hm1 : rem e { s with mts := s.mts + 1 } = rem e s := rfl
  have hm2 : phi L { s with mts := s.mts + 1 } = phi L s := rfl
  obtain ⟨x, hx, x1, x2⟩ := hE { s with mts := s.mts + 1 } n (by omega) (by omega) (by omega)
  have hw := want_rem (T := T) (e := e) K.with_ x.2 L hL
  obtain ⟨l, hl, l1, l2⟩ := hR (want T e K.with_ x.2) n (by omega) (by omega) (by omega)
  rw [hx, Option.bind_some, hl, Option.bind_some]
  unfold matchEnd
  have hz : rem e (if 13 < (x.1 :: l.1).length then spoil l.2 else l.2) ≤ rem e l.2 ∧ phi L (if 13 < (x.1 :: l.1).length then spoil l.2 else l.2) = phi L l.2 := by
    split
    · exact ⟨by rw [rem_spoil]; exact Nat.zero_le _, rfl⟩
    · exact ⟨Nat.le_refl _, rfl⟩
  generalize (if 13 < (x.1 :: l.1).length then spoil l.2 else l.2) = s3 at hz ⊢
  obtain ⟨q, hq, q1, q2, _⟩ := node_end (e := e) (L := L) K.match_ [] (x.1 :: l.1) s3 (by omega)
  rw [hq, Option.bind_some]
  refine ⟨_, rfl, by show rem e q.2 ≤ _; omega, ?_⟩
  have : phi L ({ q.2 with nodes := q.2.nodes.modify q.1 fun x => { x with mt := s.mts } } : RS) = phi L q.2 := by unfold phi; simp
  show phi L ({ q.2 with nodes := q.2.nodes.modify q.1 fun x => { x with mt := s.mts } } : RS) ≤ _
  omega

theorem ends_step (hL : e ≤ L) (ih : Fewer T e L m) : Ends T e L m := by
  have hA := atom_end hL ih
  have hS := atoms_end ih hA
  have hP := app_end hL ih hS
  have hVs := levels_end hL ih
  have hV := level_end hP hVs
  have hSet := set_end hL ih
  have hE := expr_end hL ih (fun s n h1 h2 h3 => hV 3 0 s n rfl h1 h2 h3) hSet
  have hR := rows_end hL ih hE
  exact ⟨hA, hS, fun k s n hk h1 h2 h3 => hV (3 - k) k s n (by omega) h1 h2 h3, hVs, hE, binding_end hL hE, hR, match_end hL hE hR⟩

end

theorem ends {L : Nat} (hL : e ≤ L) : ∀ m, Ends T e L m := by
  intro m
  induction m with
  | zero => exact ends_step hL (Or.inl rfl)
  | succ k ih => exact ends_step hL (Or.inr ⟨k, rfl, ih⟩)

theorem letters_end {L : Nat} : ∀ (l : Toks) (s : RS), phi L s + l.length < nodeCap → ∃ q, lettersP l s = some q ∧ rem e q.2 = rem e s ∧ phi L q.2 = phi L s + l.length := by
  intro l
  induction l with
  | nil => intro s _; exact ⟨_, rfl, rfl, rfl⟩
  | cons a r ih =>
    intro s h
    rw [List.length_cons] at h
    obtain ⟨z, hz, z1, z2, _⟩ := node_end (e := e) (L := L) K.var_ (a.drop 1) [] s (by omega)
    obtain ⟨q, hq, q1, q2⟩ := ih z.2 (by omega)
    rw [lettersP, hz, Option.bind_some, hq]
    exact ⟨_, rfl, by show rem e q.2 = _; omega, by rw [List.length_cons]; show phi L q.2 = _; omega⟩

theorem variants_end {L : Nat} (hL : e ≤ L) : ∀ m s n, rem e s ≤ m → phi L s + 5 < nodeCap → 3 * m + 5 ≤ n → EndR e L 1 s (variantsP T e n s) := by
  intro m
  induction m with
  | zero =>
    intro s n hr hp hn
    obtain ⟨n, rfl⟩ : ∃ k, n = k + 1 := ⟨n - 1, by omega⟩
    rw [variantsP]
    cases hb : s.bad
    · rw [cond_false]
      have hk := kindS_rem (T := T) (e := e) 99 (by decide) s L hL
      obtain ⟨l, hl, l1, l2⟩ := (types_end (T := T) hL 0).1 (kindS T e 99 s) n (by omega) (by omega) (by omega)
      obtain ⟨q, hq, q1, q2, _⟩ := node_end (e := e) (L := L) K.named_ (kindT T e 99 s) l.1 l.2 (by omega)
      rw [hl, Option.bind_some, hq, Option.bind_some]
      cases k1 : isSign T e K.bar_ q.2
      · exact ⟨_, rfl, by show rem e q.2 ≤ _; omega, by show phi L q.2 ≤ _; omega⟩
      · have h1 := sign_rem k1
        omega
    · exact ⟨_, rfl, Nat.le_refl _, Nat.le_succ _⟩
  | succ m ih =>
    intro s n hr hp hn
    obtain ⟨n, rfl⟩ : ∃ k, n = k + 1 := ⟨n - 1, by omega⟩
    rw [variantsP]
    cases hb : s.bad
    · rw [cond_false]
      have hk := kindS_rem (T := T) (e := e) 99 (by decide) s L hL
      obtain ⟨l, hl, l1, l2⟩ := (types_end (T := T) hL (m + 1)).1 (kindS T e 99 s) n (by omega) (by omega) (by omega)
      obtain ⟨q, hq, q1, q2, _⟩ := node_end (e := e) (L := L) K.named_ (kindT T e 99 s) l.1 l.2 (by omega)
      rw [hl, Option.bind_some, hq, Option.bind_some]
      cases k1 : isSign T e K.bar_ q.2
      · exact ⟨_, rfl, by show rem e q.2 ≤ _; omega, by show phi L q.2 ≤ _; omega⟩
      · have h1 := sign_rem k1
        have hh := phi_adv (L := L) (s := q.2) (by omega)
        obtain ⟨v, hv, v1, v2⟩ := ih (adv q.2) n (by omega) (by omega) (by omega)
        rw [cond_true, hv]
        exact ⟨_, rfl, by show rem e v.2 ≤ _; omega, by show phi L v.2 ≤ _; omega⟩
    · exact ⟨_, rfl, Nat.le_refl _, Nat.le_succ _⟩

/-- A declaration's reader comes to an end. -/
theorem decl_end {L : Nat} (hL : e ≤ L) (s : RS) (n : Nat) (hp : phi L s + 5 < nodeCap) (hn : 10 * rem e s + 13 ≤ n) : EndM e L 2 s (declP T e n s) := by
  have hE := ends (T := T) hL (rem e s)
  rw [declP]
  cases k1 : isSign T e K.type_ s
  · rw [cond_false]
    cases k2 : isSign T e K.do_ s
    · rw [cond_false]
      have hw := want_rem (T := T) (e := e) K.let_ s L hL
      obtain ⟨b, hb, b1, b2⟩ := hE.binding (want T e K.let_ s) n (by omega) (by omega) (by omega)
      obtain ⟨q, hq, q1, q2, _⟩ := node_end (e := e) (L := L) b.1 b.2.1 [b.2.2.1] b.2.2.2 (by omega)
      rw [hb, Option.bind_some, hq]
      exact ⟨_, rfl, by omega, by omega⟩
    · rw [cond_true]
      have h1 := sign_rem k2
      have hh := phi_adv (L := L) (s := s) (by omega)
      obtain ⟨x, hx, x1, x2⟩ := hE.expr (adv s) n (by omega) (by omega) (by omega)
      obtain ⟨q, hq, q1, q2, _⟩ := node_end (e := e) (L := L) K.do_ [] [x.1] x.2 (by omega)
      rw [hx, Option.bind_some, hq]
      exact ⟨_, rfl, by omega, by omega⟩
  · rw [cond_true]
    have h1 := sign_rem k1
    have hh := phi_adv (L := L) (s := s) (by omega)
    have hk := kindS_rem (T := T) (e := e) 110 (by decide) (adv s) L hL
    have hv := every_rem (T := T) (e := e) 108 (by decide) L hL (e - (kindS T e 110 (adv s)).pos) (kindS T e 110 (adv s))
    have hv1 : rem e (everyP T e 108 (kindS T e 110 (adv s))).2 ≤ rem e (kindS T e 110 (adv s)) := hv.1
    have hv2 : phi L (everyP T e 108 (kindS T e 110 (adv s))).2 + 3 * (everyP T e 108 (kindS T e 110 (adv s))).1.length ≤ phi L (kindS T e 110 (adv s)) := hv.2
    obtain ⟨l, hl, l1, l2⟩ := letters_end (e := e) (L := L) (everyP T e 108 (kindS T e 110 (adv s))).1 (everyP T e 108 (kindS T e 110 (adv s))).2 (by omega)
    have hw := want_rem (T := T) (e := e) K.eq_ l.2 L hL
    obtain ⟨v, hv, v1, v2⟩ := variants_end (T := T) hL (rem e s) (want T e K.eq_ l.2) n (by omega) (by omega) (by omega)
    obtain ⟨q, hq, q1, q2, _⟩ := node_end (e := e) (L := L) K.type_ (kindT T e 110 (adv s)) (l.1 ++ v.1) v.2 (by omega)
    show EndM e L 2 s ((lettersP (everyP T e 108 (kindS T e 110 (adv s))).1 (everyP T e 108 (kindS T e 110 (adv s))).2).bind fun l => (variantsP T e n (want T e K.eq_ l.2)).bind fun v => nodeP K.type_ (kindT T e 110 (adv s)) (l.1 ++ v.1) v.2)
    rw [hl, Option.bind_some, hv, Option.bind_some, hq]
    exact ⟨_, rfl, by omega, by omega⟩

end
end Go.Proofs.YtnocnkblhjifjaaGreatDoor
