import Derived.Test.YtnocnkblhjifjaaGreatDoorMRead
import Derived.Test.YtnocnkblhjifjaaGreatDoorMEnd3
import Derived.Test.YtnocnkblhjifjaaGreatDoorMWeight
/-
  Plain mathematics: the document's reader of all declarations of a text.
-/
namespace Go.Proofs.YtnocnkblhjifjaaGreatDoor
open Go.RowKit

/-- Where the declaration that begins at p ends: the next full stop, or the end. -/
def endF (T : List (List UInt8)) : Nat → Nat → Nat
  | 0, p => p
  | n + 1, p => if T.getD p [] = K.dot_ then p else endF T n (p + 1)

def endAt (T : List (List UInt8)) (p : Nat) : Nat := endF T (T.length - p) p

/-- All declarations: their nodes, or the number of the first one that has not the form. -/
def parseP (T : List (List UInt8)) (F : Nat) : Nat → RS → List Nat → Option ((List Nat × Nat × Nat) × RS)
  | 0, _, _ => none
  | n + 1, s, acc =>
    if s.pos < T.length then (declP T (endAt T s.pos) F s).bind fun q =>
      if q.2.bad = true ∨ q.2.pos ≠ endAt T s.pos ∨ endAt T s.pos = T.length then some (([], acc.length, 3), q.2) else parseP T F n (adv q.2) (acc ++ [q.1])
    else some ((acc, 0, 0), s)

theorem endF_le (T : List (List UInt8)) : ∀ n p, p + n = T.length → p ≤ endF T n p ∧ endF T n p ≤ T.length := by
  intro n
  induction n with
  | zero => intro p h; simp [endF]; omega
  | succ n ih =>
    intro p h
    rw [endF]
    split
    · omega
    · have := ih (p + 1) (by omega); omega

theorem endAt_le (T : List (List UInt8)) (p : Nat) (h : p ≤ T.length) : p ≤ endAt T p ∧ endAt T p ≤ T.length := endF_le T (T.length - p) p (by omega)

theorem endAt_stop (T : List (List UInt8)) (j : Nat) (hj : j < T.length) (h : T.getD j [] = K.dot_) : endAt T j = j := by
  unfold endAt
  obtain ⟨n, hn⟩ : ∃ n, T.length - j = n + 1 := ⟨T.length - j - 1, by omega⟩
  rw [hn, endF, if_pos h]

theorem endAt_on (T : List (List UInt8)) (j : Nat) (hj : j < T.length) (h : T.getD j [] ≠ K.dot_) : endAt T j = endAt T (j + 1) := by
  unfold endAt
  obtain ⟨n, hn⟩ : ∃ n, T.length - j = n + 1 := ⟨T.length - j - 1, by omega⟩
  rw [hn, endF, if_neg h, show T.length - (j + 1) = n by omega]

theorem endAt_end (T : List (List UInt8)) (j : Nat) (hj : T.length ≤ j) : endAt T j = j := by
  unfold endAt
  rw [show T.length - j = 0 by omega]; rfl

end Go.Proofs.YtnocnkblhjifjaaGreatDoor
/-
  Plain mathematics: all declarations of a text: what the document's reader gives is what the grammar says.
-/
namespace Go.Proofs.YtnocnkblhjifjaaGreatDoor
open Go.RowKit

/-- How many tokens stand ahead of the first full stop. -/
def stopAt : Toks → Nat
  | [] => 0
  | t :: r => if t = K.dot_ then 0 else stopAt r + 1

theorem stopAt_le : ∀ T, stopAt T ≤ T.length := by
  intro T
  induction T with
  | nil => exact Nat.le_refl _
  | cons t r ih =>
    rw [stopAt]
    split
    · exact Nat.zero_le _
    · rw [List.length_cons]; omega

/-- The trees of all declarations, or the number of the first one that has not the form. -/
def progF (F : Nat) : Nat → Toks → List Tr → List Tr × Nat × Nat
  | 0, _, acc => (acc, 0, 0)
  | n + 1, T, acc =>
    if T.length = 0 then (acc, 0, 0)
    else if stopAt T = T.length then ([], acc.length, 3)
    else match G.decl F (T.take (stopAt T)) with
      | none => ([], acc.length, 3)
      | some t => progF F n (T.drop (stopAt T + 1)) (acc ++ [t])

theorem endF_stop (T : Toks) : ∀ n p, p + n = T.length → endF T n p = p + stopAt (T.drop p) := by
  intro n
  induction n with
  | zero =>
    intro p h
    rw [endF, List.drop_of_length_le (by omega)]
    rfl
  | succ n ih =>
    intro p h
    rw [endF]
    have hp : p < T.length := by omega
    rw [List.drop_eq_getElem_cons hp, stopAt]
    have hg : T.getD p [] = T[p] := by simp [List.getD_eq_getElem?_getD, hp]
    rw [hg]
    split
    · rfl
    · rw [ih (p + 1) (by omega)]; omega

theorem endAt_stopAt (T : Toks) (p : Nat) (h : p ≤ T.length) : endAt T p = p + stopAt (T.drop p) := endF_stop T (T.length - p) p (by omega)

theorem Rep.Reps.length {ns : List NodeP} : ∀ {l : List Nat} {ts : List Tr}, Rep.Reps ns l ts → l.length = ts.length := by
  intro l
  induction l with
  | nil => intro ts h; rw [h.unnil]; rfl
  | cons a r ih => intro ts h; obtain ⟨t, ts, rfl, h, hr⟩ := h.uncons; rw [List.length_cons, List.length_cons, ih hr]

theorem parse_law (T : Toks) (F : Nat) : ∀ (n : Nat) (s : RS) (acc : List Nat) (tacc : List Tr) (R : List Nat × Nat × Nat) (s' : RS), s.bad = false → s.pos ≤ T.length → Rep.Reps s.nodes acc tacc → parseP T F n s acc = some (R, s') →
    R.2 = (progF F n (T.drop s.pos) tacc).2 ∧ Rep.Reps s'.nodes R.1 (progF F n (T.drop s.pos) tacc).1 := by
  intro n
  induction n with
  | zero => intro s acc tacc R s' _ _ _ h; simp [parseP] at h
  | succ n ih =>
    intro s acc tacc R s' hb hp hR h
    rw [parseP] at h
    rw [progF]
    by_cases hlt : s.pos < T.length
    · rw [if_pos hlt, Option.bind_eq_some_iff] at h
      obtain ⟨q, hq, h⟩ := h
      have hE := endAt_stopAt T s.pos hp
      have hsl := stopAt_le (T.drop s.pos)
      have hdl : (T.drop s.pos).length = T.length - s.pos := List.length_drop ..
      rw [if_neg (by omega)]
      have hA : At T (endAt T s.pos) s ((T.take (endAt T s.pos)).drop s.pos) := ⟨hb, by omega, by omega, rfl⟩
      have htk : (T.take (endAt T s.pos)).drop s.pos = (T.drop s.pos).take (stopAt (T.drop s.pos)) := by
        rw [List.drop_take, hE, Nat.add_sub_cancel_left]
      have hlen := hR.length
      rcases decl_law hA hq with ⟨h1, h2⟩ | ⟨t, h1, h2, h3, h4, h5⟩
      · have hc : q.2.bad = true ∨ q.2.pos ≠ endAt T s.pos ∨ endAt T s.pos = T.length := by
          rcases h2 with h2 | h2
          · exact Or.inl h2
          · exact Or.inr (Or.inl h2)
        rw [if_pos hc] at h
        have hx := Option.some.inj h
        have hx1 : R = ([], acc.length, 3) := (congrArg Prod.fst hx).symm
        subst hx1
        rw [htk] at h1
        rw [h1]
        split
        · exact ⟨by show (acc.length, 3) = (tacc.length, 3); rw [hlen], .nil⟩
        · exact ⟨by show (acc.length, 3) = (tacc.length, 3); rw [hlen], .nil⟩
      · by_cases he : endAt T s.pos = T.length
        · rw [if_pos (Or.inr (Or.inr he))] at h
          have hx := Option.some.inj h
          have hx1 : R = ([], acc.length, 3) := (congrArg Prod.fst hx).symm
          subst hx1
          rw [if_pos (by omega)]
          exact ⟨by show (acc.length, 3) = (tacc.length, 3); rw [hlen], .nil⟩
        · rw [if_neg (by rw [h2]; simp [h3, he])] at h
          rw [if_neg (by omega)]
          rw [htk] at h1
          rw [h1]
          have hrec := ih (adv q.2) (acc ++ [q.1]) (tacc ++ [t]) R s' h2 (by show q.2.pos + 1 ≤ _; omega) (reps_append (hR.ext h4) (.cons h5 .nil)) h
          have hdr : T.drop (adv q.2).pos = (T.drop s.pos).drop (stopAt (T.drop s.pos) + 1) := by
            show T.drop (q.2.pos + 1) = _
            rw [List.drop_drop, h3, hE]
            congr 1
          rw [hdr] at hrec
          exact hrec
    · rw [if_neg hlt] at h
      have hx := Option.some.inj h
      have hx1 : R = (acc, 0, 0) := (congrArg Prod.fst hx).symm
      have hx2 : s' = s := (congrArg Prod.snd hx).symm
      subst hx1
      subst hx2
      rw [if_pos (by rw [List.length_drop]; omega)]
      exact ⟨rfl, hR⟩

theorem parse_end (T : Toks) (F : Nat) (hF : 10 * T.length + 13 ≤ F) : ∀ (n : Nat) (s : RS) (acc : List Nat), s.bad = false → s.pos ≤ T.length → T.length < s.pos + n → phi T.length s + 5 < nodeCap → ∃ R s', parseP T F n s acc = some (R, s') ∧ phi T.length s' ≤ phi T.length s + 2 := by
  intro n
  induction n with
  | zero => intro s acc _ h1 h2; omega
  | succ n ih =>
    intro s acc hb hp hn hphi
    rw [parseP]
    by_cases hlt : s.pos < T.length
    · rw [if_pos hlt]
      have hle := endAt_le T s.pos hp
      have hrem : rem (endAt T s.pos) s ≤ T.length := by unfold rem; rw [if_neg (by rw [hb]; simp)]; omega
      obtain ⟨q, hq, q1, q2⟩ := decl_end (T := T) hle.2 s F hphi (by omega)
      rw [hq, Option.bind_some]
      by_cases hc : q.2.bad = true ∨ q.2.pos ≠ endAt T s.pos ∨ endAt T s.pos = T.length
      · rw [if_pos hc]
        exact ⟨_, _, rfl, q2⟩
      · rw [if_neg hc]
        have hc1 : q.2.bad = false := by
          cases h : q.2.bad
          · rfl
          · exact absurd (Or.inl h) hc
        have hc2 : q.2.pos = endAt T s.pos := by
          by_cases h : q.2.pos = endAt T s.pos
          · exact h
          · exact absurd (Or.inr (Or.inl h)) hc
        have hc3 : ¬ endAt T s.pos = T.length := fun h => hc (Or.inr (Or.inr h))
        have ha := phi_adv (L := T.length) (s := q.2) (by omega)
        obtain ⟨R, s', h1, h2⟩ := ih (adv q.2) (acc ++ [q.1]) hc1 (by show q.2.pos + 1 ≤ _; omega) (by show _ < q.2.pos + 1 + n; omega) (by omega)
        exact ⟨R, s', h1, by omega⟩
    · rw [if_neg hlt]
      exact ⟨_, _, rfl, by omega⟩

theorem wt_take (k : Nat) : ∀ T, wt (T.take k) ≤ wt T := by
  induction k with
  | zero => intro T; rw [List.take_zero]; exact Nat.zero_le _
  | succ k ih =>
    intro T
    cases T with
    | nil => exact Nat.le_refl _
    | cons t r => rw [List.take_succ_cons, wt, wt]; have := ih r; omega

theorem wt_drop (k : Nat) : ∀ T, wt (T.drop k) ≤ wt T := by
  induction k with
  | zero => intro T; exact Nat.le_refl _
  | succ k ih =>
    intro T
    cases T with
    | nil => exact Nat.le_refl _
    | cons t r => rw [List.drop_succ_cons, wt]; have := ih r; omega

theorem progF_w (F : Nat) : ∀ (n : Nat) (T : Toks) (acc : List Tr) (t : Tr), t ∈ (progF F n T acc).1 → t ∈ acc ∨ mu t ≤ wt T := by
  intro n
  induction n with
  | zero => intro T acc t h; exact Or.inl h
  | succ n ih =>
    intro T acc t h
    rw [progF] at h
    split at h
    · exact Or.inl h
    · split at h
      · cases h
      · split at h
        · cases h
        · rename_i t1 ht1
          rcases ih _ _ _ h with h | h
          · rcases List.mem_append.1 h with h | h
            · exact Or.inl h
            · rw [List.mem_singleton.1 h]
              have h1 := decl_w ht1
              have h2 := wt_take (stopAt T) T
              exact Or.inr (by omega)
          · have h2 := wt_drop (stopAt T + 1) T
            exact Or.inr (by omega)

/-- What Trees is to answer, of the tokens. -/
def progL (T : Toks) : List Tr × Nat × Nat := progF (10 * T.length + 13) (T.length + 1) T []

theorem reps_text {ns : List NodeP} : ∀ {l : List Nat} {ts : List Tr}, Rep.Reps ns l ts → l.map (textP ns ns.length) = ts.map Tr.text := by
  intro l
  induction l with
  | nil => intro ts h; rw [h.unnil]; rfl
  | cons a r ih =>
    intro ts h
    obtain ⟨t, ts, rfl, h, hr⟩ := h.uncons
    rw [List.map_cons, List.map_cons, ih hr, h.text _ h.lt]

theorem reps_all {ns : List NodeP} : ∀ {l : List Nat} {ts : List Tr}, Rep.Reps ns l ts → ∀ i ∈ l, ∃ t ∈ ts, Rep ns i t := by
  intro l
  induction l with
  | nil => intro ts h i hi; cases hi
  | cons a r ih =>
    intro ts h i hi
    obtain ⟨t, ts, rfl, h, hr⟩ := h.uncons
    rcases List.mem_cons.1 hi with rfl | hi
    · exact ⟨_, List.mem_cons_self .., h⟩
    · obtain ⟨t, ht, hrt⟩ := ih hr i hi
      exact ⟨t, List.mem_cons_of_mem _ ht, hrt⟩

/-- All that the walk of kilnref.Trees asks for. -/
theorem trees_plain (T : Toks) (hT : T.length ≤ 4000) (hw : wt T ≤ 9223372036854775807) : ∃ (R : List Nat × Nat × Nat) (s' : RS) (P : Nat → Prop),
    parseP T (10 * T.length + 13) (T.length + 1) ⟨0, false, [], 0⟩ [] = some (R, s') ∧ Wf P s'.nodes ∧ (∀ i ∈ R.1, P i) ∧ s'.nodes.length ≤ 1000000 ∧ (∀ i ∈ R.1, i < s'.nodes.length) ∧ (∀ i ∈ R.1, (textP s'.nodes s'.nodes.length i).length ≤ 9223372036854775807) ∧
    R.2 = (progL T).2 ∧ R.1.map (textP s'.nodes s'.nodes.length) = (progL T).1.map Tr.text := by
  have hphi : phi T.length ⟨0, false, [], 0⟩ = 3 * T.length := by simp [phi]
  obtain ⟨R, s', h1, h2⟩ := parse_end T (10 * T.length + 13) (Nat.le_refl _) (T.length + 1) ⟨0, false, [], 0⟩ [] rfl (Nat.zero_le _) (by show _ < 0 + (T.length + 1); omega) (by rw [hphi]; unfold nodeCap; omega)
  obtain ⟨h3, h4⟩ := parse_law T (10 * T.length + 13) (T.length + 1) ⟨0, false, [], 0⟩ [] [] R s' rfl (Nat.zero_le _) .nil h1
  have h4 : Rep.Reps s'.nodes R.1 (progL T).1 := h4
  refine ⟨R, s', fun i => ∃ t, Rep s'.nodes i t, h1, ?_, ?_, ?_, h4.lt, ?_, h3, reps_text h4⟩
  · rintro i x ⟨t, ht⟩ hx p hp
    obtain ⟨is, nm, ts⟩ := t
    obtain ⟨parts, mt, h, hpp, hr⟩ := ht.inv
    rw [h] at hx
    obtain rfl := Option.some.inj hx
    obtain ⟨t, _, ht⟩ := reps_all hr p hp
    exact ⟨hpp p hp, t, ht⟩
  · intro i hi
    obtain ⟨t, _, ht⟩ := reps_all h4 i hi
    exact ⟨t, ht⟩
  · unfold phi at h2; rw [show (⟨0, false, [], 0⟩ : RS).nodes.length = 0 from rfl] at h2; omega
  · intro i hi
    obtain ⟨t, hm, ht⟩ := reps_all h4 i hi
    rw [ht.text _ ht.lt]
    rcases progF_w _ _ _ _ _ hm with h | h
    · cases h
    · unfold mu at h; omega

/-- Deep enough is as deep as one likes. -/
theorem decl_settled {n F : Nat} {ts : Toks} {t : Tr} (h : G.decl n ts = some t) (hl : ts.length ≤ 4000) (hF : 10 * ts.length + 13 ≤ F) : G.decl F ts = some t := by
  have hphi : phi ts.length ⟨0, false, [], 0⟩ = 3 * ts.length := by simp [phi]
  obtain ⟨q, hq, _, _⟩ := decl_end (T := ts) (e := ts.length) (Nat.le_refl _) ⟨0, false, [], 0⟩ F (by rw [hphi]; unfold nodeCap; omega) (by
    show 10 * rem ts.length ⟨0, false, [], 0⟩ + 13 ≤ F
    have : rem ts.length ⟨0, false, [], 0⟩ = ts.length := by simp [rem]
    omega)
  exact decl_exact (T := ts) (e := ts.length) (s := ⟨0, false, [], 0⟩) ⟨rfl, Nat.zero_le _, Nat.le_refl _, by simp⟩ hq h

end Go.Proofs.YtnocnkblhjifjaaGreatDoor
