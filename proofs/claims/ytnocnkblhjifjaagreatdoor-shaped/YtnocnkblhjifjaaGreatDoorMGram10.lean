import Derived.Test.YtnocnkblhjifjaaGreatDoorMGram8
/-
  Plain mathematics: deeper is no other: where the document's reader, or the grammar, answers at one depth, it answers the same at the next.
-/
namespace Go.Proofs.YtnocnkblhjifjaaGreatDoor
open Go.RowKit

/-- Where a answers, b answers the same. -/
def Le {α : Type} (a b : Option α) : Prop := ∀ x, a = some x → b = some x

theorem Le.refl {α : Type} (a : Option α) : Le a a := fun _ h => h
theorem Le.none {α : Type} (b : Option α) : Le none b := fun _ h => by cases h
theorem Le.bind {α β : Type} {a b : Option α} {f g : α → Option β} (h : Le a b) (hf : ∀ x, Le (f x) (g x)) : Le (a.bind f) (b.bind g) := by
  intro x hx
  rw [Option.bind_eq_some_iff] at hx ⊢
  obtain ⟨y, hy, hx⟩ := hx
  exact ⟨y, h y hy, hf y x hx⟩
theorem Le.cond {α : Type} {a b c d : Option α} (t : Bool) (h1 : Le a b) (h2 : Le c d) : Le (bif t then a else c) (bif t then b else d) := by cases t <;> assumption
theorem Le.ite {α : Type} {a b c d : Option α} (p : Prop) [Decidable p] (h1 : Le a b) (h2 : Le c d) : Le (if p then a else c) (if p then b else d) := by split <;> assumption

section
variable (T : Toks) (e : Nat)

theorem types_mono : ∀ n, (∀ s, Le (atypesP T e n s) (atypesP T e (n + 1) s)) ∧ (∀ s, Le (atypesP.typ1P T e n s) (atypesP.typ1P T e (n + 1) s)) ∧ (∀ s, Le (atypesP.typP T e n s) (atypesP.typP T e (n + 1) s)) := by
  intro n
  induction n with
  | zero => exact ⟨fun s => Le.none _, fun s => Le.none _, fun s => Le.none _⟩
  | succ n ih =>
    obtain ⟨i1, i2, i3⟩ := ih
    refine ⟨fun s => ?_, fun s => ?_, fun s => ?_⟩
    · rw [atypesP.eq_2 T e s n, atypesP.eq_2 T e s (n + 1)]
      repeat' first | exact Le.refl _ | exact i1 _ | exact i2 _ | exact i3 _ | apply Le.cond | refine Le.bind ?_ (fun _ => ?_)
    · rw [atypesP.typ1P.eq_2 T e s n, atypesP.typ1P.eq_2 T e s (n + 1)]
      repeat' first | exact Le.refl _ | exact i1 _ | exact i2 _ | exact i3 _ | apply Le.cond | refine Le.bind ?_ (fun _ => ?_)
    · rw [atypesP.typP.eq_2 T e s n, atypesP.typP.eq_2 T e s (n + 1)]
      repeat' first | exact Le.refl _ | exact i1 _ | exact i2 _ | exact i3 _ | apply Le.cond | refine Le.bind ?_ (fun _ => ?_)

theorem patterns_mono : ∀ n, (∀ s, Le (patternP T e n s) (patternP T e (n + 1) s)) ∧ (∀ s, Le (patternP.apatternsP T e n s) (patternP.apatternsP T e (n + 1) s)) ∧ (∀ s, Le (patternP.apatternP T e n s) (patternP.apatternP T e (n + 1) s)) := by
  intro n
  induction n with
  | zero => exact ⟨fun s => Le.none _, fun s => Le.none _, fun s => Le.none _⟩
  | succ n ih =>
    obtain ⟨i1, i2, i3⟩ := ih
    refine ⟨fun s => ?_, fun s => ?_, fun s => ?_⟩
    · rw [patternP.eq_2 T e s n, patternP.eq_2 T e s (n + 1)]
      repeat' first | exact Le.refl _ | exact i1 _ | exact i2 _ | exact i3 _ | apply Le.cond | apply Le.ite | refine Le.bind ?_ (fun _ => ?_)
    · rw [patternP.apatternsP.eq_2 T e s n, patternP.apatternsP.eq_2 T e s (n + 1)]
      repeat' first | exact Le.refl _ | exact i1 _ | exact i2 _ | exact i3 _ | apply Le.cond | apply Le.ite | refine Le.bind ?_ (fun _ => ?_)
    · rw [patternP.apatternP.eq_2 T e s n, patternP.apatternP.eq_2 T e s (n + 1)]
      repeat' first | exact Le.refl _ | exact i1 _ | exact i2 _ | exact i3 _ | apply Le.cond | apply Le.ite | refine Le.bind ?_ (fun _ => ?_)

theorem exprs_mono : ∀ n, (∀ s, Le (bindingP T e n s) (bindingP T e (n + 1) s)) ∧ (∀ s, Le (bindingP.exprP T e n s) (bindingP.exprP T e (n + 1) s)) ∧ (∀ a s, Le (bindingP.setP T e n a s) (bindingP.setP T e (n + 1) a s)) ∧ (∀ k s, Le (bindingP.levelP T e n k s) (bindingP.levelP T e (n + 1) k s)) ∧ (∀ k a s, Le (bindingP.levelsP T e n k a s) (bindingP.levelsP T e (n + 1) k a s)) ∧ (∀ s, Le (bindingP.appP T e n s) (bindingP.appP T e (n + 1) s)) ∧ (∀ s, Le (bindingP.atomsP T e n s) (bindingP.atomsP T e (n + 1) s)) ∧ (∀ s, Le (bindingP.atomP T e n s) (bindingP.atomP T e (n + 1) s)) ∧ (∀ s, Le (bindingP.matchP T e n s) (bindingP.matchP T e (n + 1) s)) ∧ (∀ s, Le (bindingP.rowsP T e n s) (bindingP.rowsP T e (n + 1) s)) := by
  intro n
  induction n with
  | zero => exact ⟨fun s x h => by simp [bindingP] at h, fun s x h => by simp [bindingP.exprP] at h, fun a s x h => by simp [bindingP.setP] at h, fun k s x h => by simp [bindingP.levelP] at h, fun k a s x h => by simp [bindingP.levelsP] at h, fun s x h => by simp [bindingP.appP] at h, fun s x h => by simp [bindingP.atomsP] at h, fun s x h => by simp [bindingP.atomP] at h, fun s x h => by simp [bindingP.matchP] at h, fun s x h => by simp [bindingP.rowsP] at h⟩
  | succ n ih =>
    obtain ⟨i1, i2, j0, i4, i5, i6, i7, i8, i9, i3⟩ := ih
    have patP := (patterns_mono T e n).1
    refine ⟨fun s => ?_, fun s => ?_, fun a s => ?_, fun k s => ?_, fun k a s => ?_, fun s => ?_, fun s => ?_, fun s => ?_, fun s => ?_, fun s => ?_⟩
    · rw [bindingP.eq_2 T e s n, bindingP.eq_2 T e s (n + 1)]
      repeat' first | exact Le.refl _ | exact i1 _ | exact i2 _ | exact i3 _ | exact i4 _ _ | exact i5 _ _ _ | exact i6 _ | exact i7 _ | exact i8 _ | exact i9 _ | exact j0 _ _ | exact patP _ | apply Le.cond | apply Le.ite | refine Le.bind ?_ (fun _ => ?_)
    · rw [bindingP.exprP.eq_2 T e s n, bindingP.exprP.eq_2 T e s (n + 1)]
      repeat' first | exact Le.refl _ | exact i1 _ | exact i2 _ | exact i3 _ | exact i4 _ _ | exact i5 _ _ _ | exact i6 _ | exact i7 _ | exact i8 _ | exact i9 _ | exact j0 _ _ | exact patP _ | apply Le.cond | apply Le.ite | refine Le.bind ?_ (fun _ => ?_)
    · rw [bindingP.setP.eq_2 T e a s n, bindingP.setP.eq_2 T e a s (n + 1)]
      repeat' first | exact Le.refl _ | exact i1 _ | exact i2 _ | exact i3 _ | exact i4 _ _ | exact i5 _ _ _ | exact i6 _ | exact i7 _ | exact i8 _ | exact i9 _ | exact j0 _ _ | exact patP _ | apply Le.cond | apply Le.ite | refine Le.bind ?_ (fun _ => ?_)
    · rw [bindingP.levelP.eq_2 T e k s n, bindingP.levelP.eq_2 T e k s (n + 1)]
      repeat' first | exact Le.refl _ | exact i1 _ | exact i2 _ | exact i3 _ | exact i4 _ _ | exact i5 _ _ _ | exact i6 _ | exact i7 _ | exact i8 _ | exact i9 _ | exact j0 _ _ | exact patP _ | apply Le.cond | apply Le.ite | refine Le.bind ?_ (fun _ => ?_)
    · rw [bindingP.levelsP.eq_2 T e k a s n, bindingP.levelsP.eq_2 T e k a s (n + 1)]
      repeat' first | exact Le.refl _ | exact i1 _ | exact i2 _ | exact i3 _ | exact i4 _ _ | exact i5 _ _ _ | exact i6 _ | exact i7 _ | exact i8 _ | exact i9 _ | exact j0 _ _ | exact patP _ | apply Le.cond | apply Le.ite | refine Le.bind ?_ (fun _ => ?_)
    · rw [bindingP.appP.eq_2 T e s n, bindingP.appP.eq_2 T e s (n + 1)]
      repeat' first | exact Le.refl _ | exact i1 _ | exact i2 _ | exact i3 _ | exact i4 _ _ | exact i5 _ _ _ | exact i6 _ | exact i7 _ | exact i8 _ | exact i9 _ | exact j0 _ _ | exact patP _ | apply Le.cond | apply Le.ite | refine Le.bind ?_ (fun _ => ?_)
    · rw [bindingP.atomsP.eq_2 T e s n, bindingP.atomsP.eq_2 T e s (n + 1)]
      repeat' first | exact Le.refl _ | exact i1 _ | exact i2 _ | exact i3 _ | exact i4 _ _ | exact i5 _ _ _ | exact i6 _ | exact i7 _ | exact i8 _ | exact i9 _ | exact j0 _ _ | exact patP _ | apply Le.cond | apply Le.ite | refine Le.bind ?_ (fun _ => ?_)
    · rw [bindingP.atomP.eq_2 T e s n, bindingP.atomP.eq_2 T e s (n + 1)]
      repeat' first | exact Le.refl _ | exact i1 _ | exact i2 _ | exact i3 _ | exact i4 _ _ | exact i5 _ _ _ | exact i6 _ | exact i7 _ | exact i8 _ | exact i9 _ | exact j0 _ _ | exact patP _ | apply Le.cond | apply Le.ite | refine Le.bind ?_ (fun _ => ?_)
    · rw [bindingP.matchP.eq_2 T e s n, bindingP.matchP.eq_2 T e s (n + 1)]
      repeat' first | exact Le.refl _ | exact i1 _ | exact i2 _ | exact i3 _ | exact i4 _ _ | exact i5 _ _ _ | exact i6 _ | exact i7 _ | exact i8 _ | exact i9 _ | exact j0 _ _ | exact patP _ | apply Le.cond | apply Le.ite | refine Le.bind ?_ (fun _ => ?_)
    · rw [bindingP.rowsP.eq_2 T e s n, bindingP.rowsP.eq_2 T e s (n + 1)]
      repeat' first | exact Le.refl _ | exact i1 _ | exact i2 _ | exact i3 _ | exact i4 _ _ | exact i5 _ _ _ | exact i6 _ | exact i7 _ | exact i8 _ | exact i9 _ | exact j0 _ _ | exact patP _ | apply Le.cond | apply Le.ite | refine Le.bind ?_ (fun _ => ?_)
end
end Go.Proofs.YtnocnkblhjifjaaGreatDoor
/-
  Plain mathematics: deeper is no other: the grammar.
-/
namespace Go.Proofs.YtnocnkblhjifjaaGreatDoor
open Go.RowKit

theorem gtypes_mono : ∀ n, (∀ ts, Le (G.atypes n ts) (G.atypes (n + 1) ts)) ∧ (∀ ts, Le (G.atypes.typ1 n ts) (G.atypes.typ1 (n + 1) ts)) ∧ (∀ ts, Le (G.atypes.typ n ts) (G.atypes.typ (n + 1) ts)) := by
  intro n
  induction n with
  | zero => exact ⟨fun s x h => by simp [G.atypes] at h, fun s x h => by simp [G.atypes.typ1] at h, fun s x h => by simp [G.atypes.typ] at h⟩
  | succ n ih =>
    obtain ⟨i1, i2, i3⟩ := ih
    refine ⟨fun s => ?_, fun s => ?_, fun s => ?_⟩
    · rw [G.atypes.eq_2 s n, G.atypes.eq_2 s (n + 1)]
      repeat' first | exact Le.refl _ | exact i1 _ | exact i2 _ | exact i3 _ | apply Le.cond | apply Le.ite | refine Le.bind ?_ (fun _ => ?_) | split
    · rw [G.atypes.typ1.eq_2 s n, G.atypes.typ1.eq_2 s (n + 1)]
      repeat' first | exact Le.refl _ | exact i1 _ | exact i2 _ | exact i3 _ | apply Le.cond | apply Le.ite | refine Le.bind ?_ (fun _ => ?_) | split
    · rw [G.atypes.typ.eq_2 s n, G.atypes.typ.eq_2 s (n + 1)]
      repeat' first | exact Le.refl _ | exact i1 _ | exact i2 _ | exact i3 _ | apply Le.cond | apply Le.ite | refine Le.bind ?_ (fun _ => ?_) | split

theorem gpatterns_mono : ∀ n, (∀ ts, Le (G.pattern n ts) (G.pattern (n + 1) ts)) ∧ (∀ ts, Le (G.pattern.apatterns n ts) (G.pattern.apatterns (n + 1) ts)) ∧ (∀ ts, Le (G.pattern.apattern n ts) (G.pattern.apattern (n + 1) ts)) := by
  intro n
  induction n with
  | zero => exact ⟨fun s x h => by simp [G.pattern] at h, fun s x h => by simp [G.pattern.apatterns] at h, fun s x h => by simp [G.pattern.apattern] at h⟩
  | succ n ih =>
    obtain ⟨i1, i2, i3⟩ := ih
    refine ⟨fun s => ?_, fun s => ?_, fun s => ?_⟩
    · rw [G.pattern.eq_2 s n, G.pattern.eq_2 s (n + 1)]
      repeat' first | exact Le.refl _ | exact i1 _ | exact i2 _ | exact i3 _ | apply Le.cond | apply Le.ite | refine Le.bind ?_ (fun _ => ?_) | split
    · rw [G.pattern.apatterns.eq_2 s n, G.pattern.apatterns.eq_2 s (n + 1)]
      repeat' first | exact Le.refl _ | exact i1 _ | exact i2 _ | exact i3 _ | apply Le.cond | apply Le.ite | refine Le.bind ?_ (fun _ => ?_) | split
    · rw [G.pattern.apattern.eq_2 s n, G.pattern.apattern.eq_2 s (n + 1)]
      repeat' first | exact Le.refl _ | exact i1 _ | exact i2 _ | exact i3 _ | apply Le.cond | apply Le.ite | refine Le.bind ?_ (fun _ => ?_) | split

theorem gexprs_mono : ∀ n, (∀ s, Le (G.binding n s) (G.binding (n + 1) s)) ∧ (∀ s, Le (G.binding.expr n s) (G.binding.expr (n + 1) s)) ∧ (∀ a s, Le (G.binding.set n a s) (G.binding.set (n + 1) a s)) ∧ (∀ k s, Le (G.binding.level n k s) (G.binding.level (n + 1) k s)) ∧ (∀ k a s, Le (G.binding.levels n k a s) (G.binding.levels (n + 1) k a s)) ∧ (∀ s, Le (G.binding.app n s) (G.binding.app (n + 1) s)) ∧ (∀ s, Le (G.binding.atoms n s) (G.binding.atoms (n + 1) s)) ∧ (∀ s, Le (G.binding.atom n s) (G.binding.atom (n + 1) s)) ∧ (∀ s, Le (G.binding.matches_ n s) (G.binding.matches_ (n + 1) s)) ∧ (∀ s, Le (G.binding.rows n s) (G.binding.rows (n + 1) s)) := by
  intro n
  induction n with
  | zero => exact ⟨fun s x h => by simp [G.binding] at h, fun s x h => by simp [G.binding.expr] at h, fun a s x h => by simp [G.binding.set] at h, fun k s x h => by simp [G.binding.level] at h, fun k a s x h => by simp [G.binding.levels] at h, fun s x h => by simp [G.binding.app] at h, fun s x h => by simp [G.binding.atoms] at h, fun s x h => by simp [G.binding.atom] at h, fun s x h => by simp [G.binding.matches_] at h, fun s x h => by simp [G.binding.rows] at h⟩
  | succ n ih =>
    obtain ⟨i1, i2, j0, i4, i5, i6, i7, i8, i9, i3⟩ := ih
    have patP := (gpatterns_mono n).1
    refine ⟨fun s => ?_, fun s => ?_, fun a s => ?_, fun k s => ?_, fun k a s => ?_, fun s => ?_, fun s => ?_, fun s => ?_, fun s => ?_, fun s => ?_⟩
    · rw [G.binding.eq_2 s n, G.binding.eq_2 s (n + 1)]
      repeat' first | exact Le.refl _ | exact i1 _ | exact i2 _ | exact i3 _ | exact i4 _ _ | exact i5 _ _ _ | exact i6 _ | exact i7 _ | exact i8 _ | exact i9 _ | exact j0 _ _ | exact patP _ | apply Le.cond | apply Le.ite | refine Le.bind ?_ (fun _ => ?_) | split
    · rw [G.binding.expr.eq_2 s n, G.binding.expr.eq_2 s (n + 1)]
      repeat' first | exact Le.refl _ | exact i1 _ | exact i2 _ | exact i3 _ | exact i4 _ _ | exact i5 _ _ _ | exact i6 _ | exact i7 _ | exact i8 _ | exact i9 _ | exact j0 _ _ | exact patP _ | apply Le.cond | apply Le.ite | refine Le.bind ?_ (fun _ => ?_) | split
    · rw [G.binding.set.eq_2 a s n, G.binding.set.eq_2 a s (n + 1)]
      repeat' first | exact Le.refl _ | exact i1 _ | exact i2 _ | exact i3 _ | exact i4 _ _ | exact i5 _ _ _ | exact i6 _ | exact i7 _ | exact i8 _ | exact i9 _ | exact j0 _ _ | exact patP _ | apply Le.cond | apply Le.ite | refine Le.bind ?_ (fun _ => ?_) | split
    · rw [G.binding.level.eq_2 k s n, G.binding.level.eq_2 k s (n + 1)]
      repeat' first | exact Le.refl _ | exact i1 _ | exact i2 _ | exact i3 _ | exact i4 _ _ | exact i5 _ _ _ | exact i6 _ | exact i7 _ | exact i8 _ | exact i9 _ | exact j0 _ _ | exact patP _ | apply Le.cond | apply Le.ite | refine Le.bind ?_ (fun _ => ?_) | split
    · rw [G.binding.levels.eq_2 k a s n, G.binding.levels.eq_2 k a s (n + 1)]
      repeat' first | exact Le.refl _ | exact i1 _ | exact i2 _ | exact i3 _ | exact i4 _ _ | exact i5 _ _ _ | exact i6 _ | exact i7 _ | exact i8 _ | exact i9 _ | exact j0 _ _ | exact patP _ | apply Le.cond | apply Le.ite | refine Le.bind ?_ (fun _ => ?_) | split
    · rw [G.binding.app.eq_2 s n, G.binding.app.eq_2 s (n + 1)]
      repeat' first | exact Le.refl _ | exact i1 _ | exact i2 _ | exact i3 _ | exact i4 _ _ | exact i5 _ _ _ | exact i6 _ | exact i7 _ | exact i8 _ | exact i9 _ | exact j0 _ _ | exact patP _ | apply Le.cond | apply Le.ite | refine Le.bind ?_ (fun _ => ?_) | split
    · rw [G.binding.atoms.eq_2 s n, G.binding.atoms.eq_2 s (n + 1)]
      repeat' first | exact Le.refl _ | exact i1 _ | exact i2 _ | exact i3 _ | exact i4 _ _ | exact i5 _ _ _ | exact i6 _ | exact i7 _ | exact i8 _ | exact i9 _ | exact j0 _ _ | exact patP _ | apply Le.cond | apply Le.ite | refine Le.bind ?_ (fun _ => ?_) | split
    · rw [G.binding.atom.eq_2 s n, G.binding.atom.eq_2 s (n + 1)]
      repeat' first | exact Le.refl _ | exact i1 _ | exact i2 _ | exact i3 _ | exact i4 _ _ | exact i5 _ _ _ | exact i6 _ | exact i7 _ | exact i8 _ | exact i9 _ | exact j0 _ _ | exact patP _ | apply Le.cond | apply Le.ite | refine Le.bind ?_ (fun _ => ?_) | split
    · rw [G.binding.matches_.eq_2 s n, G.binding.matches_.eq_2 s (n + 1)]
      repeat' first | exact Le.refl _ | exact i1 _ | exact i2 _ | exact i3 _ | exact i4 _ _ | exact i5 _ _ _ | exact i6 _ | exact i7 _ | exact i8 _ | exact i9 _ | exact j0 _ _ | exact patP _ | apply Le.cond | apply Le.ite | refine Le.bind ?_ (fun _ => ?_) | split
    · rw [G.binding.rows.eq_2 s n, G.binding.rows.eq_2 s (n + 1)]
      repeat' first | exact Le.refl _ | exact i1 _ | exact i2 _ | exact i3 _ | exact i4 _ _ | exact i5 _ _ _ | exact i6 _ | exact i7 _ | exact i8 _ | exact i9 _ | exact j0 _ _ | exact patP _ | apply Le.cond | apply Le.ite | refine Le.bind ?_ (fun _ => ?_) | split

end Go.Proofs.YtnocnkblhjifjaaGreatDoor
/-
  Plain mathematics: what the document's reader says of a declaration at one depth, the grammar says at every depth that is enough.
-/
namespace Go.Proofs.YtnocnkblhjifjaaGreatDoor
open Go.RowKit

theorem le_up {α : Type} {f : Nat → Option α} (h : ∀ n, Le (f n) (f (n + 1))) : ∀ {m n : Nat}, m ≤ n → Le (f m) (f n) := by
  intro m n hmn
  induction n with
  | zero => have : m = 0 := by omega
            subst this; exact Le.refl _
  | succ n ih =>
    by_cases hm : m = n + 1
    · subst hm; exact Le.refl _
    · exact fun x hx => h n x (ih (by omega) x hx)

theorem variants_mono (T : Toks) (e : Nat) : ∀ n s, Le (variantsP T e n s) (variantsP T e (n + 1) s) := by
  intro n
  induction n with
  | zero => intro s x h; simp [variantsP] at h
  | succ n ih =>
    intro s
    have i1 := (types_mono T e n).1
    rw [variantsP.eq_2 T e s n, variantsP.eq_2 T e s (n + 1)]
    repeat' first | exact Le.refl _ | exact ih _ | exact i1 _ | apply Le.cond | refine Le.bind ?_ (fun _ => ?_)

theorem gvariants_mono : ∀ n ts, Le (G.variants n ts) (G.variants (n + 1) ts) := by
  intro n
  induction n with
  | zero => intro s x h; simp [G.variants] at h
  | succ n ih =>
    intro s
    have i1 := (gtypes_mono n).1
    rw [G.variants.eq_2 s n, G.variants.eq_2 s (n + 1)]
    repeat' first | exact Le.refl _ | exact ih _ | exact i1 _ | apply Le.cond | refine Le.bind ?_ (fun _ => ?_)

theorem decl_mono (T : Toks) (e : Nat) (s : RS) (n : Nat) : Le (declP T e n s) (declP T e (n + 1) s) := by
  have i1 := (exprs_mono T e n).1
  have i2 := (exprs_mono T e n).2.1
  have i3 := variants_mono T e n
  unfold declP
  repeat' first | exact Le.refl _ | exact i1 _ | exact i2 _ | exact i3 _ | apply Le.cond | refine Le.bind ?_ (fun _ => ?_)

theorem gdecl_mono (ts : Toks) (n : Nat) : Le (G.decl n ts) (G.decl (n + 1) ts) := by
  have i1 := (gexprs_mono n).1
  have i2 := (gexprs_mono n).2.1
  have i3 := gvariants_mono n
  unfold G.decl
  repeat' first | exact Le.refl _ | exact i1 _ | exact i2 _ | exact i3 _ | apply Le.cond | refine Le.bind ?_ (fun _ => ?_)

/-- Whatever the grammar answers at any depth, it answers at the depth at which the reader came to an end. -/
theorem decl_exact {T : Toks} {e F n : Nat} {s : RS} {ts : Toks} {q : Nat × RS} {t : Tr} (hA : At T e s ts) (h : declP T e F s = some q) (hg : G.decl n ts = some t) : G.decl F ts = some t := by
  by_cases hn : n ≤ F
  · exact le_up (f := fun n => G.decl n ts) (gdecl_mono ts) hn t hg
  · have h' : declP T e n s = some q := le_up (f := fun n => declP T e n s) (decl_mono T e s) (show F ≤ n by omega) q h
    rcases decl_law hA h with ⟨h1, h2⟩ | ⟨t1, h1, _⟩
    · rcases decl_law hA h' with ⟨h3, _⟩ | ⟨t2, _, h4, h5, _⟩
      · rw [h3] at hg; cases hg
      · rcases h2 with h2 | h2
        · rw [h4] at h2; cases h2
        · exact absurd h5 h2
    · have := le_up (f := fun n => G.decl n ts) (gdecl_mono ts) (show F ≤ n by omega) t1 h1
      rw [hg] at this
      rw [h1, Option.some.inj this]

end Go.Proofs.YtnocnkblhjifjaaGreatDoor
