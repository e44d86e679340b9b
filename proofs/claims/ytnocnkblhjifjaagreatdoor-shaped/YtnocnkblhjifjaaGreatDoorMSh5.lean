import Derived.Test.YtnocnkblhjifjaaGreatDoorMSh1
import Derived.Test.YtnocnkblhjifjaaGreatDoorMParseP
import Derived.Test.YtnocnkblhjifjaaGreatDoorMPProgram
import Derived.Test.YtnocnkblhjifjaaGreatDoorMPTreesP
/-
  Plain mathematics: the two texts that kilnkeep.Shaped makes of an expression have one tree.
-/
namespace Go.Proofs.YtnocnkblhjifjaaGreatDoor
open Go.RowKit
set_option linter.unusedSimpArgs false

theorem toksOf_nil : toksOf [] = [] := rfl
theorem toksOf_app (a b : Toks) : toksOf (a ++ b) = toksOf a ++ toksOf b := by simp [toksOf]
theorem toksOf_sp (l : Toks) : toksOf (Ex.sp :: l) = toksOf l := by simp [toksOf]
theorem toksOf_cons {t : List UInt8} (h : t ≠ [32]) (l : Toks) : toksOf (t :: l) = t :: toksOf l := by
  unfold toksOf
  rw [List.filter_cons, if_pos (by simpa using h)]

theorem T.open (l : Toks) : toksOf (K.open_ :: l) = K.open_ :: toksOf l := toksOf_cons (by decide) l
theorem T.shut (l : Toks) : toksOf (K.shut_ :: l) = K.shut_ :: toksOf l := toksOf_cons (by decide) l
theorem T.bang (l : Toks) : toksOf (K.bang_ :: l) = K.bang_ :: toksOf l := toksOf_cons (by decide) l
theorem T.eq (l : Toks) : toksOf (K.eq_ :: l) = K.eq_ :: toksOf l := toksOf_cons (by decide) l
theorem T.semi (l : Toks) : toksOf (K.semi_ :: l) = K.semi_ :: toksOf l := toksOf_cons (by decide) l
theorem T.bar (l : Toks) : toksOf (K.bar_ :: l) = K.bar_ :: toksOf l := toksOf_cons (by decide) l
theorem T.under (l : Toks) : toksOf (K.under_ :: l) = K.under_ :: toksOf l := toksOf_cons (by decide) l
theorem T.dot (l : Toks) : toksOf (K.dot_ :: l) = K.dot_ :: toksOf l := toksOf_cons (by decide) l
theorem T.true (l : Toks) : toksOf (K.true_ :: l) = K.true_ :: toksOf l := toksOf_cons (by decide) l
theorem T.let (l : Toks) : toksOf (K.let_ :: l) = K.let_ :: toksOf l := toksOf_cons (by decide) l
theorem T.in (l : Toks) : toksOf (K.in_ :: l) = K.in_ :: toksOf l := toksOf_cons (by decide) l
theorem T.fun (l : Toks) : toksOf (K.fun_ :: l) = K.fun_ :: toksOf l := toksOf_cons (by decide) l
theorem T.if (l : Toks) : toksOf (K.if_ :: l) = K.if_ :: toksOf l := toksOf_cons (by decide) l
theorem T.then (l : Toks) : toksOf (K.then_ :: l) = K.then_ :: toksOf l := toksOf_cons (by decide) l
theorem T.else (l : Toks) : toksOf (K.else_ :: l) = K.else_ :: toksOf l := toksOf_cons (by decide) l
theorem T.match (l : Toks) : toksOf (K.match_ :: l) = K.match_ :: toksOf l := toksOf_cons (by decide) l
theorem T.with (l : Toks) : toksOf (K.with_ :: l) = K.with_ :: toksOf l := toksOf_cons (by decide) l
theorem T.end (l : Toks) : toksOf (K.end_ :: l) = K.end_ :: toksOf l := toksOf_cons (by decide) l
theorem T.set (l : Toks) : toksOf (K.set_ :: l) = K.set_ :: toksOf l := toksOf_cons (by decide) l
theorem T.arrow (l : Toks) : toksOf (K.arrow_ :: l) = K.arrow_ :: toksOf l := toksOf_cons (by decide) l
theorem T.nil (l : Toks) : toksOf (Ex.nilN :: l) = Ex.nilN :: toksOf l := toksOf_cons (by decide) l
theorem T.cons (l : Toks) : toksOf (Ex.consN :: l) = Ex.consN :: toksOf l := toksOf_cons (by decide) l
theorem T.var (x : Fin 4) (l : Toks) : toksOf (varN x :: l) = varN x :: toksOf l := toksOf_cons (varN_facts x).2.2.2.2 l
theorem T.num (n : Fin 1000) (l : Toks) : toksOf (decN n.1 :: l) = decN n.1 :: toksOf l := toksOf_cons (decN_facts n).2.2.2.2.2 l
theorem T.op (o : Op) (l : Toks) : toksOf ([o.sign] :: l) = [o.sign] :: toksOf l := toksOf_cons (op_facts o).2.2 l

theorem wa_wrap {R : Toks → Prop} {c : Prop} (b : Bool) {l : Toks} (h : R (toksOf l)) (hb : b = false → c) : Wa R c (toksOf (Ex.wrap b l)) := by
  cases b
  · exact Or.inr ⟨hb rfl, h⟩
  · refine Or.inl ⟨_, h, ?_⟩
    simp only [Ex.wrap, cond_true, List.cons_append, toksOf_app, T.open, T.shut, toksOf_nil]

theorem wa_in {R : Toks → Prop} {c : Prop} {l : Toks} (h : R l) : Wa R c (K.open_ :: (l ++ [K.shut_])) := Or.inl ⟨l, h, rfl⟩

theorem wr_bare : ∀ e : Ex, e.Ok → e.wr (toksOf e.bare) := by
  intro e he
  refine Ex.ind (Q := fun e => e.wr (toksOf e.bare)) ?num ?tru ?unit ?nil ?var ?op ?app ?cons ?bang ?fn ?lett ?set ?seq ?ite ?mtch he
  case num =>
    intro n
    show _ = _; simp only [Ex.num, Ex.tru, Ex.unit, Ex.nil, Ex.var, Ex.leaf, Ex.op, Ex.app, Ex.cons, Ex.bang, Ex.fn, Ex.lett, Ex.set, Ex.seq, Ex.ite, Ex.mtch, T.num, toksOf_nil]
  case tru =>
    rfl
  case unit =>
    rfl
  case nil =>
    rfl
  case var =>
    intro x
    show _ = _; simp only [Ex.num, Ex.tru, Ex.unit, Ex.nil, Ex.var, Ex.leaf, Ex.op, Ex.app, Ex.cons, Ex.bang, Ex.fn, Ex.lett, Ex.set, Ex.seq, Ex.ite, Ex.mtch, T.var, toksOf_nil]
  case op =>
    intro o a b iha ihb
    exact ⟨_, _, wa_wrap (decide (a.level < o.left)) iha (by simp), wa_wrap (decide (b.level < o.right)) ihb (by simp), by simp only [Ex.num, Ex.tru, Ex.unit, Ex.nil, Ex.var, Ex.leaf, Ex.op, Ex.app, Ex.cons, Ex.bang, Ex.fn, Ex.lett, Ex.set, Ex.seq, Ex.ite, Ex.mtch, toksOf_app, T.op]⟩
  case app =>
    intro f a ihf iha
    exact ⟨_, _, wa_wrap (decide (f.level < 4) || f.isCon) ihf (by simp), wa_wrap (decide (a.level < 5)) iha (by simp), by simp only [Ex.num, Ex.tru, Ex.unit, Ex.nil, Ex.var, Ex.leaf, Ex.op, Ex.app, Ex.cons, Ex.bang, Ex.fn, Ex.lett, Ex.set, Ex.seq, Ex.ite, Ex.mtch, toksOf_app, toksOf_sp]⟩
  case cons =>
    intro a b iha ihb
    exact ⟨_, _, wa_wrap (decide (a.level < 5)) iha (by simp), wa_wrap (decide (b.level < 5)) ihb (by simp), by simp only [Ex.num, Ex.tru, Ex.unit, Ex.nil, Ex.var, Ex.leaf, Ex.op, Ex.app, Ex.cons, Ex.bang, Ex.fn, Ex.lett, Ex.set, Ex.seq, Ex.ite, Ex.mtch, List.cons_append, toksOf_app, toksOf_sp, T.cons]⟩
  case bang =>
    intro a iha
    exact ⟨_, wa_wrap (decide (a.level < 5)) iha (by simp), by simp only [Ex.num, Ex.tru, Ex.unit, Ex.nil, Ex.var, Ex.leaf, Ex.op, Ex.app, Ex.cons, Ex.bang, Ex.fn, Ex.lett, Ex.set, Ex.seq, Ex.ite, Ex.mtch, T.bang]⟩
  case fn =>
    intro x a iha
    exact ⟨_, Or.inr ⟨trivial, iha⟩, by simp only [Ex.num, Ex.tru, Ex.unit, Ex.nil, Ex.var, Ex.leaf, Ex.op, Ex.app, Ex.cons, Ex.bang, Ex.fn, Ex.lett, Ex.set, Ex.seq, Ex.ite, Ex.mtch, T.fun, toksOf_sp, T.var, T.arrow]⟩
  case lett =>
    intro x a b iha ihb
    exact ⟨_, _, Or.inr ⟨trivial, iha⟩, Or.inr ⟨trivial, ihb⟩, by simp only [Ex.num, Ex.tru, Ex.unit, Ex.nil, Ex.var, Ex.leaf, Ex.op, Ex.app, Ex.cons, Ex.bang, Ex.fn, Ex.lett, Ex.set, Ex.seq, Ex.ite, Ex.mtch, List.cons_append, toksOf_app, toksOf_sp, T.let, T.var, T.eq, T.in]⟩
  case set =>
    intro a b iha ihb
    exact ⟨_, _, wa_wrap (decide (a.level < 1)) iha (by simp; omega), wa_wrap (decide (b.level < 1)) ihb (by simp; omega), by simp only [Ex.num, Ex.tru, Ex.unit, Ex.nil, Ex.var, Ex.leaf, Ex.op, Ex.app, Ex.cons, Ex.bang, Ex.fn, Ex.lett, Ex.set, Ex.seq, Ex.ite, Ex.mtch, toksOf_app, T.set]⟩
  case seq =>
    intro a b iha ihb
    refine ⟨_, _, wa_wrap (decide (a.level < 1) && !a.isSet) iha (fun h => ?_), Or.inr ⟨trivial, ihb⟩, by simp only [Ex.num, Ex.tru, Ex.unit, Ex.nil, Ex.var, Ex.leaf, Ex.op, Ex.app, Ex.cons, Ex.bang, Ex.fn, Ex.lett, Ex.set, Ex.seq, Ex.ite, Ex.mtch, toksOf_app, T.semi]⟩
    simp only [Bool.and_eq_false_iff, decide_eq_false_iff_not, Bool.not_eq_false'] at h
    rcases h with h | h
    · exact Or.inl (by omega)
    · exact Or.inr h
  case ite =>
    intro a b c iha ihb ihc
    exact ⟨_, _, _, Or.inr ⟨trivial, iha⟩, Or.inr ⟨trivial, ihb⟩, Or.inr ⟨trivial, ihc⟩, by simp only [Ex.num, Ex.tru, Ex.unit, Ex.nil, Ex.var, Ex.leaf, Ex.op, Ex.app, Ex.cons, Ex.bang, Ex.fn, Ex.lett, Ex.set, Ex.seq, Ex.ite, Ex.mtch, List.cons_append, List.append_assoc, toksOf_app, toksOf_sp, T.if, T.then, T.else]⟩
  case mtch =>
    intro x a b c iha ihb ihc
    exact ⟨_, _, _, [Ex.consN, varN x, K.under_], Or.inr ⟨trivial, iha⟩, Or.inr ⟨trivial, ihb⟩, Or.inr ⟨trivial, ihc⟩, Or.inl rfl, by simp only [Ex.num, Ex.tru, Ex.unit, Ex.nil, Ex.var, Ex.leaf, Ex.op, Ex.app, Ex.cons, Ex.bang, Ex.fn, Ex.lett, Ex.set, Ex.seq, Ex.ite, Ex.mtch, List.cons_append, List.nil_append, List.append_assoc, toksOf_app, toksOf_sp, toksOf_nil, T.match, T.with, T.bar, T.nil, T.arrow, T.cons, T.var, T.under, T.end]⟩

theorem wr_full : ∀ e : Ex, e.Ok → e.wr (toksOf e.full) := by
  intro e he
  refine Ex.ind (Q := fun e => e.wr (toksOf e.full)) ?num ?tru ?unit ?nil ?var ?op ?app ?cons ?bang ?fn ?lett ?set ?seq ?ite ?mtch he
  case num =>
    intro n
    show _ = _; simp only [Ex.num, Ex.tru, Ex.unit, Ex.nil, Ex.var, Ex.leaf, Ex.op, Ex.app, Ex.cons, Ex.bang, Ex.fn, Ex.lett, Ex.set, Ex.seq, Ex.ite, Ex.mtch, T.num, toksOf_nil]
  case tru =>
    rfl
  case unit =>
    rfl
  case nil =>
    rfl
  case var =>
    intro x
    show _ = _; simp only [Ex.num, Ex.tru, Ex.unit, Ex.nil, Ex.var, Ex.leaf, Ex.op, Ex.app, Ex.cons, Ex.bang, Ex.fn, Ex.lett, Ex.set, Ex.seq, Ex.ite, Ex.mtch, T.var, toksOf_nil]
  case op =>
    intro o a b iha ihb
    exact ⟨_, _, wa_in iha, wa_in ihb, by simp only [Ex.num, Ex.tru, Ex.unit, Ex.nil, Ex.var, Ex.leaf, Ex.op, Ex.app, Ex.cons, Ex.bang, Ex.fn, Ex.lett, Ex.set, Ex.seq, Ex.ite, Ex.mtch, List.cons_append, List.nil_append, List.append_assoc, toksOf_app, toksOf_nil, T.op, T.open, T.shut]⟩
  case app =>
    intro f a iha ihb
    exact ⟨_, _, wa_in iha, wa_in ihb, by simp only [Ex.num, Ex.tru, Ex.unit, Ex.nil, Ex.var, Ex.leaf, Ex.op, Ex.app, Ex.cons, Ex.bang, Ex.fn, Ex.lett, Ex.set, Ex.seq, Ex.ite, Ex.mtch, List.cons_append, List.nil_append, List.append_assoc, toksOf_app, toksOf_nil, T.open, T.shut]⟩
  case cons =>
    intro a b iha ihb
    exact ⟨_, _, wa_in iha, wa_in ihb, by simp only [Ex.num, Ex.tru, Ex.unit, Ex.nil, Ex.var, Ex.leaf, Ex.op, Ex.app, Ex.cons, Ex.bang, Ex.fn, Ex.lett, Ex.set, Ex.seq, Ex.ite, Ex.mtch, List.cons_append, List.nil_append, List.append_assoc, toksOf_app, toksOf_nil, T.cons, T.open, T.shut]⟩
  case bang =>
    intro a iha
    exact ⟨_, wa_in iha, by simp only [Ex.num, Ex.tru, Ex.unit, Ex.nil, Ex.var, Ex.leaf, Ex.op, Ex.app, Ex.cons, Ex.bang, Ex.fn, Ex.lett, Ex.set, Ex.seq, Ex.ite, Ex.mtch, List.cons_append, toksOf_app, toksOf_nil, T.bang, T.open, T.shut]⟩
  case fn =>
    intro x a iha
    exact ⟨_, wa_in iha, by simp only [Ex.num, Ex.tru, Ex.unit, Ex.nil, Ex.var, Ex.leaf, Ex.op, Ex.app, Ex.cons, Ex.bang, Ex.fn, Ex.lett, Ex.set, Ex.seq, Ex.ite, Ex.mtch, List.cons_append, toksOf_app, toksOf_nil, toksOf_sp, T.fun, T.var, T.arrow, T.open, T.shut]⟩
  case lett =>
    intro x a b iha ihb
    exact ⟨_, _, wa_in iha, wa_in ihb, by simp only [Ex.num, Ex.tru, Ex.unit, Ex.nil, Ex.var, Ex.leaf, Ex.op, Ex.app, Ex.cons, Ex.bang, Ex.fn, Ex.lett, Ex.set, Ex.seq, Ex.ite, Ex.mtch, List.cons_append, List.nil_append, List.append_assoc, toksOf_app, toksOf_nil, toksOf_sp, T.let, T.var, T.eq, T.in, T.open, T.shut]⟩
  case set =>
    intro a b iha ihb
    exact ⟨_, _, wa_in iha, wa_in ihb, by simp only [Ex.num, Ex.tru, Ex.unit, Ex.nil, Ex.var, Ex.leaf, Ex.op, Ex.app, Ex.cons, Ex.bang, Ex.fn, Ex.lett, Ex.set, Ex.seq, Ex.ite, Ex.mtch, List.cons_append, List.nil_append, List.append_assoc, toksOf_app, toksOf_nil, toksOf_sp, T.set, T.open, T.shut]⟩
  case seq =>
    intro a b iha ihb
    exact ⟨_, _, wa_in iha, wa_in ihb, by simp only [Ex.num, Ex.tru, Ex.unit, Ex.nil, Ex.var, Ex.leaf, Ex.op, Ex.app, Ex.cons, Ex.bang, Ex.fn, Ex.lett, Ex.set, Ex.seq, Ex.ite, Ex.mtch, List.cons_append, List.nil_append, List.append_assoc, toksOf_app, toksOf_nil, toksOf_sp, T.semi, T.open, T.shut]⟩
  case ite =>
    intro a b c iha ihb ihc
    exact ⟨_, _, _, wa_in iha, wa_in ihb, wa_in ihc, by simp only [Ex.num, Ex.tru, Ex.unit, Ex.nil, Ex.var, Ex.leaf, Ex.op, Ex.app, Ex.cons, Ex.bang, Ex.fn, Ex.lett, Ex.set, Ex.seq, Ex.ite, Ex.mtch, List.cons_append, List.nil_append, List.append_assoc, toksOf_app, toksOf_nil, toksOf_sp, T.if, T.then, T.else, T.open, T.shut]⟩
  case mtch =>
    intro x a b c iha ihb ihc
    exact ⟨_, _, _, [Ex.consN, K.open_, varN x, K.shut_, K.open_, K.under_, K.shut_], wa_in iha, wa_in ihb, wa_in ihc, Or.inr rfl, by simp only [Ex.num, Ex.tru, Ex.unit, Ex.nil, Ex.var, Ex.leaf, Ex.op, Ex.app, Ex.cons, Ex.bang, Ex.fn, Ex.lett, Ex.set, Ex.seq, Ex.ite, Ex.mtch, List.cons_append, List.nil_append, List.append_assoc, toksOf_app, toksOf_sp, toksOf_nil, T.match, T.with, T.bar, T.nil, T.arrow, T.cons, T.var, T.under, T.end, T.open, T.shut]⟩

/- No full stop stands in it. -/
def NoDot (l : Toks) : Prop := ∀ t ∈ l, t ≠ K.dot_
theorem noDot_nil : NoDot [] := fun t h => by cases h
theorem noDot_cons {t : List UInt8} {l : Toks} : NoDot (t :: l) ↔ t ≠ K.dot_ ∧ NoDot l := by simp [NoDot]
theorem noDot_app {a b : Toks} : NoDot (a ++ b) ↔ NoDot a ∧ NoDot b := by
  simp only [NoDot, List.mem_append]
  exact ⟨fun h => ⟨fun t ht => h t (Or.inl ht), fun t ht => h t (Or.inr ht)⟩, fun h t ht => ht.elim (h.1 t) (h.2 t)⟩
theorem noDot_sub {l : Toks} (h : NoDot l) : NoDot (toksOf l) := fun t ht => h t (List.mem_filter.1 ht).1

theorem D.var (x : Fin 4) : varN x ≠ K.dot_ := by
  intro e
  have := (varN_facts x).2.1
  rw [e] at this; revert this; decide
theorem D.num (n : Fin 1000) : decN n.1 ≠ K.dot_ := by
  intro e
  have := (decN_facts n).2.1
  rw [e] at this; revert this; decide
theorem D.op (o : Op) : [o.sign] ≠ K.dot_ := by rcases o.all with rfl | rfl | rfl | rfl | rfl | rfl <;> decide
theorem noDot_wrap {b : Bool} {l : Toks} (h : NoDot l) : NoDot (Ex.wrap b l) := by
  cases b
  · exact h
  · simp only [Ex.wrap, cond_true, List.cons_append, noDot_cons, noDot_app]
    exact ⟨by decide, h, by decide, noDot_nil⟩

def words : Toks := [Ex.sp, K.open_, K.shut_, K.bang_, K.eq_, K.semi_, K.bar_, K.under_, K.true_, K.let_, K.in_, K.fun_, K.if_, K.then_, K.else_, K.match_, K.with_, K.end_, K.set_, K.arrow_, Ex.nilN, Ex.consN]
theorem words_dot : ∀ t ∈ words, t ≠ K.dot_ := by decide

theorem Ex.bare_dot : ∀ e : Ex, e.Ok → NoDot e.bare := by
  have h := words_dot
  simp only [words, List.forall_mem_cons] at h
  obtain ⟨h1, h2, h3, h4, h5, h6, h7, h8, h9, h10, h11, h12, h13, h14, h15, h16, h17, h18, h19, h20, h21, h22, _⟩ := h
  intro e he
  refine Ex.ind (Q := fun e => NoDot e.bare) ?_ ?_ ?_ ?_ ?_ ?_ ?_ ?_ ?_ ?_ ?_ ?_ ?_ ?_ ?_ he <;> intros <;> simp only [Ex.num, Ex.tru, Ex.unit, Ex.nil, Ex.var, Ex.leaf, Ex.op, Ex.app, Ex.cons, Ex.bang, Ex.fn, Ex.lett, Ex.set, Ex.seq, Ex.ite, Ex.mtch, List.cons_append, noDot_cons, noDot_app, noDot_nil, ne_eq, D.var, D.num, D.op, noDot_wrap, not_false_eq_true, and_self, and_true, *]

theorem Ex.full_dot : ∀ e : Ex, e.Ok → NoDot e.full := by
  have h := words_dot
  simp only [words, List.forall_mem_cons] at h
  obtain ⟨h1, h2, h3, h4, h5, h6, h7, h8, h9, h10, h11, h12, h13, h14, h15, h16, h17, h18, h19, h20, h21, h22, _⟩ := h
  intro e he
  refine Ex.ind (Q := fun e => NoDot e.full) ?_ ?_ ?_ ?_ ?_ ?_ ?_ ?_ ?_ ?_ ?_ ?_ ?_ ?_ ?_ he <;> intros <;> simp only [Ex.num, Ex.tru, Ex.unit, Ex.nil, Ex.var, Ex.leaf, Ex.op, Ex.app, Ex.cons, Ex.bang, Ex.fn, Ex.lett, Ex.set, Ex.seq, Ex.ite, Ex.mtch, List.cons_append, noDot_cons, noDot_app, noDot_nil, ne_eq, D.var, D.num, D.op, not_false_eq_true, and_self, and_true, *]

theorem stopAt_dot : ∀ (l r : Toks), NoDot l → stopAt (l ++ K.dot_ :: r) = l.length := by
  intro l
  induction l with
  | nil => intro r _; rfl
  | cons t l ih =>
    intro r h
    rw [noDot_cons] at h
    rw [List.cons_append, stopAt, if_neg h.1, ih r h.2]; rfl

theorem decl_let {l : Toks} {t : Tr} (h : ExprP l t) : (Classical.choice lf).decl (K.let_ :: [120] :: K.eq_ :: l) = some (.mk K.let_ [120] [t]) := by
  have h1 : G.isW K.type_ (K.let_ :: [120] :: K.eq_ :: l) = false := rfl
  have h2 : G.isW K.do_ (K.let_ :: [120] :: K.eq_ :: l) = false := rfl
  have h3 : G.want K.let_ (K.let_ :: [120] :: K.eq_ :: l) = some ([120] :: K.eq_ :: l) := rfl
  have h4 : G.isW K.rec_ ([120] :: K.eq_ :: l) = false := rfl
  have h5 : G.kind 110 ([120] :: K.eq_ :: l) = some ([120], K.eq_ :: l) := rfl
  have h6 : G.every 110 (K.eq_ :: l) = ([], K.eq_ :: l) := rfl
  have h7 : G.want K.eq_ (K.eq_ :: l) = some l := rfl
  have h8 := h [] (show ([] : List UInt8) ∈ C_ by decide)
  rw [List.append_nil] at h8
  rw [(Classical.choice lf).decl_eq, h1, h2, cond_false, cond_false, h3, Option.bind_some, (Classical.choice lf).binding_eq, h4]
  simp only [cond_false, h5, Option.bind_some, h6, Bool.false_and, h7, h8]
  rfl

/-- One declaration, and its full stop. -/
theorem prog_one {txt : List UInt8} {D : Toks} {t : Tr} (hc : cutL txt = (D ++ [K.dot_], 0, 0)) (hD : NoDot D) (h : (Classical.choice lf).decl D = some t) : progA txt = ([t], 0, 0) := by
  have hlen := cutL_len txt
  rw [hc] at hlen
  have hl : (D ++ [K.dot_]).length = D.length + 1 := by simp
  have hD4 : D.length + 1 ≤ 4000 := by have := hlen; simp only [hl] at this; exact this
  unfold progA
  rw [hc]
  simp only [if_true]
  unfold progL
  have h1 : G.decl (10 * (D ++ [K.dot_]).length + 13) D = some t := by
    rw [← decl_L (ts := D) (F := 10 * (D ++ [K.dot_]).length + 13) (by omega) (by omega)]; exact h
  have h2 : stopAt (D ++ [K.dot_]) = D.length := stopAt_dot D [] hD
  generalize 10 * (D ++ [K.dot_]).length + 13 = F at *
  rw [progF, if_neg (by omega), if_neg (by omega), h2, List.take_left, h1]
  simp only
  rw [List.drop_of_length_le (by omega), hl, progF]
  rfl

/-- The text with all brackets. -/
def fullT (e : Ex) : Toks := K.let_ :: Ex.sp :: [120] :: Ex.sp :: K.eq_ :: Ex.sp :: K.open_ :: e.full ++ [K.shut_, Ex.sp, K.dot_]
/-- The text with few. -/
def bareT (e : Ex) : Toks := K.let_ :: Ex.sp :: [120] :: K.eq_ :: e.bare ++ [K.dot_]

theorem P.x : Piece [120] := piece_name (by decide) (by simp)
theorem T.x (l : Toks) : toksOf ([120] :: l) = [120] :: toksOf l := toksOf_cons (by decide) l

theorem fullT_len (e : Ex) : lenT (fullT e) = lenT e.full + 12 := by
  simp only [fullT, List.cons_append, lenT_cons, lenT_app, lenT_nil, K.let_, Ex.sp, K.eq_, K.open_, K.shut_, K.dot_, List.length_cons, List.length_nil]; omega
theorem bareT_len (e : Ex) : lenT (bareT e) = lenT e.bare + 7 := by
  simp only [bareT, List.cons_append, lenT_cons, lenT_app, lenT_nil, K.let_, Ex.sp, K.eq_, K.dot_, List.length_cons, List.length_nil]; omega

theorem full_prog (e : Ex) (he : e.Ok) (h : lenT (fullT e) ≤ 4000) : progA (fullT e).flatten = ([.mk K.let_ [120] [e.tree]], 0, 0) := by
  have hp : AllP (fullT e) := by
    simp only [fullT, List.cons_append, allP_cons, allP_app, allP_nil, P.let, P.sp, P.x, P.eq, P.open, P.shut, P.dot, e.full_pieces he, and_true]
  have ha : apart false (fullT e) = true := by
    have h1 : wdB [120] = true := by decide
    have h2 : wdB K.let_ = true := by decide
    simp only [fullT, List.cons_append, apart, apart_app, h1, h2, W.sp, W.open, W.shut, W.eq, W.dot, e.full_apart he, Bool.and_false, Bool.false_and, Bool.not_false, Bool.and_true]
  have hc := cutL_pieces (fullT e) hp ha h
  have e1 : toksOf (fullT e) = (K.let_ :: [120] :: K.eq_ :: (K.open_ :: toksOf e.full ++ [K.shut_])) ++ [K.dot_] := by
    simp only [fullT, List.cons_append, List.nil_append, List.append_assoc, toksOf_app, toksOf_sp, toksOf_nil, T.let, T.x, T.eq, T.open, T.shut, T.dot]
  rw [e1] at hc
  have hw := wa_expr (fine e he) (c := True) (Or.inl ⟨_, wr_full e he, rfl⟩)
  refine prog_one hc ?_ (decl_let hw.1)
  have := noDot_sub (e.full_dot he)
  simp only [List.cons_append, noDot_cons, noDot_app]
  exact ⟨by decide, by decide, by decide, by decide, this, by decide, noDot_nil⟩

theorem bare_prog (e : Ex) (he : e.Ok) (h : lenT (bareT e) ≤ 4000) : progA (bareT e).flatten = ([.mk K.let_ [120] [e.tree]], 0, 0) := by
  have hp : AllP (bareT e) := by
    simp only [bareT, List.cons_append, allP_cons, allP_app, allP_nil, P.let, P.sp, P.x, P.eq, P.dot, e.bare_pieces he, and_true]
  have ha : apart false (bareT e) = true := by
    have h1 : wdB [120] = true := by decide
    have h2 : wdB K.let_ = true := by decide
    simp only [bareT, List.cons_append, apart, apart_app, h1, h2, W.sp, W.eq, W.dot, e.bare_apart he, Bool.and_false, Bool.false_and, Bool.not_false, Bool.and_true]
  have hc := cutL_pieces (bareT e) hp ha h
  have e1 : toksOf (bareT e) = (K.let_ :: [120] :: K.eq_ :: toksOf e.bare) ++ [K.dot_] := by
    simp only [bareT, List.cons_append, toksOf_app, toksOf_sp, toksOf_nil, T.let, T.x, T.eq, T.dot]
  rw [e1] at hc
  refine prog_one hc ?_ (decl_let (fine e he _ (wr_bare e he)).expr)
  have := noDot_sub (e.bare_dot he)
  simp only [noDot_cons]
  exact ⟨by decide, by decide, by decide, this⟩

/-- What Trees must answer of both. -/
theorem shaped_trees (e : Ex) (he : e.Ok) (hd : e.dep ≤ 5) (h : lenT (fullT e) ≤ 4000) :
    (treesA (fullT e).flatten = [(Tr.mk K.let_ [120] [e.tree]).text] ∧ (progA (fullT e).flatten).2 = (0, 0)) ∧ treesA (bareT e).flatten = [(Tr.mk K.let_ [120] [e.tree]).text] ∧ (progA (bareT e).flatten).2 = (0, 0) := by
  have h2 := e.bare_short he hd (by rw [fullT_len] at h; exact h)
  have h3 := full_prog e he h
  have h4 := bare_prog e he (by rw [bareT_len]; exact h2)
  unfold treesA
  rw [h3, h4]
  exact ⟨⟨rfl, rfl⟩, rfl, rfl⟩

end Go.Proofs.YtnocnkblhjifjaaGreatDoor
