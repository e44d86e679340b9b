import Derived.Test.YtnocnkblhjifjaaGreatDoorMPlain
import Derived.Test.YtnocnkblhjifjaaGreatDoorMRefText
import Derived.Test.YtnocnkblhjifjaaGreatDoorMLim
/-
  Plain mathematics: the expressions that kilnkeep makes: written with all brackets, with few, and as trees; how such a text is cut.
-/
namespace Go.Proofs.YtnocnkblhjifjaaGreatDoor
open Go.RowKit

/-- Signs between two expressions. -/
structure Op where
  k : Fin 6

abbrev Op.eq : Op := ⟨0⟩
abbrev Op.lt : Op := ⟨1⟩
abbrev Op.add : Op := ⟨2⟩
abbrev Op.sub : Op := ⟨3⟩
abbrev Op.mul : Op := ⟨4⟩
abbrev Op.div : Op := ⟨5⟩

def Op.sign (o : Op) : UInt8 := match o.k with
  | 0 => 61 | 1 => 60 | 2 => 43 | 3 => 45 | 4 => 42 | 5 => 47
def Op.level (o : Op) : Nat := match o.k with
  | 0 => 1 | 1 => 1 | 2 => 2 | 3 => 2 | 4 => 3 | 5 => 3
def Op.left (o : Op) : Nat := match o.k with
  | 0 => 2 | 1 => 2 | 2 => 2 | 3 => 2 | 4 => 3 | 5 => 3
def Op.right (o : Op) : Nat := match o.k with
  | 0 => 2 | 1 => 2 | 2 => 3 | 3 => 3 | 4 => 4 | 5 => 4

theorem Op.all (o : Op) : o = .eq ∨ o = .lt ∨ o = .add ∨ o = .sub ∨ o = .mul ∨ o = .div := by
  obtain ⟨k⟩ := o
  match k with
  | 0 => exact Or.inl rfl
  | 1 => exact Or.inr (Or.inl rfl)
  | 2 => exact Or.inr (Or.inr (Or.inl rfl))
  | 3 => exact Or.inr (Or.inr (Or.inr (Or.inl rfl)))
  | 4 => exact Or.inr (Or.inr (Or.inr (Or.inr (Or.inl rfl))))
  | 5 => exact Or.inr (Or.inr (Or.inr (Or.inr (Or.inr rfl))))

def varN (x : Fin 4) : List UInt8 := match x with
  | 0 => [97] | 1 => [98] | 2 => [99] | 3 => [100]

def digitN (n : Nat) : UInt8 := UInt8.ofNat (48 + n)

/-- A number below 1000, in digits. -/
def decN (n : Nat) : List UInt8 := if n < 10 then [digitN n] else if n < 100 then [digitN (n / 10), digitN (n % 10)] else [digitN (n / 100), digitN (n / 10 % 10), digitN (n % 10)]

/-- In brackets, or bare where that is enough. -/
def Wa (R : Toks → Prop) (c : Prop) (l : Toks) : Prop := (∃ x, R x ∧ l = K.open_ :: x ++ [K.shut_]) ∨ (c ∧ R l)

/-- An expression: written with all brackets (tokens and blanks), with few; its tree; how tightly it binds; is it a con, a set; how deep it is; which tokens are a writing of it. -/
structure Ex where
  full : Toks
  bare : Toks
  tree : Tr
  level : Nat
  isCon : Bool
  isSet : Bool
  dep : Nat
  wr : Toks → Prop

namespace Ex

def nilN : List UInt8 := [78, 105, 108]
def consN : List UInt8 := [67, 111, 110, 115]

abbrev sp : List UInt8 := [32]

/-- In brackets, if so. -/
def wrap (b : Bool) (l : Toks) : Toks := bif b then K.open_ :: l ++ [K.shut_] else l

/-- The pattern of the second row. -/
def conPat (x : Fin 4) (l : Toks) : Prop := l = [consN, varN x, K.under_] ∨ l = [consN, K.open_, varN x, K.shut_, K.open_, K.under_, K.shut_]

/-- What is one piece. -/
def leaf (l : Toks) (t : Tr) (con : Bool) : Ex := { full := l, bare := l, tree := t, level := 5, isCon := con, isSet := false, dep := 0, wr := fun x => x = l }

def num (n : Fin 1000) : Ex := leaf [decN n.1] (.mk K.num_ (decN n.1) []) false
def tru : Ex := leaf [K.true_] (.mk K.const_ K.true_ []) false
def unit : Ex := leaf [K.open_, K.shut_] (.mk K.const_ K.unit_ []) false
def nil : Ex := leaf [nilN] (.mk K.con_ nilN []) true
def var (x : Fin 4) : Ex := leaf [varN x] (.mk K.var_ (varN x) []) false
def op (o : Op) (a b : Ex) : Ex where
  full := K.open_ :: a.full ++ K.shut_ :: [o.sign] :: K.open_ :: b.full ++ [K.shut_]
  bare := wrap (decide (a.level < o.left)) a.bare ++ [o.sign] :: wrap (decide (b.level < o.right)) b.bare
  tree := .mk [o.sign] [] [a.tree, b.tree]
  level := o.level
  isCon := false
  isSet := false
  dep := max a.dep b.dep + 1
  wr := fun l => ∃ la lb, Wa a.wr (o.left ≤ a.level) la ∧ Wa b.wr (o.right ≤ b.level) lb ∧ l = la ++ [o.sign] :: lb
def app (f a : Ex) : Ex where
  full := K.open_ :: f.full ++ K.shut_ :: K.open_ :: a.full ++ [K.shut_]
  bare := wrap (decide (f.level < 4) || f.isCon) f.bare ++ sp :: wrap (decide (a.level < 5)) a.bare
  tree := .mk K.app_ [] [f.tree, a.tree]
  level := 4
  isCon := false
  isSet := false
  dep := max f.dep a.dep + 1
  wr := fun l => ∃ lf la, Wa f.wr (4 ≤ f.level ∧ f.isCon = false) lf ∧ Wa a.wr (5 ≤ a.level) la ∧ l = lf ++ la
def cons (a b : Ex) : Ex where
  full := consN :: K.open_ :: a.full ++ K.shut_ :: K.open_ :: b.full ++ [K.shut_]
  bare := consN :: sp :: wrap (decide (a.level < 5)) a.bare ++ sp :: wrap (decide (b.level < 5)) b.bare
  tree := .mk K.con_ consN [a.tree, b.tree]
  level := 4
  isCon := true
  isSet := false
  dep := max a.dep b.dep + 1
  wr := fun l => ∃ la lb, Wa a.wr (5 ≤ a.level) la ∧ Wa b.wr (5 ≤ b.level) lb ∧ l = consN :: la ++ lb
def bang (a : Ex) : Ex where
  full := K.bang_ :: K.open_ :: a.full ++ [K.shut_]
  bare := K.bang_ :: wrap (decide (a.level < 5)) a.bare
  tree := .mk K.bang_ [] [a.tree]
  level := 5
  isCon := false
  isSet := false
  dep := a.dep + 1
  wr := fun l => ∃ la, Wa a.wr (5 ≤ a.level) la ∧ l = K.bang_ :: la
def fn (x : Fin 4) (a : Ex) : Ex where
  full := K.fun_ :: sp :: varN x :: sp :: K.arrow_ :: sp :: K.open_ :: a.full ++ [K.shut_]
  bare := K.fun_ :: sp :: varN x :: K.arrow_ :: a.bare
  tree := .mk K.fun_ (varN x) [a.tree]
  level := 0
  isCon := false
  isSet := false
  dep := a.dep + 1
  wr := fun l => ∃ la, Wa a.wr True la ∧ l = K.fun_ :: varN x :: K.arrow_ :: la
def lett (x : Fin 4) (a b : Ex) : Ex where
  full := K.let_ :: sp :: varN x :: sp :: K.eq_ :: sp :: K.open_ :: a.full ++ K.shut_ :: sp :: K.in_ :: sp :: K.open_ :: b.full ++ [K.shut_]
  bare := K.let_ :: sp :: varN x :: K.eq_ :: a.bare ++ sp :: K.in_ :: sp :: b.bare
  tree := .mk K.let_ (varN x) [a.tree, b.tree]
  level := 0
  isCon := false
  isSet := false
  dep := max a.dep b.dep + 1
  wr := fun l => ∃ la lb, Wa a.wr True la ∧ Wa b.wr True lb ∧ l = K.let_ :: varN x :: K.eq_ :: la ++ K.in_ :: lb
def set (a b : Ex) : Ex where
  full := K.open_ :: a.full ++ K.shut_ :: sp :: K.set_ :: sp :: K.open_ :: b.full ++ [K.shut_]
  bare := wrap (decide (a.level < 1)) a.bare ++ K.set_ :: wrap (decide (b.level < 1)) b.bare
  tree := .mk K.setN_ [] [a.tree, b.tree]
  level := 0
  isCon := false
  isSet := true
  dep := max a.dep b.dep + 1
  wr := fun l => ∃ la lb, Wa a.wr (1 ≤ a.level) la ∧ Wa b.wr (1 ≤ b.level) lb ∧ l = la ++ K.set_ :: lb
def seq (a b : Ex) : Ex where
  full := K.open_ :: a.full ++ K.shut_ :: sp :: K.semi_ :: sp :: K.open_ :: b.full ++ [K.shut_]
  bare := wrap (decide (a.level < 1) && !a.isSet) a.bare ++ K.semi_ :: b.bare
  tree := .mk K.seq_ [] [a.tree, b.tree]
  level := 0
  isCon := false
  isSet := false
  dep := max a.dep b.dep + 1
  wr := fun l => ∃ la lb, Wa a.wr (1 ≤ a.level ∨ a.isSet = true) la ∧ Wa b.wr True lb ∧ l = la ++ K.semi_ :: lb
def ite (a b c : Ex) : Ex where
  full := K.if_ :: sp :: K.open_ :: a.full ++ K.shut_ :: sp :: K.then_ :: sp :: K.open_ :: b.full ++ K.shut_ :: sp :: K.else_ :: sp :: K.open_ :: c.full ++ [K.shut_]
  bare := K.if_ :: sp :: a.bare ++ sp :: K.then_ :: sp :: b.bare ++ sp :: K.else_ :: sp :: c.bare
  tree := .mk K.if_ [] [a.tree, b.tree, c.tree]
  level := 0
  isCon := false
  isSet := false
  dep := max a.dep (max b.dep c.dep) + 1
  wr := fun l => ∃ la lb lc, Wa a.wr True la ∧ Wa b.wr True lb ∧ Wa c.wr True lc ∧ l = K.if_ :: la ++ K.then_ :: lb ++ K.else_ :: lc
def mtch (x : Fin 4) (a b c : Ex) : Ex where
  full := K.match_ :: sp :: K.open_ :: a.full ++ K.shut_ :: sp :: K.with_ :: sp :: K.bar_ :: sp :: nilN :: sp :: K.arrow_ :: sp :: K.open_ :: b.full ++ K.shut_ :: sp :: K.bar_ :: sp :: consN :: sp :: K.open_ :: varN x :: K.shut_ :: sp :: K.open_ :: K.under_ :: K.shut_ :: sp :: K.arrow_ :: sp :: K.open_ :: c.full ++ K.shut_ :: sp :: [K.end_]
  bare := K.match_ :: sp :: a.bare ++ sp :: K.with_ :: K.bar_ :: nilN :: K.arrow_ :: b.bare ++ K.bar_ :: consN :: sp :: varN x :: sp :: K.under_ :: K.arrow_ :: c.bare ++ sp :: [K.end_]
  tree := .mk K.match_ [] [a.tree, .mk K.row_ [] [.mk K.con_ nilN [], b.tree], .mk K.row_ [] [.mk K.con_ consN [.mk K.var_ (varN x) [], .mk K.const_ K.under_ []], c.tree]]
  level := 5
  isCon := false
  isSet := false
  dep := max a.dep (max b.dep c.dep) + 1
  wr := fun l => ∃ la lb lc p, Wa a.wr True la ∧ Wa b.wr True lb ∧ Wa c.wr True lc ∧ conPat x p ∧ l = K.match_ :: la ++ K.with_ :: K.bar_ :: nilN :: K.arrow_ :: lb ++ K.bar_ :: p ++ K.arrow_ :: lc ++ [K.end_]

/-- One that is made so. -/
def Ok (e : Ex) : Prop := ∀ P : Ex → Prop, (∀ n, P (num n)) → P tru → P unit → P nil → (∀ x, P (var x)) → (∀ o a b, P a → P b → P (op o a b)) → (∀ f a, P f → P a → P (app f a)) → (∀ a b, P a → P b → P (cons a b)) → (∀ a, P a → P (bang a)) → (∀ x a, P a → P (fn x a)) → (∀ x a b, P a → P b → P (lett x a b)) → (∀ a b, P a → P b → P (set a b)) → (∀ a b, P a → P b → P (seq a b)) → (∀ a b c, P a → P b → P c → P (ite a b c)) → (∀ x a b c, P a → P b → P c → P (mtch x a b c)) → P e

theorem ind {Q : Ex → Prop} (num : ∀ n, Q (num n)) (tru : Q tru) (unit : Q unit) (nil : Q nil) (var : ∀ x, Q (var x)) (op : ∀ o a b, Q a → Q b → Q (op o a b)) (app : ∀ f a, Q f → Q a → Q (app f a)) (cons : ∀ a b, Q a → Q b → Q (cons a b)) (bang : ∀ a, Q a → Q (bang a)) (fn : ∀ x a, Q a → Q (fn x a)) (lett : ∀ x a b, Q a → Q b → Q (lett x a b)) (set : ∀ a b, Q a → Q b → Q (set a b)) (seq : ∀ a b, Q a → Q b → Q (seq a b)) (ite : ∀ a b c, Q a → Q b → Q c → Q (ite a b c)) (mtch : ∀ x a b c, Q a → Q b → Q c → Q (mtch x a b c)) {e : Ex} (he : e.Ok) : Q e :=
  he Q num tru unit nil var op app cons bang fn lett set seq ite mtch

theorem Ok.num (n : Fin 1000) : (Ex.num n).Ok := fun _ h _ _ _ _ _ _ _ _ _ _ _ _ _ _ => h n
theorem Ok.tru : Ex.tru.Ok := fun _ _ h _ _ _ _ _ _ _ _ _ _ _ _ _ => h
theorem Ok.unit : Ex.unit.Ok := fun _ _ _ h _ _ _ _ _ _ _ _ _ _ _ _ => h
theorem Ok.nil : Ex.nil.Ok := fun _ _ _ _ h _ _ _ _ _ _ _ _ _ _ _ => h
theorem Ok.var (x : Fin 4) : (Ex.var x).Ok := fun _ _ _ _ _ h _ _ _ _ _ _ _ _ _ _ => h x
theorem Ok.op {a b : Ex} (o : Op) (ha : a.Ok) (hb : b.Ok) : (Ex.op o a b).Ok := fun P h0 h1 h2 h3 h4 h5 h6 h7 h8 h9 h10 h11 h12 h13 h14 => h5 o a b (ha P h0 h1 h2 h3 h4 h5 h6 h7 h8 h9 h10 h11 h12 h13 h14) (hb P h0 h1 h2 h3 h4 h5 h6 h7 h8 h9 h10 h11 h12 h13 h14)
theorem Ok.app {a b : Ex} (ha : a.Ok) (hb : b.Ok) : (Ex.app a b).Ok := fun P h0 h1 h2 h3 h4 h5 h6 h7 h8 h9 h10 h11 h12 h13 h14 => h6 a b (ha P h0 h1 h2 h3 h4 h5 h6 h7 h8 h9 h10 h11 h12 h13 h14) (hb P h0 h1 h2 h3 h4 h5 h6 h7 h8 h9 h10 h11 h12 h13 h14)
theorem Ok.cons {a b : Ex} (ha : a.Ok) (hb : b.Ok) : (Ex.cons a b).Ok := fun P h0 h1 h2 h3 h4 h5 h6 h7 h8 h9 h10 h11 h12 h13 h14 => h7 a b (ha P h0 h1 h2 h3 h4 h5 h6 h7 h8 h9 h10 h11 h12 h13 h14) (hb P h0 h1 h2 h3 h4 h5 h6 h7 h8 h9 h10 h11 h12 h13 h14)
theorem Ok.bang {a : Ex} (ha : a.Ok) : (Ex.bang a).Ok := fun P h0 h1 h2 h3 h4 h5 h6 h7 h8 h9 h10 h11 h12 h13 h14 => h8 a (ha P h0 h1 h2 h3 h4 h5 h6 h7 h8 h9 h10 h11 h12 h13 h14)
theorem Ok.fn {a : Ex} (x : Fin 4) (ha : a.Ok) : (Ex.fn x a).Ok := fun P h0 h1 h2 h3 h4 h5 h6 h7 h8 h9 h10 h11 h12 h13 h14 => h9 x a (ha P h0 h1 h2 h3 h4 h5 h6 h7 h8 h9 h10 h11 h12 h13 h14)
theorem Ok.lett {a b : Ex} (x : Fin 4) (ha : a.Ok) (hb : b.Ok) : (Ex.lett x a b).Ok := fun P h0 h1 h2 h3 h4 h5 h6 h7 h8 h9 h10 h11 h12 h13 h14 => h10 x a b (ha P h0 h1 h2 h3 h4 h5 h6 h7 h8 h9 h10 h11 h12 h13 h14) (hb P h0 h1 h2 h3 h4 h5 h6 h7 h8 h9 h10 h11 h12 h13 h14)
theorem Ok.set {a b : Ex} (ha : a.Ok) (hb : b.Ok) : (Ex.set a b).Ok := fun P h0 h1 h2 h3 h4 h5 h6 h7 h8 h9 h10 h11 h12 h13 h14 => h11 a b (ha P h0 h1 h2 h3 h4 h5 h6 h7 h8 h9 h10 h11 h12 h13 h14) (hb P h0 h1 h2 h3 h4 h5 h6 h7 h8 h9 h10 h11 h12 h13 h14)
theorem Ok.seq {a b : Ex} (ha : a.Ok) (hb : b.Ok) : (Ex.seq a b).Ok := fun P h0 h1 h2 h3 h4 h5 h6 h7 h8 h9 h10 h11 h12 h13 h14 => h12 a b (ha P h0 h1 h2 h3 h4 h5 h6 h7 h8 h9 h10 h11 h12 h13 h14) (hb P h0 h1 h2 h3 h4 h5 h6 h7 h8 h9 h10 h11 h12 h13 h14)
theorem Ok.ite {a b c : Ex} (ha : a.Ok) (hb : b.Ok) (hc : c.Ok) : (Ex.ite a b c).Ok := fun P h0 h1 h2 h3 h4 h5 h6 h7 h8 h9 h10 h11 h12 h13 h14 => h13 a b c (ha P h0 h1 h2 h3 h4 h5 h6 h7 h8 h9 h10 h11 h12 h13 h14) (hb P h0 h1 h2 h3 h4 h5 h6 h7 h8 h9 h10 h11 h12 h13 h14) (hc P h0 h1 h2 h3 h4 h5 h6 h7 h8 h9 h10 h11 h12 h13 h14)
theorem Ok.mtch {a b c : Ex} (x : Fin 4) (ha : a.Ok) (hb : b.Ok) (hc : c.Ok) : (Ex.mtch x a b c).Ok := fun P h0 h1 h2 h3 h4 h5 h6 h7 h8 h9 h10 h11 h12 h13 h14 => h14 x a b c (ha P h0 h1 h2 h3 h4 h5 h6 h7 h8 h9 h10 h11 h12 h13 h14) (hb P h0 h1 h2 h3 h4 h5 h6 h7 h8 h9 h10 h11 h12 h13 h14) (hc P h0 h1 h2 h3 h4 h5 h6 h7 h8 h9 h10 h11 h12 h13 h14)

end Ex

/- How pieces are cut. -/
/-- Does a piece begin as a name, a number or a constructor goes on? -/
def wdB (t : List UInt8) : Bool := match t with
  | [] => false
  | c :: _ => conB c.toNat

/-- No two such stand next to one another. -/
def apart : Bool → Toks → Bool
  | _, [] => true
  | b, t :: r => !(b && wdB t) && apart (wdB t) r

def lastW : Bool → Toks → Bool
  | b, [] => b
  | _, t :: r => lastW (wdB t) r

theorem apart_app : ∀ (l r : Toks) (b : Bool), apart b (l ++ r) = (apart b l && apart (lastW b l) r) := by
  intro l
  induction l with
  | nil => intro r b; simp [apart, lastW]
  | cons t l ih => intro r b; simp only [List.cons_append, apart, lastW, ih, Bool.and_assoc]

/-- A token, or a blank: whatever stands behind it that does not go on with it. -/
def Piece (t : List UInt8) : Prop := t = [32] ∨ (t ≠ [] ∧ t ≠ [32] ∧ (∀ r, gap false (t ++ r) = 0) ∧ ∀ r, (∀ c x, r = c :: x → c ≠ 62 ∧ (wdB t = true → conB c.toNat = false)) → tokLen (t ++ r) = t.length) ∧ ∀ c x, t = c :: x → c ≠ 62

theorem cnt_app {p : Int → Bool} : ∀ (t r : List UInt8), (∀ c ∈ t, p c.toNat = true) → cnt p (t ++ r) = t.length + cnt p r := by
  intro t
  induction t with
  | nil => intro r _; simp
  | cons c t ih =>
    intro r h
    have h1 := h c (List.mem_cons_self ..)
    have h2 := ih r fun x hx => h x (List.mem_cons_of_mem _ hx)
    simp only [List.cons_append, cnt, h1, cond_true, h2, List.length_cons]; omega

theorem cnt_none {p : Int → Bool} {r : List UInt8} (h : ∀ c x, r = c :: x → p c.toNat = false) : cnt p r = 0 := by
  cases r with
  | nil => rfl
  | cons c x => simp [cnt, h c x rfl]

theorem gap_no {c : UInt8} (h1 : blankB c.toNat = false) (h2 : c ≠ 35) (x : List UInt8) : gap false (c :: x) = 0 := by simp [gap, h1, h2]

/-- A name or a word. -/
theorem piece_name {c : UInt8} {t : List UInt8} (h1 : smallB c.toNat = true) (h2 : ∀ x ∈ t, nameB x.toNat = true) : Piece (c :: t) := by
  have hb : blankB c.toNat = false := by
    revert h1; simp only [smallB, blankB, decide_eq_true_eq, Bool.or_eq_false_iff, beq_eq_false_iff_ne]; omega
  have h35 : c ≠ 35 := by rintro rfl; revert h1; decide
  have h32 : c ≠ 32 := by rintro rfl; revert h1; decide
  have h62 : c ≠ 62 := by rintro rfl; revert h1; decide
  refine Or.inr ⟨⟨by simp, by simp [h32], fun r => gap_no hb h35 _, fun r hr => ?_⟩, fun d x e => by cases e; exact h62⟩
  have hw : wdB (c :: t) = true := by simp [wdB, conB, small_name _ h1]
  have e1 : tokLen (c :: t ++ r) = cnt nameB (c :: t ++ r) := by simp only [List.cons_append, tokLen, nameLen, h1, cond_true]
  rw [e1, cnt_app (c :: t) r (by
    intro x hx
    rcases List.mem_cons.1 hx with rfl | hx
    · exact small_name _ h1
    · exact h2 x hx), cnt_none fun d x e => nameB_con _ ((hr d x e).2 hw)]; rfl

/-- A constructor. -/
theorem piece_con {c : UInt8} {t : List UInt8} (h1 : greatB c.toNat = true) (h2 : ∀ x ∈ t, conB x.toNat = true) : Piece (c :: t) := by
  have hb : blankB c.toNat = false := by
    revert h1; simp only [greatB, blankB, decide_eq_true_eq, Bool.or_eq_false_iff, beq_eq_false_iff_ne]; omega
  have hs : smallB c.toNat = false := by
    revert h1; simp only [greatB, smallB, decide_eq_true_eq, decide_eq_false_iff_not]; omega
  have h35 : c ≠ 35 := by rintro rfl; revert h1; decide
  have h32 : c ≠ 32 := by rintro rfl; revert h1; decide
  have h62 : c ≠ 62 := by rintro rfl; revert h1; decide
  refine Or.inr ⟨⟨by simp, by simp [h32], fun r => gap_no hb h35 _, fun r hr => ?_⟩, fun d x e => by cases e; exact h62⟩
  have hc : conB c.toNat = true := by simp [conB, h1]
  have hw : wdB (c :: t) = true := hc
  have e1 : tokLen (c :: t ++ r) = cnt conB (c :: t ++ r) := by simp only [List.cons_append, tokLen, hs, h1, cond_true, cond_false]
  rw [e1, cnt_app (c :: t) r (by
    intro x hx
    rcases List.mem_cons.1 hx with rfl | hx
    · exact hc
    · exact h2 x hx), cnt_none fun d x e => (hr d x e).2 hw]; rfl

/-- A number. -/
theorem piece_num {c : UInt8} {t : List UInt8} (h1 : digitB c.toNat = true) (h2 : ∀ x ∈ t, digitB x.toNat = true) (hl : (c :: t).length ≤ 18) : Piece (c :: t) := by
  have hb : blankB c.toNat = false := by
    revert h1; simp only [digitB, blankB, decide_eq_true_eq, Bool.or_eq_false_iff, beq_eq_false_iff_ne]; omega
  have hs : smallB c.toNat = false := by
    revert h1; simp only [digitB, smallB, decide_eq_true_eq, decide_eq_false_iff_not]; omega
  have hg : greatB c.toNat = false := by
    revert h1; simp only [digitB, greatB, decide_eq_true_eq, decide_eq_false_iff_not]; omega
  have h35 : c ≠ 35 := by rintro rfl; revert h1; decide
  have h32 : c ≠ 32 := by rintro rfl; revert h1; decide
  have h62 : c ≠ 62 := by rintro rfl; revert h1; decide
  refine Or.inr ⟨⟨by simp, by simp [h32], fun r => gap_no hb h35 _, fun r hr => ?_⟩, fun d x e => by cases e; exact h62⟩
  have hw : wdB (c :: t) = true := by simp [wdB, conB, nameB, h1]
  have e2 : cnt digitB (c :: t ++ r) = (c :: t).length := by
    rw [cnt_app (c :: t) r (by
      intro x hx
      rcases List.mem_cons.1 hx with rfl | hx
      · exact h1
      · exact h2 x hx), cnt_none fun d x e => digitB_con _ ((hr d x e).2 hw)]; rfl
  have e1 : tokLen (c :: t ++ r) = numLen (c :: t ++ r) := by simp only [List.cons_append, tokLen, hs, hg, h1, cond_true, cond_false]
  rw [e1, numLen, e2, if_neg (by omega)]

/-- A sign of one byte. -/
theorem piece_sign {c : UInt8} (hc : c ∈ signs) : Piece [c] := by
  have hs : smallB c.toNat = false ∧ greatB c.toNat = false ∧ digitB c.toNat = false ∧ c ≠ 39 ∧ blankB c.toNat = false ∧ c ≠ 35 ∧ c ≠ 32 ∧ c ≠ 62 ∧ c ≠ 58 := by
    revert c; decide
  obtain ⟨h1, h2, h3, h4, h5, h6, h7, h8, h9⟩ := hs
  refine Or.inr ⟨⟨by simp, by simp [h7], fun r => gap_no h5 h6 _, fun r hr => ?_⟩, fun d x e => by cases e; exact h8⟩
  have e1 : tokLen ([c] ++ r) = signLen (c :: r) := by simp only [List.cons_append, List.nil_append, tokLen, h1, h2, h3, cond_false]; rw [if_neg h4]
  have hn : ¬ (Lib.hasPrefix (c :: r) [58, 61] = true ∨ Lib.hasPrefix (c :: r) [45, 62] = true) := by
    cases r with
    | nil => simp [Lib.hasPrefix, List.isPrefixOf]
    | cons d x =>
      have := (hr d x rfl).1
      rintro (h | h)
      · simp [Lib.hasPrefix, List.isPrefixOf] at h; exact h9 h.1.symm
      · simp [Lib.hasPrefix, List.isPrefixOf] at h; exact this h.2.symm
  rw [e1, signLen, if_neg hn]
  simp [hc]

theorem piece_set : Piece K.set_ := by
  refine Or.inr ⟨⟨by decide, by decide, fun r => rfl, fun r _ => ?_⟩, fun d x e => by cases e; decide⟩
  simp [K.set_, tokLen, signLen, Lib.hasPrefix, List.isPrefixOf, smallB, greatB, digitB]

theorem piece_arrow : Piece K.arrow_ := by
  refine Or.inr ⟨⟨by decide, by decide, fun r => rfl, fun r _ => ?_⟩, fun d x e => by cases e; decide⟩
  simp [K.arrow_, tokLen, signLen, Lib.hasPrefix, List.isPrefixOf, smallB, greatB, digitB]

/-- The tokens among the pieces. -/
def toksOf (l : Toks) : Toks := l.filter (· != [32])

theorem flat_head : ∀ (l : Toks), (∀ t ∈ l, t ≠ []) → ∀ c x, l.flatten = c :: x → ∃ t r y, l = t :: r ∧ t = c :: y := by
  intro l h c x e
  cases l with
  | nil => cases e
  | cons t r =>
    cases t with
    | nil => exact absurd rfl (h [] (List.mem_cons_self ..))
    | cons d y =>
      simp only [List.flatten_cons, List.cons_append, List.cons.injEq] at e
      exact ⟨d :: y, r, y, rfl, by rw [e.1]⟩

theorem Piece.ne {t : List UInt8} (h : Piece t) : t ≠ [] := by
  rcases h with rfl | h
  · decide
  · exact h.1.1

theorem cut_pieces : ∀ (l : Toks) (b : Bool) (n k : Nat) (acc : Toks), l.length < n → (∀ t ∈ l, Piece t) → apart b l = true → cutF n l.flatten k acc = (acc ++ toksOf l, 0, 0) := by
  intro l
  induction l with
  | nil =>
    intro b n k acc _ _ _
    rw [cut_end _ _ _ _ (show ([] : Toks).flatten = [] from rfl)]
    simp [toksOf]
  | cons t r ih =>
    intro b n k acc hn hp ha
    have hlen : (t :: r).length = r.length + 1 := rfl
    have hr : ∀ x ∈ r, Piece x := fun x hx => hp x (List.mem_cons_of_mem _ hx)
    simp only [apart, Bool.and_eq_true] at ha
    have hih := fun m k a h => ih (wdB t) m k a h hr ha.2
    rw [List.flatten_cons]
    rcases hp t (List.mem_cons_self ..) with rfl | ⟨⟨hne, h32, hg, ht⟩, _⟩
    · have e1 : gap false ([32] ++ r.flatten) = 1 + gap false r.flatten := by
        have : blankB (32 : UInt8).toNat = true := by decide
        simp only [List.cons_append, List.nil_append, gap, this, cond_true]
      rw [cut_gap n _ k acc (by omega), e1, Nat.add_comm 1, show List.drop (gap false r.flatten + 1) ([32] ++ r.flatten) = r.flatten.drop (gap false r.flatten) from rfl]
      have h3 := cut_gap n r.flatten (k + 1) acc (by omega)
      rw [show k + (gap false r.flatten + 1) = k + 1 + gap false r.flatten by omega, ← h3, hih n (k + 1) acc (by omega)]
      rfl
    · have hb : ∀ c x, r.flatten = c :: x → c ≠ 62 ∧ (wdB t = true → conB c.toNat = false) := by
        intro c x e
        obtain ⟨t2, r2, y, rfl, rfl⟩ := flat_head r (fun x hx => (hr x hx).ne) c x e
        have h2 := hr _ (List.mem_cons_self ..)
        refine ⟨?_, fun hw => ?_⟩
        · rcases h2 with h2 | h2
          · injection h2 with h2 _
            rw [h2]; decide
          · exact h2.2 c y rfl
        · have ha2 := ha.2
          simp only [apart, Bool.and_eq_true, hw, Bool.true_and, Bool.not_eq_true'] at ha2
          exact ha2.1
      have hl := ht r.flatten hb
      have hpos : t.length ≠ 0 := fun h => hne (List.length_eq_zero_iff.1 h)
      rw [cut_tok n _ k acc (by omega) (by simp [hne]) (hg _) (by rw [hl]; exact hpos), hl, List.drop_left, List.take_left, hih (n - 1) _ _ (by omega), List.append_assoc]
      have : toksOf (t :: r) = t :: toksOf r := by
        unfold toksOf
        rw [List.filter_cons, if_pos (by simpa using h32)]
      rw [this]; rfl

theorem pieces_len : ∀ (l : Toks), (∀ t ∈ l, t ≠ []) → l.length ≤ l.flatten.length := by
  intro l
  induction l with
  | nil => intro _; exact Nat.le_refl _
  | cons t r ih =>
    intro h
    have h1 := ih fun x hx => h x (List.mem_cons_of_mem _ hx)
    have h2 : t.length ≠ 0 := fun e => h t (List.mem_cons_self ..) (List.length_eq_zero_iff.1 e)
    rw [List.flatten_cons, List.length_append, List.length_cons]; omega

theorem cutL_pieces (l : Toks) (hp : ∀ t ∈ l, Piece t) (ha : apart false l = true) (hl : l.flatten.length ≤ 4000) : cutL l.flatten = (toksOf l, 0, 0) := by
  unfold cutL
  have := pieces_len l fun t ht => (hp t ht).ne
  rw [if_neg (by omega), cut_pieces l false _ 0 [] (by omega) hp ha]
  rfl

end Go.Proofs.YtnocnkblhjifjaaGreatDoor
/-
  Plain mathematics: what kilnkeep writes is cut into the tokens that it is made of; how long the one and the other writing are.
-/
namespace Go.Proofs.YtnocnkblhjifjaaGreatDoor
open Go.RowKit
set_option linter.unusedSimpArgs false

def AllP (l : Toks) : Prop := ∀ t ∈ l, Piece t
theorem allP_nil : AllP [] := fun t h => by cases h
theorem allP_cons {t : List UInt8} {l : Toks} : AllP (t :: l) ↔ Piece t ∧ AllP l := by simp [AllP]
theorem allP_app {a b : Toks} : AllP (a ++ b) ↔ AllP a ∧ AllP b := by
  simp only [AllP, List.mem_append]
  exact ⟨fun h => ⟨fun t ht => h t (Or.inl ht), fun t ht => h t (Or.inr ht)⟩, fun h t ht => ht.elim (h.1 t) (h.2 t)⟩

def decOk (l : List UInt8) : Bool := match l with
  | [] => false
  | c :: t => digitB c.toNat && t.all (fun x => digitB x.toNat) && decide ((c :: t).length ≤ 3) && tokKind (c :: t) == 100 && numberP (c :: t) == c :: t

theorem decN_ok : ∀ n : Fin 1000, decOk (decN n.1) = true := by decide +kernel

theorem decN_facts (n : Fin 1000) : Piece (decN n.1) ∧ tokKind (decN n.1) = 100 ∧ numberP (decN n.1) = decN n.1 ∧ wdB (decN n.1) = true ∧ (decN n.1).length ≤ 3 ∧ decN n.1 ≠ [32] := by
  have h := decN_ok n
  generalize decN n.1 = l at *
  cases l with
  | nil => cases h
  | cons c t =>
    simp only [decOk, Bool.and_eq_true, List.all_eq_true, decide_eq_true_eq, beq_iff_eq] at h
    obtain ⟨⟨⟨⟨h1, h2⟩, h3⟩, h4⟩, h5⟩ := h
    refine ⟨piece_num h1 h2 (by omega), h4, h5, by simp [wdB, conB, nameB, h1], h3, ?_⟩
    intro e
    injection e with e _
    rw [e] at h1; revert h1; decide

theorem varN_facts : ∀ x : Fin 4, Piece (varN x) ∧ tokKind (varN x) = 110 ∧ wdB (varN x) = true ∧ (varN x).length = 1 ∧ varN x ≠ [32] := by
  intro x
  match x with
  | 0 => exact ⟨piece_name (by decide) (by simp), by decide, by decide, rfl, by decide⟩
  | 1 => exact ⟨piece_name (by decide) (by simp), by decide, by decide, rfl, by decide⟩
  | 2 => exact ⟨piece_name (by decide) (by simp), by decide, by decide, rfl, by decide⟩
  | 3 => exact ⟨piece_name (by decide) (by simp), by decide, by decide, rfl, by decide⟩

theorem op_facts (o : Op) : Piece [o.sign] ∧ wdB [o.sign] = false ∧ [o.sign] ≠ [32] := by
  rcases o.all with rfl | rfl | rfl | rfl | rfl | rfl <;> exact ⟨piece_sign (by decide), by decide, by decide⟩

theorem P.sp : Piece Ex.sp := Or.inl rfl
theorem P.open : Piece K.open_ := piece_sign (by decide)
theorem P.shut : Piece K.shut_ := piece_sign (by decide)
theorem P.bang : Piece K.bang_ := piece_sign (by decide)
theorem P.eq : Piece K.eq_ := piece_sign (by decide)
theorem P.semi : Piece K.semi_ := piece_sign (by decide)
theorem P.bar : Piece K.bar_ := piece_sign (by decide)
theorem P.under : Piece K.under_ := piece_sign (by decide)
theorem P.dot : Piece K.dot_ := piece_sign (by decide)
theorem P.true : Piece K.true_ := piece_name (by decide) (by decide)
theorem P.let : Piece K.let_ := piece_name (by decide) (by decide)
theorem P.in : Piece K.in_ := piece_name (by decide) (by decide)
theorem P.fun : Piece K.fun_ := piece_name (by decide) (by decide)
theorem P.if : Piece K.if_ := piece_name (by decide) (by decide)
theorem P.then : Piece K.then_ := piece_name (by decide) (by decide)
theorem P.else : Piece K.else_ := piece_name (by decide) (by decide)
theorem P.match : Piece K.match_ := piece_name (by decide) (by decide)
theorem P.with : Piece K.with_ := piece_name (by decide) (by decide)
theorem P.end : Piece K.end_ := piece_name (by decide) (by decide)
theorem P.nil : Piece Ex.nilN := piece_con (by decide) (by decide)
theorem P.cons : Piece Ex.consN := piece_con (by decide) (by decide)

theorem Ex.full_pieces : ∀ e : Ex, e.Ok → AllP e.full := by
  intro e he
  refine Ex.ind (Q := fun e => AllP e.full) ?_ ?_ ?_ ?_ ?_ ?_ ?_ ?_ ?_ ?_ ?_ ?_ ?_ ?_ ?_ he <;> intros <;> simp only [Ex.num, Ex.tru, Ex.unit, Ex.nil, Ex.var, Ex.leaf, Ex.op, Ex.app, Ex.cons, Ex.bang, Ex.fn, Ex.lett, Ex.set, Ex.seq, Ex.ite, Ex.mtch, List.cons_append, allP_cons, allP_app, allP_nil, and_true, P.sp, P.open, P.shut, P.bang, P.eq, P.semi, P.bar, P.under, P.true, P.let, P.in, P.fun, P.if, P.then, P.else, P.match, P.with, P.end, P.nil, P.cons, piece_set, piece_arrow, (varN_facts _).1, (decN_facts _).1, (op_facts _).1, *]

theorem wrap_pieces {b : Bool} {l : Toks} (h : AllP l) : AllP (Ex.wrap b l) := by
  cases b
  · exact h
  · simp only [Ex.wrap, cond_true, List.cons_append, allP_cons, allP_app, P.open, P.shut, h, allP_nil, and_true]

theorem Ex.bare_pieces : ∀ e : Ex, e.Ok → AllP e.bare := by
  intro e he
  refine Ex.ind (Q := fun e => AllP e.bare) ?_ ?_ ?_ ?_ ?_ ?_ ?_ ?_ ?_ ?_ ?_ ?_ ?_ ?_ ?_ he <;> intros <;> simp only [Ex.num, Ex.tru, Ex.unit, Ex.nil, Ex.var, Ex.leaf, Ex.op, Ex.app, Ex.cons, Ex.bang, Ex.fn, Ex.lett, Ex.set, Ex.seq, Ex.ite, Ex.mtch, List.cons_append, allP_cons, allP_app, allP_nil, and_true, P.sp, P.open, P.shut, P.bang, P.eq, P.semi, P.bar, P.under, P.true, P.let, P.in, P.fun, P.if, P.then, P.else, P.match, P.with, P.end, P.nil, P.cons, piece_set, piece_arrow, (varN_facts _).1, (decN_facts _).1, (op_facts _).1, wrap_pieces, *]

theorem W.sp : wdB Ex.sp = false := by decide
theorem W.open : wdB K.open_ = false := by decide
theorem W.shut : wdB K.shut_ = false := by decide
theorem W.bang : wdB K.bang_ = false := by decide
theorem W.eq : wdB K.eq_ = false := by decide
theorem W.semi : wdB K.semi_ = false := by decide
theorem W.bar : wdB K.bar_ = false := by decide
theorem W.dot : wdB K.dot_ = false := by decide
theorem W.set : wdB K.set_ = false := by decide
theorem W.arrow : wdB K.arrow_ = false := by decide

theorem Ex.full_apart : ∀ e : Ex, e.Ok → apart false e.full = true := by
  intro e he
  refine Ex.ind (Q := fun e => apart false e.full = true) ?_ ?_ ?_ ?_ ?_ ?_ ?_ ?_ ?_ ?_ ?_ ?_ ?_ ?_ ?_ he <;> intros <;> simp only [Ex.num, Ex.tru, Ex.unit, Ex.nil, Ex.var, Ex.leaf, Ex.op, Ex.app, Ex.cons, Ex.bang, Ex.fn, Ex.lett, Ex.set, Ex.seq, Ex.ite, Ex.mtch, List.cons_append, apart, apart_app, W.sp, W.open, W.shut, W.bang, W.eq, W.semi, W.bar, W.set, W.arrow, (op_facts _).2.1, Bool.and_false, Bool.false_and, Bool.not_false, Bool.and_true, *]

theorem wrap_apart {b : Bool} {l : Toks} (h : apart false l = true) : apart false (Ex.wrap b l) = true := by
  cases b
  · exact h
  · simp only [Ex.wrap, cond_true, List.cons_append, apart, apart_app, W.open, W.shut, Bool.and_false, Bool.not_false, Bool.and_true, h]

theorem Ex.bare_apart : ∀ e : Ex, e.Ok → apart false e.bare = true := by
  intro e he
  refine Ex.ind (Q := fun e => apart false e.bare = true) ?_ ?_ ?_ ?_ ?_ ?_ ?_ ?_ ?_ ?_ ?_ ?_ ?_ ?_ ?_ he <;> intros <;> simp only [Ex.num, Ex.tru, Ex.unit, Ex.nil, Ex.var, Ex.leaf, Ex.op, Ex.app, Ex.cons, Ex.bang, Ex.fn, Ex.lett, Ex.set, Ex.seq, Ex.ite, Ex.mtch, List.cons_append, apart, apart_app, W.sp, W.open, W.shut, W.bang, W.eq, W.semi, W.bar, W.set, W.arrow, (op_facts _).2.1, Bool.and_false, Bool.false_and, Bool.not_false, Bool.and_true, wrap_apart, *]

/- Lengths. -/
/-- How much longer, at most. -/
def moreK : Nat → Nat
  | 0 => 4
  | d + 1 => max (2 * moreK d + 68) (3 * moreK d - 159)

theorem moreK_up (d : Nat) : moreK d ≤ moreK (d + 1) := by rw [moreK]; omega

theorem moreK_mono {a b : Nat} (h : a ≤ b) : moreK a ≤ moreK b := by
  induction b with
  | zero => obtain rfl : a = 0 := by omega
            exact Nat.le_refl _
  | succ b ih =>
    by_cases e : a = b + 1
    · rw [e]; exact Nat.le_refl _
    · exact Nat.le_trans (ih (by omega)) (moreK_up b)

/-- Bytes. -/
def lenT (l : Toks) : Nat := l.flatten.length
theorem lenT_nil : lenT [] = 0 := rfl
theorem lenT_cons (t : List UInt8) (l : Toks) : lenT (t :: l) = t.length + lenT l := by simp [lenT]
theorem lenT_app (a b : Toks) : lenT (a ++ b) = lenT a + lenT b := by simp [lenT]
theorem lenT_wrap (b : Bool) (l : Toks) : lenT (Ex.wrap b l) ≤ lenT l + 2 := by
  cases b
  · simp [Ex.wrap]
  · simp [Ex.wrap, lenT, K.open_, K.shut_]

theorem Ex.bare_len : ∀ e : Ex, e.Ok → 30 * lenT e.bare ≤ 29 * lenT e.full + moreK e.dep := by
  intro e he
  refine Ex.ind (Q := fun e => 30 * lenT e.bare ≤ 29 * lenT e.full + moreK e.dep) ?num ?tru ?unit ?nil ?var ?op ?app ?cons ?bang ?fn ?lett ?set ?seq ?ite ?mtch he
  case num =>
    intro n
    have := (decN_facts n).2.2.2.2.1; simp only [Ex.num, Ex.tru, Ex.unit, Ex.nil, Ex.var, Ex.leaf, Ex.op, Ex.app, Ex.cons, Ex.bang, Ex.fn, Ex.lett, Ex.set, Ex.seq, Ex.ite, Ex.mtch, lenT_cons, lenT_nil, moreK]; omega
  case tru =>
    decide
  case unit =>
    decide
  case nil =>
    decide
  case var =>
    intro x
    have := (varN_facts x).2.2.2.1; simp only [Ex.num, Ex.tru, Ex.unit, Ex.nil, Ex.var, Ex.leaf, Ex.op, Ex.app, Ex.cons, Ex.bang, Ex.fn, Ex.lett, Ex.set, Ex.seq, Ex.ite, Ex.mtch, lenT_cons, lenT_nil, moreK]; omega
  case op =>
    intro o a b iha ihb
    have h1 := moreK_mono (Nat.le_max_left a.dep b.dep)
    have h2 := moreK_mono (Nat.le_max_right a.dep b.dep)
    have h3 := lenT_wrap (decide (a.level < o.left)) a.bare
    have h4 := lenT_wrap (decide (b.level < o.right)) b.bare
    simp only [Ex.num, Ex.tru, Ex.unit, Ex.nil, Ex.var, Ex.leaf, Ex.op, Ex.app, Ex.cons, Ex.bang, Ex.fn, Ex.lett, Ex.set, Ex.seq, Ex.ite, Ex.mtch, lenT_cons, lenT_app, lenT_nil, List.cons_append, moreK, K.open_, K.shut_, List.length_cons, List.length_nil]; omega
  case app =>
    intro f a iha ihb
    have h1 := moreK_mono (Nat.le_max_left f.dep a.dep)
    have h2 := moreK_mono (Nat.le_max_right f.dep a.dep)
    have h3 := lenT_wrap (decide (f.level < 4) || f.isCon) f.bare
    have h4 := lenT_wrap (decide (a.level < 5)) a.bare
    simp only [Ex.num, Ex.tru, Ex.unit, Ex.nil, Ex.var, Ex.leaf, Ex.op, Ex.app, Ex.cons, Ex.bang, Ex.fn, Ex.lett, Ex.set, Ex.seq, Ex.ite, Ex.mtch, lenT_cons, lenT_app, lenT_nil, List.cons_append, moreK, K.open_, K.shut_, Ex.sp, List.length_cons, List.length_nil]; omega
  case cons =>
    intro a b iha ihb
    have h1 := moreK_mono (Nat.le_max_left a.dep b.dep)
    have h2 := moreK_mono (Nat.le_max_right a.dep b.dep)
    have h3 := lenT_wrap (decide (a.level < 5)) a.bare
    have h4 := lenT_wrap (decide (b.level < 5)) b.bare
    simp only [Ex.num, Ex.tru, Ex.unit, Ex.nil, Ex.var, Ex.leaf, Ex.op, Ex.app, Ex.cons, Ex.bang, Ex.fn, Ex.lett, Ex.set, Ex.seq, Ex.ite, Ex.mtch, lenT_cons, lenT_app, lenT_nil, List.cons_append, moreK, K.open_, K.shut_, Ex.sp, Ex.consN, List.length_cons, List.length_nil]; omega
  case bang =>
    intro a iha
    have h3 := lenT_wrap (decide (a.level < 5)) a.bare
    simp only [Ex.num, Ex.tru, Ex.unit, Ex.nil, Ex.var, Ex.leaf, Ex.op, Ex.app, Ex.cons, Ex.bang, Ex.fn, Ex.lett, Ex.set, Ex.seq, Ex.ite, Ex.mtch, lenT_cons, lenT_app, lenT_nil, List.cons_append, moreK, K.open_, K.shut_, K.bang_, List.length_cons, List.length_nil]; omega
  case fn =>
    intro x a iha
    have := (varN_facts x).2.2.2.1
    simp only [Ex.num, Ex.tru, Ex.unit, Ex.nil, Ex.var, Ex.leaf, Ex.op, Ex.app, Ex.cons, Ex.bang, Ex.fn, Ex.lett, Ex.set, Ex.seq, Ex.ite, Ex.mtch, lenT_cons, lenT_app, lenT_nil, List.cons_append, moreK, K.open_, K.shut_, K.fun_, K.arrow_, Ex.sp, List.length_cons, List.length_nil]; omega
  case lett =>
    intro x a b iha ihb
    have := (varN_facts x).2.2.2.1
    have h1 := moreK_mono (Nat.le_max_left a.dep b.dep)
    have h2 := moreK_mono (Nat.le_max_right a.dep b.dep)
    simp only [Ex.num, Ex.tru, Ex.unit, Ex.nil, Ex.var, Ex.leaf, Ex.op, Ex.app, Ex.cons, Ex.bang, Ex.fn, Ex.lett, Ex.set, Ex.seq, Ex.ite, Ex.mtch, lenT_cons, lenT_app, lenT_nil, List.cons_append, moreK, K.open_, K.shut_, K.let_, K.eq_, K.in_, Ex.sp, List.length_cons, List.length_nil]; omega
  case set =>
    intro a b iha ihb
    have h1 := moreK_mono (Nat.le_max_left a.dep b.dep)
    have h2 := moreK_mono (Nat.le_max_right a.dep b.dep)
    have h3 := lenT_wrap (decide (a.level < 1)) a.bare
    have h4 := lenT_wrap (decide (b.level < 1)) b.bare
    simp only [Ex.num, Ex.tru, Ex.unit, Ex.nil, Ex.var, Ex.leaf, Ex.op, Ex.app, Ex.cons, Ex.bang, Ex.fn, Ex.lett, Ex.set, Ex.seq, Ex.ite, Ex.mtch, lenT_cons, lenT_app, lenT_nil, List.cons_append, moreK, K.open_, K.shut_, K.set_, Ex.sp, List.length_cons, List.length_nil]; omega
  case seq =>
    intro a b iha ihb
    have h1 := moreK_mono (Nat.le_max_left a.dep b.dep)
    have h2 := moreK_mono (Nat.le_max_right a.dep b.dep)
    have h3 := lenT_wrap (decide (a.level < 1) && !a.isSet) a.bare
    simp only [Ex.num, Ex.tru, Ex.unit, Ex.nil, Ex.var, Ex.leaf, Ex.op, Ex.app, Ex.cons, Ex.bang, Ex.fn, Ex.lett, Ex.set, Ex.seq, Ex.ite, Ex.mtch, lenT_cons, lenT_app, lenT_nil, List.cons_append, moreK, K.open_, K.shut_, K.semi_, Ex.sp, List.length_cons, List.length_nil]; omega
  case ite =>
    intro a b c iha ihb ihc
    have h1 := moreK_mono (Nat.le_max_left a.dep (max b.dep c.dep))
    have h2 := moreK_mono (show b.dep ≤ max a.dep (max b.dep c.dep) by omega)
    have h5 := moreK_mono (show c.dep ≤ max a.dep (max b.dep c.dep) by omega)
    simp only [Ex.num, Ex.tru, Ex.unit, Ex.nil, Ex.var, Ex.leaf, Ex.op, Ex.app, Ex.cons, Ex.bang, Ex.fn, Ex.lett, Ex.set, Ex.seq, Ex.ite, Ex.mtch, lenT_cons, lenT_app, lenT_nil, List.cons_append, moreK, K.open_, K.shut_, K.if_, K.then_, K.else_, Ex.sp, List.length_cons, List.length_nil]; omega
  case mtch =>
    intro x a b c iha ihb ihc
    have := (varN_facts x).2.2.2.1
    have h1 := moreK_mono (Nat.le_max_left a.dep (max b.dep c.dep))
    have h2 := moreK_mono (show b.dep ≤ max a.dep (max b.dep c.dep) by omega)
    have h5 := moreK_mono (show c.dep ≤ max a.dep (max b.dep c.dep) by omega)
    simp only [Ex.num, Ex.tru, Ex.unit, Ex.nil, Ex.var, Ex.leaf, Ex.op, Ex.app, Ex.cons, Ex.bang, Ex.fn, Ex.lett, Ex.set, Ex.seq, Ex.ite, Ex.mtch, lenT_cons, lenT_app, lenT_nil, List.cons_append, moreK, K.open_, K.shut_, K.match_, K.with_, K.bar_, K.arrow_, K.under_, K.end_, Ex.nilN, Ex.consN, Ex.sp, List.length_cons, List.length_nil]; omega

/-- The longer one is short enough: so is the other one. -/
theorem Ex.bare_short (e : Ex) (he : e.Ok) (hd : e.dep ≤ 5) (h : lenT e.full + 12 ≤ 4000) : lenT e.bare + 7 ≤ 4000 := by
  have h1 := e.bare_len he
  have h2 := moreK_mono hd
  have h3 : moreK 5 = 3936 := by decide
  omega

end Go.Proofs.YtnocnkblhjifjaaGreatDoor
/-
  Plain mathematics: an expression that is written with the brackets that it needs, or with more, is understood as it was meant.
-/
namespace Go.Proofs.YtnocnkblhjifjaaGreatDoor
open Go.RowKit

/- What may stand behind. -/
def C_ : Toks := [[], K.shut_, K.then_, K.else_, K.in_, K.with_, K.bar_, K.end_]
def S0_ : Toks := C_ ++ [K.semi_, K.set_]
def S2_ : Toks := S0_ ++ [[61], [60], [43], [45]]
def S3_ : Toks := S2_ ++ [[42], [47]]

def atomStart (x : List UInt8) : Bool := tokKind x == 100 || tokKind x == 110 || tokKind x == 99 || (tokKind x == 119 && (x == K.true_ || x == K.false_ || x == K.open_ || x == K.bang_ || x == K.match_))

def signB (k : Nat) (x : List UInt8) : Bool := tokKind x == 119 && x.length == 1 && (signsAt k).contains (x.getD 0 0)

theorem S3_atom : ∀ x ∈ S3_, atomStart x = false := by decide
theorem S2_sign : ∀ x ∈ S2_, signB 2 x = false := by decide
theorem S0_sign : ∀ x ∈ S0_, signB 1 x = false ∧ signB 0 x = false := by decide
theorem C_mark : ∀ x ∈ C_, (x == K.semi_) = false ∧ (x == K.set_) = false := by decide
theorem C_S0 {x : List UInt8} (h : x ∈ C_) : x ∈ S0_ := List.mem_append_left _ h
theorem S0_S2 {x : List UInt8} (h : x ∈ S0_) : x ∈ S2_ := List.mem_append_left _ h
theorem S2_S3 {x : List UInt8} (h : x ∈ S2_) : x ∈ S3_ := List.mem_append_left _ h

theorem atom_none {rest : Toks} (h : atomStart (rest.headD []) = false) : (Classical.choice lf).atom rest = some (none, rest) := by
  simp only [atomStart, Bool.or_eq_false_iff, Bool.and_eq_false_iff] at h
  obtain ⟨⟨⟨h1, h2⟩, h3⟩, h4⟩ := h
  have key : ∀ y, (rest.headD [] == y) = false ∨ (tokKind (rest.headD []) == 119) = false → G.isW y rest = false := by
    intro y hy
    unfold G.isW
    rcases hy with hy | hy <;> rw [hy] <;> simp
  have hW : G.isW K.true_ rest = false ∧ G.isW K.false_ rest = false ∧ G.isW K.open_ rest = false ∧ G.isW K.bang_ rest = false ∧ G.isW K.match_ rest = false := by
    rcases h4 with h4 | h4
    · exact ⟨key _ (Or.inr h4), key _ (Or.inr h4), key _ (Or.inr h4), key _ (Or.inr h4), key _ (Or.inr h4)⟩
    · obtain ⟨⟨⟨⟨a, b⟩, c⟩, d⟩, e⟩ := h4
      exact ⟨key _ (Or.inl a), key _ (Or.inl b), key _ (Or.inl c), key _ (Or.inl d), key _ (Or.inl e)⟩
  obtain ⟨w1, w2, w3, w4, w5⟩ := hW
  have hp : G.plain rest = none := by
    unfold G.plain G.kindOf
    rw [h1, h2, h3, w1, w2]; rfl
  rw [(Classical.choice lf).atom_eq, hp]
  simp only [w3, w4, w5, cond_false]

theorem atoms_none {rest : Toks} (h : atomStart (rest.headD []) = false) : (Classical.choice lf).atoms rest = some ([], rest) := by
  rw [(Classical.choice lf).atoms_eq, atom_none h]; rfl

theorem levels_none {k : Nat} {t : Tr} {rest : Toks} (h : signB k (rest.headD []) = false) : (Classical.choice lf).levels k t rest = some (t, rest) := by
  rw [(Classical.choice lf).levels_eq]
  unfold signB at h
  unfold G.kindOf
  rw [h]; rfl

/- What is read. -/
def AtomP (l : Toks) (t : Tr) : Prop := ∀ rest, (Classical.choice lf).atom (l ++ rest) = some (some t, rest)
def AppP (l : Toks) (t : Tr) : Prop := ∀ rest, rest.headD [] ∈ S3_ → (Classical.choice lf).app (l ++ rest) = some (t, rest)
def L2P (l : Toks) (t : Tr) : Prop := ∀ rest, rest.headD [] ∈ S3_ → (Classical.choice lf).level 2 (l ++ rest) = (Classical.choice lf).levels 2 t rest
def L1P (l : Toks) (t : Tr) : Prop := ∀ rest, rest.headD [] ∈ S2_ → (Classical.choice lf).level 1 (l ++ rest) = (Classical.choice lf).levels 1 t rest
def L0P (l : Toks) (t : Tr) : Prop := ∀ rest, rest.headD [] ∈ S0_ → (Classical.choice lf).level 0 (l ++ rest) = some (t, rest)
def ExprP (l : Toks) (t : Tr) : Prop := ∀ rest, rest.headD [] ∈ C_ → (Classical.choice lf).expr (l ++ rest) = some (t, rest)
/-- A row of atoms, whatever atoms stand behind. -/
def SpineP (l : Toks) (t : Tr) : Prop := ∀ rest ls r, (Classical.choice lf).atoms rest = some (ls, r) → ∃ f0 fs mid, (Classical.choice lf).atom (l ++ rest) = some (some f0, mid) ∧ (Classical.choice lf).atoms mid = some (fs ++ ls, r) ∧ G.apps fs f0 = t

theorem AppP.l2 {l : Toks} {t : Tr} (h : AppP l t) : L2P l t := by
  intro rest hr
  rw [(Classical.choice lf).level_eq, if_neg (by decide), (Classical.choice lf).level_eq, if_pos (by decide), h rest hr]; rfl

theorem L2P.l1 {l : Toks} {t : Tr} (h : L2P l t) : L1P l t := by
  intro rest hr
  rw [(Classical.choice lf).level_eq, if_neg (by decide), h rest (S2_S3 hr), levels_none (S2_sign _ hr)]; rfl

theorem L1P.l0 {l : Toks} {t : Tr} (h : L1P l t) : L0P l t := by
  intro rest hr
  rw [(Classical.choice lf).level_eq, if_neg (by decide), h rest (S0_S2 hr), levels_none (S0_sign _ hr).1, Option.bind_some, levels_none (S0_sign _ hr).2]

theorem headD_cons (x : List UInt8) (l : Toks) : (x :: l).headD [] = x := rfl

/-- How a writing begins. -/
def Begins (l : Toks) (p : List UInt8 → Bool) : Prop := ∃ x r, l = x :: r ∧ p x = true

theorem Begins.app {l : Toks} {p : List UInt8 → Bool} (h : Begins l p) (rest : Toks) : p ((l ++ rest).headD []) = true := by
  obtain ⟨x, r, rfl, h⟩ := h
  exact h

theorem Begins.mono {l : Toks} {p q : List UInt8 → Bool} (h : Begins l p) (hq : ∀ x, p x = true → q x = true) : Begins l q := by
  obtain ⟨x, r, e, h⟩ := h
  exact ⟨x, r, e, hq x h⟩

theorem Begins.cat {l : Toks} {p : List UInt8 → Bool} (h : Begins l p) (m : Toks) : Begins (l ++ m) p := by
  obtain ⟨x, r, rfl, h⟩ := h
  exact ⟨x, r ++ m, rfl, h⟩

def notShut (x : List UInt8) : Bool := x != K.shut_
def notForm (x : List UInt8) : Bool := x != K.shut_ && x != K.let_ && x != K.fun_ && x != K.if_
def notCon (x : List UInt8) : Bool := x != K.shut_ && x != K.let_ && x != K.fun_ && x != K.if_ && tokKind x != 99

theorem isW_no {x : List UInt8} {ts : Toks} (h : (ts.headD [] != x) = true) : G.isW x ts = false := by
  unfold G.isW
  rw [bne_iff_ne] at h
  rw [show (ts.headD [] == x) = false by simpa using h, Bool.and_false]

theorem L0P.expr {l : Toks} {t : Tr} (h : L0P l t) (hb : Begins l notForm) : ExprP l t := by
  intro rest hr
  have h1 := hb.app rest
  simp only [notForm, Bool.and_eq_true] at h1
  have h2 := C_mark _ hr
  rw [(Classical.choice lf).expr_eq, isW_no h1.1.1.2, isW_no h1.1.2, isW_no h1.2]
  simp only [cond_false]
  rw [h rest (C_S0 hr), Option.bind_some, (Classical.choice lf).set_eq, G.isW, h2.2, Bool.and_false, cond_false, Option.bind_some, G.isW, h2.1, Bool.and_false, cond_false]

theorem AtomP.spine {l : Toks} {t : Tr} (h : AtomP l t) : SpineP l t := by
  intro rest ls r hr
  exact ⟨t, [], rest, h rest, hr, rfl⟩

theorem SpineP.app {l : Toks} {t : Tr} (h : SpineP l t) (hb : Begins l notCon) : AppP l t := by
  intro rest hr
  obtain ⟨f0, fs, mid, h1, h2, h3⟩ := h rest [] rest (atoms_none (S3_atom _ hr))
  have h4 := hb.app rest
  simp only [notCon, Bool.and_eq_true, bne_iff_ne] at h4
  rw [(Classical.choice lf).app_eq, G.kindOf, show (tokKind ((l ++ rest).headD []) == 99) = false by simpa using h4.2, cond_false, h1]
  simp only [Option.bind_some]
  rw [h2, List.append_nil]
  simp only [Option.bind_some]
  rw [h3]

theorem apps_snoc (a : Tr) : ∀ (l : List Tr) (f : Tr), G.apps (l ++ [a]) f = .mk K.app_ [] [G.apps l f, a] := by
  intro l
  induction l with
  | nil => intro f; rfl
  | cons b l ih => intro f; exact ih _

/-- In brackets. -/
theorem ExprP.brackets {l : Toks} {t : Tr} (h : ExprP l t) (hb : Begins l notShut) : AtomP (K.open_ :: l ++ [K.shut_]) t := by
  intro rest
  have e : K.open_ :: l ++ [K.shut_] ++ rest = K.open_ :: (l ++ K.shut_ :: rest) := by simp
  have hx := h (K.shut_ :: rest) (by rw [headD_cons]; decide)
  have hn := hb.app (K.shut_ :: rest)
  rw [e, (Classical.choice lf).atom_eq]
  have hp : G.plain (K.open_ :: (l ++ K.shut_ :: rest)) = none := rfl
  have hw : G.isW K.open_ (K.open_ :: (l ++ K.shut_ :: rest)) = true := rfl
  have hw2 : G.want K.shut_ (K.shut_ :: rest) = some rest := rfl
  rw [hp]
  simp only [hw, cond_true, List.tail_cons, isW_no hn, cond_false, hx, Option.bind_some, hw2]

/-- What is known of a writing of an expression. -/
structure Fine (e : Ex) (l : Toks) : Prop where
  head : Begins l notShut
  headE : 1 ≤ e.level ∨ e.isSet = true → Begins l notForm
  headC : 4 ≤ e.level → e.isCon = false → Begins l notCon
  expr : ExprP l e.tree
  l0 : 1 ≤ e.level → L0P l e.tree
  l1 : 2 ≤ e.level → L1P l e.tree
  l2 : 3 ≤ e.level → L2P l e.tree
  app : 4 ≤ e.level → AppP l e.tree
  spine : 4 ≤ e.level → e.isCon = false → SpineP l e.tree
  atom : 5 ≤ e.level → AtomP l e.tree
  set : e.isSet = true → ∀ rest, rest.headD [] ∈ C_ ∨ rest.headD [] = K.semi_ → ((Classical.choice lf).level 0 (l ++ rest)).bind (fun a => (Classical.choice lf).set a.1 a.2) = some (e.tree, rest)

theorem notForm_shut (x : List UInt8) (h : notForm x = true) : notShut x = true := by
  simp only [notForm, Bool.and_eq_true] at h; exact h.1.1.1
theorem notCon_form (x : List UInt8) (h : notCon x = true) : notForm x = true := by
  simp only [notCon, Bool.and_eq_true] at h; simp only [notForm, Bool.and_eq_true]; exact h.1

/-- An atom that is no con. -/
theorem fine_atom {e : Ex} {l : Toks} (hs : e.isSet = false) (hb : Begins l notCon) (ha : AtomP l e.tree) : Fine e l :=
  have hA := ha.spine.app hb
  ⟨(hb.mono notCon_form).mono notForm_shut, fun _ => hb.mono notCon_form, fun _ _ => hb, hA.l2.l1.l0.expr (hb.mono notCon_form), fun _ => hA.l2.l1.l0, fun _ => hA.l2.l1, fun _ => hA.l2, fun _ => hA, fun _ _ => ha.spine, fun _ => ha, fun h => by rw [hs] at h; cases h⟩

/-- What binds less tightly. -/
theorem fine_app {e : Ex} {l : Toks} (hl : e.level = 4) (hs : e.isSet = false) (hb : Begins l notForm) (hA : AppP l e.tree) (hC : e.isCon = false → Begins l notCon ∧ SpineP l e.tree) : Fine e l :=
  ⟨hb.mono notForm_shut, fun _ => hb, fun _ h => (hC h).1, hA.l2.l1.l0.expr hb, fun _ => hA.l2.l1.l0, fun _ => hA.l2.l1, fun _ => hA.l2, fun _ => hA, fun _ h => (hC h).2, fun h => by omega, fun h => by rw [hs] at h; cases h⟩

theorem fine_none {e : Ex} {l : Toks} (hl : e.level = 0) (hs : e.isSet = false) (hb : Begins l notShut) (hE : ExprP l e.tree) : Fine e l :=
  ⟨hb, (fun h => h.elim (fun h => by omega) (fun h => by rw [hs] at h; cases h)), fun h => by omega, hE, fun h => by omega, fun h => by omega, fun h => by omega, fun h => by omega, fun h => by omega, fun h => by omega, fun h => by rw [hs] at h; cases h⟩

/-- A part, in brackets or not. -/
structure Part (t : Tr) (l : Toks) : Prop where
  head : Begins l notForm
  l0 : L0P l t

def AtomPart (l : Toks) (t : Tr) : Prop := Begins l notCon ∧ AtomP l t

theorem atom_brackets {e : Ex} {x : Toks} (h : Fine e x) : AtomPart (K.open_ :: x ++ [K.shut_]) e.tree :=
  ⟨⟨K.open_, x ++ [K.shut_], rfl, by decide⟩, h.expr.brackets h.head⟩

theorem AtomPart.appP {l : Toks} {t : Tr} (h : AtomPart l t) : AppP l t := h.2.spine.app h.1

section
variable {e : Ex} {l : Toks}

theorem wa_expr (hf : ∀ x, e.wr x → Fine e x) {c : Prop} (h : Wa e.wr c l) : ExprP l e.tree ∧ Begins l notShut := by
  rcases h with ⟨x, hx, rfl⟩ | ⟨_, hx⟩
  · have h := atom_brackets (hf x hx)
    exact ⟨h.appP.l2.l1.l0.expr (h.1.mono notCon_form), (h.1.mono notCon_form).mono notForm_shut⟩
  · exact ⟨(hf l hx).expr, (hf l hx).head⟩

theorem wa_l0 (hf : ∀ x, e.wr x → Fine e x) {c : Prop} (hc : c → 1 ≤ e.level) (h : Wa e.wr c l) : L0P l e.tree ∧ Begins l notForm := by
  rcases h with ⟨x, hx, rfl⟩ | ⟨h, hx⟩
  · have h := atom_brackets (hf x hx)
    exact ⟨h.appP.l2.l1.l0, h.1.mono notCon_form⟩
  · exact ⟨(hf l hx).l0 (hc h), (hf l hx).headE (Or.inl (hc h))⟩

theorem wa_l1 (hf : ∀ x, e.wr x → Fine e x) {c : Prop} (hc : c → 2 ≤ e.level) (h : Wa e.wr c l) : L1P l e.tree ∧ Begins l notForm := by
  rcases h with ⟨x, hx, rfl⟩ | ⟨h, hx⟩
  · have h := atom_brackets (hf x hx)
    exact ⟨h.appP.l2.l1, h.1.mono notCon_form⟩
  · exact ⟨(hf l hx).l1 (hc h), (hf l hx).headE (Or.inl (by have := hc h; omega))⟩

theorem wa_l2 (hf : ∀ x, e.wr x → Fine e x) {c : Prop} (hc : c → 3 ≤ e.level) (h : Wa e.wr c l) : L2P l e.tree ∧ Begins l notForm := by
  rcases h with ⟨x, hx, rfl⟩ | ⟨h, hx⟩
  · have h := atom_brackets (hf x hx)
    exact ⟨h.appP.l2, h.1.mono notCon_form⟩
  · exact ⟨(hf l hx).l2 (hc h), (hf l hx).headE (Or.inl (by have := hc h; omega))⟩

theorem wa_app (hf : ∀ x, e.wr x → Fine e x) {c : Prop} (hc : c → 4 ≤ e.level) (h : Wa e.wr c l) : AppP l e.tree ∧ Begins l notForm := by
  rcases h with ⟨x, hx, rfl⟩ | ⟨h, hx⟩
  · have h := atom_brackets (hf x hx)
    exact ⟨h.appP, h.1.mono notCon_form⟩
  · exact ⟨(hf l hx).app (hc h), (hf l hx).headE (Or.inl (by have := hc h; omega))⟩

theorem wa_atom (hf : ∀ x, e.wr x → Fine e x) {c : Prop} (hc : c → 5 ≤ e.level) (h : Wa e.wr c l) : AtomP l e.tree ∧ Begins l notForm := by
  rcases h with ⟨x, hx, rfl⟩ | ⟨h, hx⟩
  · have h := atom_brackets (hf x hx)
    exact ⟨h.2, h.1.mono notCon_form⟩
  · exact ⟨(hf l hx).atom (hc h), (hf l hx).headE (Or.inl (by have := hc h; omega))⟩

theorem wa_spine (hf : ∀ x, e.wr x → Fine e x) (h : Wa e.wr (4 ≤ e.level ∧ e.isCon = false) l) : SpineP l e.tree ∧ Begins l notCon := by
  rcases h with ⟨x, hx, rfl⟩ | ⟨h, hx⟩
  · have h := atom_brackets (hf x hx)
    exact ⟨h.2.spine, h.1⟩
  · exact ⟨(hf l hx).spine h.1 h.2, (hf l hx).headC h.1 h.2⟩

end

end Go.Proofs.YtnocnkblhjifjaaGreatDoor
/-
  Plain mathematics: every writing of an expression is read as its tree.
-/
namespace Go.Proofs.YtnocnkblhjifjaaGreatDoor
open Go.RowKit

theorem plain_num {x : List UInt8} (h : tokKind x = 100) (rest : Toks) : G.plain (x :: rest) = some (.mk K.num_ (numberP x) [], rest) := by
  unfold G.plain G.kindOf
  rw [headD_cons, h]; rfl

theorem plain_var {x : List UInt8} (h : tokKind x = 110) (rest : Toks) : G.plain (x :: rest) = some (.mk K.var_ x [], rest) := by
  unfold G.plain G.kindOf
  rw [headD_cons, h]; rfl

theorem atom_plain {ts : Toks} {q : Tr × Toks} (h : G.plain ts = some q) : (Classical.choice lf).atom ts = some (some q.1, q.2) := by
  rw [(Classical.choice lf).atom_eq, h]

theorem prodP {s : UInt8} (hs : s = 42 ∨ s = 47) {la lb : Toks} {ta tb : Tr} (ha : L2P la ta) (hb : AppP lb tb) : L2P (la ++ [s] :: lb) (.mk [s] [] [ta, tb]) := by
  intro rest hr
  have e : la ++ [s] :: lb ++ rest = la ++ [s] :: (lb ++ rest) := by simp
  have hS : ([s] : List UInt8) ∈ S3_ := by rcases hs with rfl | rfl <;> decide
  have hc : (G.kindOf ([s] :: (lb ++ rest)) == 119 && ((([s] : List UInt8) :: (lb ++ rest)).headD []).length == 1 && (signsAt 2).contains (((([s] : List UInt8) :: (lb ++ rest)).headD []).getD 0 0)) = true := by rcases hs with rfl | rfl <;> rfl
  rw [e, ha ([s] :: (lb ++ rest)) hS, (Classical.choice lf).levels_eq, hc, cond_true, List.tail_cons, (Classical.choice lf).level_eq, if_pos (by decide), hb rest hr]; rfl

theorem sumP {s : UInt8} (hs : s = 43 ∨ s = 45) {la lb : Toks} {ta tb : Tr} (ha : L1P la ta) (hb : L2P lb tb) : L1P (la ++ [s] :: lb) (.mk [s] [] [ta, tb]) := by
  intro rest hr
  have e : la ++ [s] :: lb ++ rest = la ++ [s] :: (lb ++ rest) := by simp
  have hS : ([s] : List UInt8) ∈ S2_ := by rcases hs with rfl | rfl <;> decide
  have hc : (G.kindOf ([s] :: (lb ++ rest)) == 119 && ((([s] : List UInt8) :: (lb ++ rest)).headD []).length == 1 && (signsAt 1).contains (((([s] : List UInt8) :: (lb ++ rest)).headD []).getD 0 0)) = true := by rcases hs with rfl | rfl <;> rfl
  rw [e, ha ([s] :: (lb ++ rest)) hS, (Classical.choice lf).levels_eq, hc, cond_true, List.tail_cons, hb rest (S2_S3 hr), levels_none (S2_sign _ hr)]; rfl

theorem compP {s : UInt8} (hs : s = 61 ∨ s = 60) {la lb : Toks} {ta tb : Tr} (ha : L1P la ta) (hb : L1P lb tb) : L0P (la ++ [s] :: lb) (.mk [s] [] [ta, tb]) := by
  intro rest hr
  have e : la ++ [s] :: lb ++ rest = la ++ [s] :: (lb ++ rest) := by simp
  have hS : ([s] : List UInt8) ∈ S2_ := by rcases hs with rfl | rfl <;> decide
  have h1 : signB 1 (([s] :: (lb ++ rest)).headD []) = false := by rcases hs with rfl | rfl <;> rfl
  have hc : (G.kindOf ([s] :: (lb ++ rest)) == 119 && ((([s] : List UInt8) :: (lb ++ rest)).headD []).length == 1 && (signsAt 0).contains (((([s] : List UInt8) :: (lb ++ rest)).headD []).getD 0 0)) = true := by rcases hs with rfl | rfl <;> rfl
  rw [e, (Classical.choice lf).level_eq, if_neg (by decide), ha ([s] :: (lb ++ rest)) hS, levels_none h1, Option.bind_some, (Classical.choice lf).levels_eq, hc, cond_true, List.tail_cons, hb rest (S0_S2 hr), levels_none (S0_sign _ hr).1]; rfl

theorem spineP {lg la : Toks} {tf ta : Tr} (hf : SpineP lg tf) (ha : AtomP la ta) : SpineP (lg ++ la) (.mk K.app_ [] [tf, ta]) := by
  intro rest ls r hr
  have h1 : (Classical.choice lf).atoms (la ++ rest) = some (ta :: ls, r) := by
    rw [(Classical.choice lf).atoms_eq, ha rest]
    simp only [Option.bind_some]
    rw [hr]; rfl
  obtain ⟨f0, fs, mid, h2, h3, h4⟩ := hf (la ++ rest) _ _ h1
  refine ⟨f0, fs ++ [ta], mid, by rw [List.append_assoc]; exact h2, by rw [List.append_assoc]; exact h3, ?_⟩
  rw [apps_snoc, h4]

theorem consP {la lb : Toks} {ta tb : Tr} (ha : AtomP la ta) (hb : AtomP lb tb) : AppP (Ex.consN :: la ++ lb) (.mk K.con_ Ex.consN [ta, tb]) := by
  intro rest hr
  have e : Ex.consN :: la ++ lb ++ rest = Ex.consN :: (la ++ (lb ++ rest)) := by simp
  have h0 : (Classical.choice lf).atoms rest = some ([], rest) := atoms_none (S3_atom _ hr)
  have hk : (G.kindOf (Ex.consN :: (la ++ (lb ++ rest))) == 99) = true := rfl
  rw [e, (Classical.choice lf).app_eq, hk, cond_true, List.tail_cons, (Classical.choice lf).atoms_eq, ha]
  simp only [Option.bind_some]
  rw [(Classical.choice lf).atoms_eq, hb]
  simp only [Option.bind_some]
  rw [h0]; rfl

theorem bangP {la : Toks} {ta : Tr} (ha : AtomP la ta) : AtomP (K.bang_ :: la) (.mk K.bang_ [] [ta]) := by
  intro rest
  have hp : G.plain (K.bang_ :: (la ++ rest)) = none := rfl
  have h1 : G.isW K.open_ (K.bang_ :: (la ++ rest)) = false := rfl
  have h2 : G.isW K.bang_ (K.bang_ :: (la ++ rest)) = true := rfl
  rw [List.cons_append, (Classical.choice lf).atom_eq, hp]
  simp only [h1, h2, cond_true, cond_false, List.tail_cons, ha rest, Option.bind_some]

theorem kind_var {x : List UInt8} (h : tokKind x = 110) (rest : Toks) : G.kind 110 (x :: rest) = some (x, rest) := by
  unfold G.kind G.kindOf
  rw [headD_cons, h]; rfl

theorem funP {x : List UInt8} (hx : tokKind x = 110) {la : Toks} {ta : Tr} (ha : ExprP la ta) : ExprP (K.fun_ :: x :: K.arrow_ :: la) (.mk K.fun_ x [ta]) := by
  intro rest hr
  have h1 : G.isW K.let_ (K.fun_ :: x :: K.arrow_ :: (la ++ rest)) = false := rfl
  have h2 : G.isW K.fun_ (K.fun_ :: x :: K.arrow_ :: (la ++ rest)) = true := rfl
  have h3 : G.every 110 (K.arrow_ :: (la ++ rest)) = ([], K.arrow_ :: (la ++ rest)) := rfl
  have h4 : G.want K.arrow_ (K.arrow_ :: (la ++ rest)) = some (la ++ rest) := rfl
  simp only [List.cons_append]
  rw [(Classical.choice lf).expr_eq, h1, h2, cond_false, cond_true, List.tail_cons, kind_var hx, Option.bind_some, h3]
  simp only [h4, Option.bind_some, ha rest hr]
  rfl

theorem letP {x : List UInt8} (hx : tokKind x = 110) {la lb : Toks} {ta tb : Tr} (ha : ExprP la ta) (hb : ExprP lb tb) : ExprP (K.let_ :: x :: K.eq_ :: la ++ K.in_ :: lb) (.mk K.let_ x [ta, tb]) := by
  intro rest hr
  have e : K.let_ :: x :: K.eq_ :: la ++ K.in_ :: lb ++ rest = K.let_ :: x :: K.eq_ :: (la ++ K.in_ :: (lb ++ rest)) := by simp
  have h1 : G.isW K.let_ (K.let_ :: x :: K.eq_ :: (la ++ K.in_ :: (lb ++ rest))) = true := rfl
  have h0 : G.isW K.rec_ (x :: K.eq_ :: (la ++ K.in_ :: (lb ++ rest))) = false := by
    unfold G.isW; rw [headD_cons, hx]; rfl
  have h3 : G.every 110 (K.eq_ :: (la ++ K.in_ :: (lb ++ rest))) = ([], K.eq_ :: (la ++ K.in_ :: (lb ++ rest))) := rfl
  have h4 : G.want K.eq_ (K.eq_ :: (la ++ K.in_ :: (lb ++ rest))) = some (la ++ K.in_ :: (lb ++ rest)) := rfl
  have h5 : G.want K.in_ (K.in_ :: (lb ++ rest)) = some (lb ++ rest) := rfl
  have h6 := ha (K.in_ :: (lb ++ rest)) (by rw [headD_cons]; decide)
  rw [e, (Classical.choice lf).expr_eq, h1, cond_true, List.tail_cons, (Classical.choice lf).binding_eq, h0]
  simp only [cond_false, kind_var hx, Option.bind_some, h3, Bool.false_and, h4, h6, h5, hb rest hr]
  rfl

theorem setP0 {la lb : Toks} {ta tb : Tr} (ha : L0P la ta) (hb : L0P lb tb) (rest : Toks) (hr : rest.headD [] ∈ C_ ∨ rest.headD [] = K.semi_) : ((Classical.choice lf).level 0 (la ++ K.set_ :: lb ++ rest)).bind (fun a => (Classical.choice lf).set a.1 a.2) = some (.mk K.setN_ [] [ta, tb], rest) := by
  have e : la ++ K.set_ :: lb ++ rest = la ++ K.set_ :: (lb ++ rest) := by simp
  have h1 : G.isW K.set_ (K.set_ :: (lb ++ rest)) = true := rfl
  have h2 : rest.headD [] ∈ S0_ := by
    rcases hr with h | h
    · exact C_S0 h
    · rw [h]; decide
  rw [e, ha (K.set_ :: (lb ++ rest)) (show K.set_ ∈ S0_ by decide), Option.bind_some, (Classical.choice lf).set_eq, h1, cond_true, List.tail_cons, hb rest h2]; rfl

theorem setE {la lb : Toks} {ta tb : Tr} (ha : L0P la ta) (hh : Begins la notForm) (hb : L0P lb tb) : ExprP (la ++ K.set_ :: lb) (.mk K.setN_ [] [ta, tb]) := by
  intro rest hr
  have h0 := setP0 ha hb rest (Or.inl hr)
  have h1 := (hh.cat (K.set_ :: lb)).app rest
  simp only [notForm, Bool.and_eq_true] at h1
  have h2 := C_mark _ hr
  rw [(Classical.choice lf).expr_eq, isW_no h1.1.1.2, isW_no h1.1.2, isW_no h1.2]
  simp only [cond_false]
  rw [Option.bind_eq_some_iff] at h0
  obtain ⟨a, h3, h4⟩ := h0
  rw [h3, Option.bind_some, h4, Option.bind_some, G.isW, h2.1, Bool.and_false, cond_false]

theorem seqE {la lb : Toks} {ta tb : Tr} (ha : ∀ rest, rest.headD [] = K.semi_ → ((Classical.choice lf).level 0 (la ++ rest)).bind (fun a => (Classical.choice lf).set a.1 a.2) = some (ta, rest)) (hh : Begins la notForm) (hb : ExprP lb tb) : ExprP (la ++ K.semi_ :: lb) (.mk K.seq_ [] [ta, tb]) := by
  intro rest hr
  have e : la ++ K.semi_ :: lb ++ rest = la ++ K.semi_ :: (lb ++ rest) := by simp
  have h0 := ha (K.semi_ :: (lb ++ rest)) rfl
  have h1 := hh.app (K.semi_ :: (lb ++ rest))
  simp only [notForm, Bool.and_eq_true] at h1
  have h5 : G.isW K.semi_ (K.semi_ :: (lb ++ rest)) = true := rfl
  rw [e, (Classical.choice lf).expr_eq, isW_no h1.1.1.2, isW_no h1.1.2, isW_no h1.2]
  simp only [cond_false]
  rw [Option.bind_eq_some_iff] at h0
  obtain ⟨a, h3, h4⟩ := h0
  rw [h3, Option.bind_some, h4, Option.bind_some, h5, cond_true, List.tail_cons, hb rest hr]; rfl

theorem iteE {la lb lc : Toks} {ta tb tc : Tr} (ha : ExprP la ta) (hb : ExprP lb tb) (hc : ExprP lc tc) : ExprP (K.if_ :: la ++ K.then_ :: lb ++ K.else_ :: lc) (.mk K.if_ [] [ta, tb, tc]) := by
  intro rest hr
  have e : K.if_ :: la ++ K.then_ :: lb ++ K.else_ :: lc ++ rest = K.if_ :: (la ++ K.then_ :: (lb ++ K.else_ :: (lc ++ rest))) := by simp
  generalize hm : lb ++ K.else_ :: (lc ++ rest) = m at e
  have h1 : G.isW K.let_ (K.if_ :: (la ++ K.then_ :: m)) = false := rfl
  have h2 : G.isW K.fun_ (K.if_ :: (la ++ K.then_ :: m)) = false := rfl
  have h3 : G.isW K.if_ (K.if_ :: (la ++ K.then_ :: m)) = true := rfl
  have h4 := ha (K.then_ :: m) (by rw [headD_cons]; decide)
  have h5 : G.want K.then_ (K.then_ :: m) = some m := rfl
  have h6 := hb (K.else_ :: (lc ++ rest)) (by rw [headD_cons]; decide)
  have h7 : G.want K.else_ (K.else_ :: (lc ++ rest)) = some (lc ++ rest) := rfl
  rw [hm] at h6
  rw [e, (Classical.choice lf).expr_eq, h1, h2, h3]
  simp only [cond_false, cond_true, List.tail_cons, h4, Option.bind_some, h5, h6, h7, hc rest hr]

theorem pat_plain {ts : Toks} {q : Tr × Toks} (h : G.plain ts = some q) : (Classical.choice lf).apattern ts = some (some q.1, q.2) := by
  rw [(Classical.choice lf).apattern_eq, h]

theorem pat_nil (rest : Toks) : (Classical.choice lf).pattern (Ex.nilN :: K.arrow_ :: rest) = some (.mk K.con_ Ex.nilN [], K.arrow_ :: rest) := by
  have h1 : (G.kindOf (Ex.nilN :: K.arrow_ :: rest) == 99) = true := rfl
  have h2 : G.plain (K.arrow_ :: rest) = none := rfl
  have h3 : G.isW K.under_ (K.arrow_ :: rest) = false := rfl
  have h4 : G.isW K.open_ (K.arrow_ :: rest) = false := rfl
  have h5 : (Classical.choice lf).apatterns (K.arrow_ :: rest) = some ([], K.arrow_ :: rest) := by
    rw [(Classical.choice lf).apatterns_eq, (Classical.choice lf).apattern_eq, h2]
    simp only [h3, h4, cond_false, Option.bind_some]
  rw [(Classical.choice lf).pattern_eq, h1, cond_true, List.tail_cons, h5]; rfl

theorem pats_end (rest : Toks) : (Classical.choice lf).apatterns (K.arrow_ :: rest) = some ([], K.arrow_ :: rest) := by
  have h2 : G.plain (K.arrow_ :: rest) = none := rfl
  have h3 : G.isW K.under_ (K.arrow_ :: rest) = false := rfl
  have h4 : G.isW K.open_ (K.arrow_ :: rest) = false := rfl
  rw [(Classical.choice lf).apatterns_eq, (Classical.choice lf).apattern_eq, h2]
  simp only [h3, h4, cond_false, Option.bind_some]

theorem pat_under (rest : Toks) : (Classical.choice lf).apattern (K.under_ :: rest) = some (some (.mk K.const_ K.under_ []), rest) := by
  have h2 : G.plain (K.under_ :: rest) = none := rfl
  have h3 : G.isW K.under_ (K.under_ :: rest) = true := rfl
  rw [(Classical.choice lf).apattern_eq, h2]
  simp only [h3, cond_true, List.tail_cons]

theorem pat_brackets {l rest : Toks} {t : Tr} (h : (Classical.choice lf).apattern (l ++ K.shut_ :: rest) = some (some t, K.shut_ :: rest)) (hk : (G.kindOf (l ++ K.shut_ :: rest) == 99) = false) (hs : G.isW K.shut_ (l ++ K.shut_ :: rest) = false) : (Classical.choice lf).apattern (K.open_ :: (l ++ K.shut_ :: rest)) = some (some t, rest) := by
  have h2 : G.plain (K.open_ :: (l ++ K.shut_ :: rest)) = none := rfl
  have h3 : G.isW K.under_ (K.open_ :: (l ++ K.shut_ :: rest)) = false := rfl
  have h4 : G.isW K.open_ (K.open_ :: (l ++ K.shut_ :: rest)) = true := rfl
  have h5 : G.want K.shut_ (K.shut_ :: rest) = some rest := rfl
  have h6 : (Classical.choice lf).pattern (l ++ K.shut_ :: rest) = some (t, K.shut_ :: rest) := by
    rw [(Classical.choice lf).pattern_eq, hk, cond_false, h]; rfl
  rw [(Classical.choice lf).apattern_eq, h2]
  simp only [h3, h4, cond_true, cond_false, List.tail_cons, hs, h6, Option.bind_some, h5]

theorem pat_cons {x : Fin 4} {p : Toks} (hp : Ex.conPat x p) (rest : Toks) : (Classical.choice lf).pattern (p ++ K.arrow_ :: rest) = some (.mk K.con_ Ex.consN [.mk K.var_ (varN x) [], .mk K.const_ K.under_ []], K.arrow_ :: rest) := by
  have hv := (varN_facts x).2.1
  have hend := pats_end rest
  have h1 : ∀ m, (G.kindOf (Ex.consN :: m) == 99) = true := fun _ => rfl
  rcases hp with rfl | rfl
  · have e : [Ex.consN, varN x, K.under_] ++ K.arrow_ :: rest = Ex.consN :: varN x :: K.under_ :: K.arrow_ :: rest := rfl
    rw [e, (Classical.choice lf).pattern_eq, h1, cond_true, List.tail_cons, (Classical.choice lf).apatterns_eq, pat_plain (plain_var hv _)]
    simp only [Option.bind_some]
    rw [(Classical.choice lf).apatterns_eq, pat_under]
    simp only [Option.bind_some]
    rw [hend]; rfl
  · have e : [Ex.consN, K.open_, varN x, K.shut_, K.open_, K.under_, K.shut_] ++ K.arrow_ :: rest = Ex.consN :: (K.open_ :: ([varN x] ++ K.shut_ :: (K.open_ :: ([K.under_] ++ K.shut_ :: K.arrow_ :: rest)))) := rfl
    generalize hm : K.open_ :: ([K.under_] ++ K.shut_ :: K.arrow_ :: rest) = m at e
    have a1 : (Classical.choice lf).apattern (K.open_ :: ([varN x] ++ K.shut_ :: m)) = some (some (.mk K.var_ (varN x) []), m) := by
      refine pat_brackets (pat_plain (plain_var hv _)) ?_ ?_
      · show (tokKind (varN x) == 99) = false
        rw [hv]; rfl
      · show (tokKind (varN x) == 119 && varN x == K.shut_) = false
        rw [hv]; rfl
    have a2 : (Classical.choice lf).apattern (K.open_ :: ([K.under_] ++ K.shut_ :: K.arrow_ :: rest)) = some (some (.mk K.const_ K.under_ []), K.arrow_ :: rest) := pat_brackets (pat_under _) rfl rfl
    rw [hm] at a2
    rw [e, (Classical.choice lf).pattern_eq, h1, cond_true, List.tail_cons, (Classical.choice lf).apatterns_eq, a1]
    simp only [Option.bind_some]
    rw [(Classical.choice lf).apatterns_eq, a2]
    simp only [Option.bind_some]
    rw [hend]; rfl

theorem mtchA {x : Fin 4} {la lb lc p : Toks} {ta tb tc : Tr} (ha : ExprP la ta) (hb : ExprP lb tb) (hc : ExprP lc tc) (hp : Ex.conPat x p) :
    AtomP (K.match_ :: la ++ K.with_ :: K.bar_ :: Ex.nilN :: K.arrow_ :: lb ++ K.bar_ :: p ++ K.arrow_ :: lc ++ [K.end_]) (.mk K.match_ [] [ta, .mk K.row_ [] [.mk K.con_ Ex.nilN [], tb], .mk K.row_ [] [.mk K.con_ Ex.consN [.mk K.var_ (varN x) [], .mk K.const_ K.under_ []], tc]]) := by
  intro rest
  have e : K.match_ :: la ++ K.with_ :: K.bar_ :: Ex.nilN :: K.arrow_ :: lb ++ K.bar_ :: p ++ K.arrow_ :: lc ++ [K.end_] ++ rest = K.match_ :: (la ++ K.with_ :: K.bar_ :: Ex.nilN :: K.arrow_ :: (lb ++ K.bar_ :: (p ++ K.arrow_ :: (lc ++ K.end_ :: rest)))) := by simp
  have hrow2 : (Classical.choice lf).rows (K.bar_ :: (p ++ K.arrow_ :: (lc ++ K.end_ :: rest))) = some ([.mk K.row_ [] [.mk K.con_ Ex.consN [.mk K.var_ (varN x) [], .mk K.const_ K.under_ []], tc]], rest) := by
    have h1 : G.want K.bar_ (K.bar_ :: (p ++ K.arrow_ :: (lc ++ K.end_ :: rest))) = some (p ++ K.arrow_ :: (lc ++ K.end_ :: rest)) := rfl
    have h2 : G.want K.arrow_ (K.arrow_ :: (lc ++ K.end_ :: rest)) = some (lc ++ K.end_ :: rest) := rfl
    have h3 := hc (K.end_ :: rest) (by rw [headD_cons]; decide)
    have h4 : G.isW K.end_ (K.end_ :: rest) = true := rfl
    rw [(Classical.choice lf).rows_eq, h1, Option.bind_some, LFam.row, pat_cons hp, Option.bind_some, h2, Option.bind_some, h3]
    simp only [Option.bind_some, h4, cond_true, List.tail_cons]
  generalize hm : p ++ K.arrow_ :: (lc ++ K.end_ :: rest) = m at e hrow2
  have hrow1 : (Classical.choice lf).rows (K.bar_ :: Ex.nilN :: K.arrow_ :: (lb ++ K.bar_ :: m)) = some ([.mk K.row_ [] [.mk K.con_ Ex.nilN [], tb], .mk K.row_ [] [.mk K.con_ Ex.consN [.mk K.var_ (varN x) [], .mk K.const_ K.under_ []], tc]], rest) := by
    have h1 : G.want K.bar_ (K.bar_ :: Ex.nilN :: K.arrow_ :: (lb ++ K.bar_ :: m)) = some (Ex.nilN :: K.arrow_ :: (lb ++ K.bar_ :: m)) := rfl
    have h2 : G.want K.arrow_ (K.arrow_ :: (lb ++ K.bar_ :: m)) = some (lb ++ K.bar_ :: m) := rfl
    have h3 := hb (K.bar_ :: m) (by rw [headD_cons]; decide)
    have h4 : G.isW K.end_ (K.bar_ :: m) = false := rfl
    rw [(Classical.choice lf).rows_eq, h1, Option.bind_some, LFam.row, pat_nil, Option.bind_some, h2, Option.bind_some, h3]
    simp only [Option.bind_some, h4, cond_false, hrow2]
  generalize hm2 : K.bar_ :: Ex.nilN :: K.arrow_ :: (lb ++ K.bar_ :: m) = m2 at e hrow1
  have h1 : G.plain (K.match_ :: (la ++ K.with_ :: m2)) = none := rfl
  have h2 : G.isW K.open_ (K.match_ :: (la ++ K.with_ :: m2)) = false := rfl
  have h3 : G.isW K.bang_ (K.match_ :: (la ++ K.with_ :: m2)) = false := rfl
  have h4 : G.isW K.match_ (K.match_ :: (la ++ K.with_ :: m2)) = true := rfl
  have h5 := ha (K.with_ :: m2) (by rw [headD_cons]; decide)
  have h6 : G.want K.with_ (K.with_ :: m2) = some m2 := rfl
  rw [e, (Classical.choice lf).atom_eq, h1]
  simp only [h2, h3, h4, cond_true, cond_false, List.tail_cons]
  rw [(Classical.choice lf).matches_eq, h5, Option.bind_some, h6, Option.bind_some, hrow1]
  rfl

theorem fine : ∀ (e : Ex), e.Ok → ∀ (l : Toks), e.wr l → Fine e l := by
  intro e he
  refine Ex.ind (Q := fun e => ∀ (l : Toks), e.wr l → Fine e l) ?num ?tru ?unit ?nil ?var ?op ?app ?cons ?bang ?fn ?lett ?set ?seq ?ite ?mtch he
  case num =>
    intro n
    rintro l rfl
    obtain ⟨_, h2, h3, _, _, _⟩ := decN_facts n
    refine fine_atom rfl ⟨_, _, rfl, ?_⟩ ?_
    · have : ∀ y : List UInt8, tokKind y ≠ 100 → (decN n.1 != y) = true := by
        intro y hy; rw [bne_iff_ne]; intro e; rw [← e] at hy; exact hy h2
      simp only [notCon, Bool.and_eq_true]
      exact ⟨⟨⟨⟨this _ (by decide), this _ (by decide)⟩, this _ (by decide)⟩, this _ (by decide)⟩, by rw [h2]; rfl⟩
    · intro rest
      rw [List.cons_append, List.nil_append, atom_plain (plain_num h2 rest), h3]; rfl
  case tru =>
    rintro l rfl; exact fine_atom rfl ⟨_, _, rfl, by decide⟩ (fun rest => atom_plain (q := (Ex.tru.tree, rest)) rfl)
  case unit =>
    rintro l rfl
    refine fine_atom rfl ⟨_, _, rfl, by decide⟩ (fun rest => ?_)
    rw [(Classical.choice lf).atom_eq]; rfl
  case nil =>
    rintro l rfl
    have hA : AppP [Ex.nilN] Ex.nil.tree := by
      intro rest hr
      have hk : (G.kindOf ([Ex.nilN] ++ rest) == 99) = true := rfl
      rw [(Classical.choice lf).app_eq, hk, cond_true, show ([Ex.nilN] ++ rest).tail = rest from rfl, atoms_none (S3_atom _ hr)]; rfl
    have hb : Begins [Ex.nilN] notForm := ⟨_, _, rfl, by decide⟩
    exact ⟨hb.mono notForm_shut, fun _ => hb, (fun _ h => by cases h), hA.l2.l1.l0.expr hb, fun _ => hA.l2.l1.l0, fun _ => hA.l2.l1, fun _ => hA.l2, fun _ => hA, (fun _ h => by cases h), fun _ rest => atom_plain (q := (Ex.nil.tree, rest)) rfl, (fun h => by cases h)⟩
  case var =>
    intro x
    rintro l rfl
    have h2 := (varN_facts x).2.1
    refine fine_atom rfl ⟨_, _, rfl, ?_⟩ ?_
    · match x with
      | 0 => decide
      | 1 => decide
      | 2 => decide
      | 3 => decide
    · intro rest
      rw [List.cons_append, List.nil_append, atom_plain (plain_var h2 rest)]; rfl
  case op =>
    intro o a b iha ihb
    rintro l ⟨la, lb, ha, hb, rfl⟩
    have h0 : ∀ k, o.left ≤ a.level → k ≤ o.left → k ≤ a.level := fun k h1 h2 => Nat.le_trans h2 h1
    have h1 : ∀ k, o.right ≤ b.level → k ≤ o.right → k ≤ b.level := fun k h1 h2 => Nat.le_trans h2 h1
    have fin1 : ∀ {t}, o.level = 1 → L0P (la ++ [o.sign] :: lb) t → Begins la notForm → t = (Ex.op o a b).tree → Fine (.op o a b) (la ++ [o.sign] :: lb) := by
      intro t ho h hb ht
      subst ht
      have hb := hb.cat ([o.sign] :: lb)
      exact ⟨hb.mono notForm_shut, fun _ => hb, (fun h => by have h : 4 ≤ o.level := h; omega), h.expr hb, fun _ => h, (fun h => by have h : 2 ≤ o.level := h; omega), (fun h => by have h : 3 ≤ o.level := h; omega), (fun h => by have h : 4 ≤ o.level := h; omega), (fun h => by have h : 4 ≤ o.level := h; omega), (fun h => by have h : 5 ≤ o.level := h; omega), (fun h => by cases h)⟩
    have fin2 : ∀ {t}, o.level = 2 → L1P (la ++ [o.sign] :: lb) t → Begins la notForm → t = (Ex.op o a b).tree → Fine (.op o a b) (la ++ [o.sign] :: lb) := by
      intro t ho h hb ht
      subst ht
      have hb := hb.cat ([o.sign] :: lb)
      exact ⟨hb.mono notForm_shut, fun _ => hb, (fun h => by have h : 4 ≤ o.level := h; omega), h.l0.expr hb, fun _ => h.l0, fun _ => h, (fun h => by have h : 3 ≤ o.level := h; omega), (fun h => by have h : 4 ≤ o.level := h; omega), (fun h => by have h : 4 ≤ o.level := h; omega), (fun h => by have h : 5 ≤ o.level := h; omega), (fun h => by cases h)⟩
    have fin3 : ∀ {t}, o.level = 3 → L2P (la ++ [o.sign] :: lb) t → Begins la notForm → t = (Ex.op o a b).tree → Fine (.op o a b) (la ++ [o.sign] :: lb) := by
      intro t ho h hb ht
      subst ht
      have hb := hb.cat ([o.sign] :: lb)
      exact ⟨hb.mono notForm_shut, fun _ => hb, (fun h => by have h : 4 ≤ o.level := h; omega), h.l1.l0.expr hb, fun _ => h.l1.l0, fun _ => h.l1, fun _ => h, (fun h => by have h : 4 ≤ o.level := h; omega), (fun h => by have h : 4 ≤ o.level := h; omega), (fun h => by have h : 5 ≤ o.level := h; omega), (fun h => by cases h)⟩
    rcases o.all with rfl | rfl | rfl | rfl | rfl | rfl
    · obtain ⟨p, q⟩ := wa_l1 iha id ha
      exact fin1 rfl (compP (Or.inl rfl) p (wa_l1 ihb id hb).1) q rfl
    · obtain ⟨p, q⟩ := wa_l1 iha id ha
      exact fin1 rfl (compP (Or.inr rfl) p (wa_l1 ihb id hb).1) q rfl
    · obtain ⟨p, q⟩ := wa_l1 iha id ha
      exact fin2 rfl (sumP (Or.inl rfl) p (wa_l2 ihb id hb).1) q rfl
    · obtain ⟨p, q⟩ := wa_l1 iha id ha
      exact fin2 rfl (sumP (Or.inr rfl) p (wa_l2 ihb id hb).1) q rfl
    · obtain ⟨p, q⟩ := wa_l2 iha id ha
      exact fin3 rfl (prodP (Or.inl rfl) p (wa_app ihb id hb).1) q rfl
    · obtain ⟨p, q⟩ := wa_l2 iha id ha
      exact fin3 rfl (prodP (Or.inr rfl) p (wa_app ihb id hb).1) q rfl
  case app =>
    intro f a ihf iha
    rintro l ⟨lg, la, hf, ha, rfl⟩
    obtain ⟨p, q⟩ := wa_spine ihf hf
    have hs := spineP p (wa_atom iha id ha).1
    have hq := q.cat la
    exact fine_app rfl rfl (hq.mono notCon_form) (hs.app hq) (fun _ => ⟨hq, hs⟩)
  case cons =>
    intro a b iha ihb
    rintro l ⟨la, lb, ha, hb, rfl⟩
    exact fine_app rfl rfl ⟨_, _, rfl, by decide⟩ (consP (wa_atom iha id ha).1 (wa_atom ihb id hb).1) (fun h => by cases h)
  case bang =>
    intro a iha
    rintro l ⟨la, ha, rfl⟩
    exact fine_atom rfl ⟨_, _, rfl, by decide⟩ (bangP (wa_atom iha id ha).1)
  case fn =>
    intro x a iha
    rintro l ⟨la, ha, rfl⟩
    exact fine_none rfl rfl ⟨_, _, rfl, by decide⟩ (funP (varN_facts x).2.1 (wa_expr iha ha).1)
  case lett =>
    intro x a b iha ihb
    rintro l ⟨la, lb, ha, hb, rfl⟩
    exact fine_none rfl rfl ⟨_, _, rfl, by decide⟩ (letP (varN_facts x).2.1 (wa_expr iha ha).1 (wa_expr ihb hb).1)
  case set =>
    intro a b iha ihb
    rintro l ⟨la, lb, ha, hb, rfl⟩
    obtain ⟨p, q⟩ := wa_l0 iha id ha
    obtain ⟨p2, q2⟩ := wa_l0 ihb id hb
    have hq := q.cat (K.set_ :: lb)
    exact ⟨hq.mono notForm_shut, fun _ => hq, (fun h => by cases h), setE p q p2, (fun h => by cases h), (fun h => by cases h), (fun h => by cases h), (fun h => by cases h), (fun h => by cases h), (fun h => by cases h), fun _ rest hr => setP0 p p2 rest hr⟩
  case seq =>
    intro a b iha ihb
    rintro l ⟨la, lb, ha, hb, rfl⟩
    have hx : Begins la notForm ∧ ∀ rest, rest.headD [] = K.semi_ → ((Classical.choice lf).level 0 (la ++ rest)).bind (fun a => (Classical.choice lf).set a.1 a.2) = some (a.tree, rest) := by
      have of0 : L0P la a.tree → ∀ rest, rest.headD [] = K.semi_ → ((Classical.choice lf).level 0 (la ++ rest)).bind (fun a => (Classical.choice lf).set a.1 a.2) = some (a.tree, rest) := by
        intro h rest hr
        rw [h rest (by rw [hr]; decide), Option.bind_some, (Classical.choice lf).set_eq, G.isW, hr]; rfl
      rcases ha with hx | ⟨h, hx⟩
      · have := wa_l0 iha (c := 1 ≤ a.level) id (Or.inl hx)
        exact ⟨this.2, of0 this.1⟩
      · rcases h with h | h
        · exact ⟨(iha la hx).headE (Or.inl h), of0 ((iha la hx).l0 h)⟩
        · exact ⟨(iha la hx).headE (Or.inr h), fun rest hr => (iha la hx).set h rest (Or.inr hr)⟩
    exact fine_none rfl rfl ((hx.1.cat _).mono notForm_shut) (seqE hx.2 hx.1 (wa_expr ihb hb).1)
  case ite =>
    intro a b c iha ihb ihc
    rintro l ⟨la, lb, lc, ha, hb, hc, rfl⟩
    exact fine_none rfl rfl ⟨_, _, rfl, by decide⟩ (iteE (wa_expr iha ha).1 (wa_expr ihb hb).1 (wa_expr ihc hc).1)
  case mtch =>
    intro x a b c iha ihb ihc
    rintro l ⟨la, lb, lc, p, ha, hb, hc, hp, rfl⟩
    exact fine_atom rfl ⟨_, _, rfl, by decide⟩ (mtchA (wa_expr iha ha).1 (wa_expr ihb hb).1 (wa_expr ihc hc).1 hp)

end Go.Proofs.YtnocnkblhjifjaaGreatDoor
