import Derived.Test.YtnocnkblhjifjaaGreatDoorMSh1
import Derived.Test.YtnocnkblhjifjaaGreatDoorMRefSee
import Derived.Deep.QuietTactic
import Derived.BigQuiet
import Derived.Test.YtnocnkblhjifjaaGreatDoorMRefText
/-
  kilnkeep's small functions by their contracts: pick, (*Raw).next, variable, (Made).at, decimal.
-/
namespace Go.Proofs.YtnocnkblhjifjaaGreatDoor
open Go.RowKit

/-- Which of n things a raw number speaks of. -/
def pickI (c n : Int) : Int := (if c < 0 then -(c + 1) else c) % n

theorem pickI_range (c n : Int) (hn : 0 < n) : 0 ≤ pickI c n ∧ pickI c n < n := ⟨Int.emod_nonneg _ (by omega), Int.emod_lt_of_pos _ hn⟩

set_option maxHeartbeats 400000 in
theorem pick_any (c n : Int) (w : World) (h1 : -9223372036854775808 ≤ c) (h2 : c ≤ 9223372036854775807) (hn : 0 < n) (hn2 : n ≤ 100000) :
    Calls Tryz.prog 26 #[.int .i64 c, .int .i64 n] w fun e w' => e = .returned (.int .i64 (pickI c n)) ∧ w' = w := by
  unfold pickI
  by_cases h : c < 0
  · rw [if_pos h]
    go_enter Tryz.func26, Tryz.ntmps26
    go_wp2
    go_ret
    exact ⟨retI (by rw [← Int.neg_tmod, Int.tmod_eq_emod_of_nonneg (by omega)]), rfl⟩
  · rw [if_neg h]
    have h' : 0 ≤ c := by omega
    go_enter Tryz.func26, Tryz.ntmps26
    go_wp2
    go_ret
    exact ⟨rfl, rfl⟩

/-- Raw numbers, as they came in. -/
structure RawL (rb : Nat) (sv : Value) (raw : List Int) (w : World) : Prop where
  form : (sv = .slice none 0 0 ∧ raw = []) ∨ ∃ (a : Addr) (cap : Nat), sv = .slice (some a) raw.length cap ∧ ∀ i, i < raw.length → a.block < w.heap.size ∧ a.block ≠ rb ∧ w.cell? (a.add i) = some (.int .i64 (raw.getD i 0))
  len : raw.length ≤ maxLen
  fit : ∀ c ∈ raw, -9223372036854775808 ≤ c ∧ c ≤ 9223372036854775807

/-- All but one block is as it was. -/
structure Kr (rb : Nat) (w w' : World) : Prop where
  os : w'.os = w.os
  tape : w'.tape = w.tape
  output : w'.output = w.output
  size : w.heap.size ≤ w'.heap.size
  block : ∀ k, k < w.heap.size → k ≠ rb → w'.heap[k]? = w.heap[k]?

theorem Kr.refl (rb : Nat) (w : World) : Kr rb w w := ⟨rfl, rfl, rfl, Nat.le_refl _, fun _ _ _ => rfl⟩
theorem Kr.trans {rb : Nat} {a b c : World} (h : Kr rb a b) (k : Kr rb b c) : Kr rb a c :=
  ⟨k.os.trans h.os, k.tape.trans h.tape, k.output.trans h.output, Nat.le_trans h.size k.size, fun i hi hr => by rw [k.block i (Nat.lt_of_lt_of_le hi h.size) hr, h.block i hi hr]⟩
theorem Kr.of_below {rb : Nat} {w w' : World} (h : Below w.heap.size w w') : Kr rb w w' := ⟨h.os, h.tape, h.output, h.size, fun k hk _ => h.block k hk⟩
theorem Kr.alloc {rb : Nat} {a w : World} (h : Kr rb a w) (o : Obj) : Kr rb a (w.alloc o) := h.trans (Kr.of_below ((Below.refl _ _).alloc (Nat.le_refl _) o))
theorem Kr.drewN {rb : Nat} {a w : World} (h : Kr rb a w) (n : Nat) : Kr rb a (w.drewN n) := ⟨h.os, h.tape, h.output, h.size, h.block⟩
theorem Kr.drew {rb : Nat} {a w : World} (h : Kr rb a w) : Kr rb a w.drew := ⟨h.os, h.tape, h.output, h.size, h.block⟩
theorem Kr.setR {rb : Nat} {a w : World} (h : Kr rb a w) (o : Nat) (v : Value) : Kr rb a (w.setCell ⟨rb, o, none⟩ v) :=
  h.trans ⟨rfl, rfl, rfl, by simp [World.setCell], fun k _ hk => Below.heap_setCell _ _ _ _ hk⟩
theorem Kr.setNew {rb : Nat} {a w : World} (h : Kr rb a w) {p : Addr} (hp : a.heap.size ≤ p.block) (v : Value) : Kr rb a (w.setCell p v) :=
  ⟨h.os, h.tape, h.output, by have := h.size; simpa [World.setCell] using this, fun k hk hkr => by
    rw [Below.heap_setCell _ _ _ _ (by omega)]; exact h.block k hk hkr⟩

theorem cell_heap {w w' : World} {a : Addr} (h : w'.heap[a.block]? = w.heap[a.block]?) : w'.cell? a = w.cell? a := by
  unfold World.cell?; rw [h]

theorem block_add' (a : Addr) (i : Nat) : (a.add i).block = a.block := by unfold Addr.add; split <;> rfl

theorem RawL.kept {rb : Nat} {sv : Value} {raw : List Int} {w w' : World} (h : RawL rb sv raw w) (k : Kr rb w w') : RawL rb sv raw w' := by
  refine ⟨?_, h.len, h.fit⟩
  rcases h.form with h1 | ⟨a, cap, h1, h4⟩
  · exact Or.inl h1
  · refine Or.inr ⟨a, cap, h1, fun i hi => ?_⟩
    obtain ⟨h2, h3, h5⟩ := h4 i hi
    refine ⟨Nat.lt_of_lt_of_le h2 k.size, h3, ?_⟩
    rw [show w'.cell? (a.add i) = w.cell? (a.add i) from cell_heap (by rw [block_add']; exact k.block _ h2 h3)]; exact h5

/-- The raw numbers' struct, at a block. -/
structure RawAt (rb : Nat) (sv : Value) (raw : List Int) (at_ : Nat) (w : World) : Prop where
  block : w.heap[rb]? = some (.cells #[sv, .int .i64 at_] 33)
  row : RawL rb sv raw w
  le : at_ ≤ raw.length

theorem RawAt.below {rb : Nat} {sv : Value} {raw : List Int} {at_ : Nat} {w w' : World} (h : RawAt rb sv raw at_ w) (k : Below w.heap.size w w') : RawAt rb sv raw at_ w' := by
  have hl : rb < w.heap.size := by
    have := h.block
    rw [Array.getElem?_eq_some_iff] at this
    exact this.1
  exact ⟨by rw [k.block rb hl]; exact h.block, h.row.kept (Kr.of_below k), h.le⟩

/-- The next one, of n; 0, if there is none any more: and the place behind it. -/
def nextI (raw : List Int) (at_ : Nat) (n : Int) : Int × Nat := if raw.length ≤ at_ then (0, at_) else (pickI (raw.getD at_ 0) n, at_ + 1)

theorem RawAt.cell {rb : Nat} {sv : Value} {raw : List Int} {at_ : Nat} {w : World} (h : RawAt rb sv raw at_ w) : w.cell? ⟨rb, 0, none⟩ = some sv ∧ w.cell? ⟨rb, 1, none⟩ = some (.int .i64 at_) ∧ rb < w.heap.size ∧ w.frozen? ⟨rb, 1, none⟩ = false := by
  have hb := h.block
  have hl : rb < w.heap.size := by
    rw [Array.getElem?_eq_some_iff] at hb; exact hb.1
  refine ⟨?_, ?_, hl, ?_⟩
  · simp [World.cell?, hb]
  · simp [World.cell?, hb]
  · simp [World.frozen?, hb]

theorem RawAt.step {rb : Nat} {sv : Value} {raw : List Int} {at_ : Nat} {w : World} (h : RawAt rb sv raw at_ w) (hlt : at_ < raw.length) (v : Value) (hv : v = .int .i64 ((at_ + 1 : Nat) : Int)) : RawAt rb sv raw (at_ + 1) (w.setCell ⟨rb, 1, none⟩ v) ∧ Kr rb w (w.setCell ⟨rb, 1, none⟩ v) := by
  subst hv
  have hk : Kr rb w (w.setCell ⟨rb, 1, none⟩ (.int .i64 ((at_ + 1 : Nat) : Int))) := (Kr.refl rb w).setR 1 _
  refine ⟨⟨?_, h.row.kept hk, by omega⟩, hk⟩
  have hb := h.block
  have hl := h.cell.2.2.1
  simp [World.setCell, Array.getElem?_modify, hb]

set_option maxHeartbeats 1000000 in
theorem rawNext_any {rb : Nat} {sv : Value} {raw : List Int} {at_ : Nat} {w : World} (h : RawAt rb sv raw at_ w) (n : Int) (hn : 0 < n) (hn2 : n ≤ 100000) :
    Calls Tryz.prog 33 #[.pointer (some ⟨rb, 0, none⟩), .int .i64 n] w fun e w' => e = .returned (.int .i64 (nextI raw at_ n).1) ∧ RawAt rb sv raw (nextI raw at_ n).2 w' ∧ Kr rb w w' := by
  obtain ⟨c0, c1, hlt, cf⟩ := h.cell
  have hle := h.le
  have hlen := h.row.len
  unfold maxLen at hlen
  unfold nextI
  by_cases hat : raw.length ≤ at_
  · rw [if_pos hat]
    have hd : decide ((raw.length : Int) ≤ (at_ : Int)) = true := by simp; omega
    have HR := hide h
    rcases h.row.form with ⟨rfl, rfl⟩ | ⟨a, cap, rfl, _⟩
    · clear h
      go_enter Tryz.func33, Tryz.ntmps33
      go_wp2
      go_quiet (fail)
      go_wp2
      go_ret
      exact ⟨rfl, HR.out.below (below_drewN (Below.refl _ _) _), (Kr.refl _ _).drewN _⟩
    · clear h
      go_enter Tryz.func33, Tryz.ntmps33
      go_wp2
      go_quiet (fail)
      go_wp2
      go_ret
      exact ⟨rfl, HR.out.below (below_drewN (Below.refl _ _) _), (Kr.refl _ _).drewN _⟩
  · rw [if_neg hat]
    have hd : decide ((raw.length : Int) ≤ (at_ : Int)) = false := by simp; omega
    have HR := hide h
    rcases h.row.form with ⟨rfl, rfl⟩ | ⟨a, cap, rfl, ha3⟩
    · simp at hat
    · obtain ⟨ha1, ha2, hc⟩ := ha3 at_ (by omega)
      have hfit := h.row.fit (raw.getD at_ 0) (by rw [List.getD_eq_getElem?_getD, List.getElem?_eq_getElem (by omega)]; exact List.getElem_mem _)
      have hlt2 : at_ < raw.length := by omega
      have HSt := hide (fun m v hv => (HR.out.below (below_drewN (Below.refl _ w) m)).step hlt2 v hv)
      have hna : (⟨rb, 1, none⟩ : Addr).block ≠ (a.add at_).block := by rw [block_add']; exact Ne.symm ha2
      generalize raw.getD at_ 0 = c at *
      generalize raw.length = rl at *
      have hcs : ∀ (wx : World) v, (wx.setCell ⟨rb, 1, none⟩ v).cell? (a.add at_) = wx.cell? (a.add at_) := fun wx v => cell_heap (Below.heap_setCell _ _ _ _ (by rw [block_add']; exact ha2))
      have hwr : IntKind.i64.wrap (at_ : Int) = at_ := by rw [IntKind.wrap_i64]; omega
      have hb1 : (0 : Int) ≤ (at_ : Int) := by omega
      have hb2 : (at_ : Int) < (rl : Int) := by omega
      clear h ha3
      go_enter Tryz.func33, Tryz.ntmps33
      go_wp2
      go_quiet (fail)
      go_wp2
      go_quiet ((go_at_call 26; exact Calls.quiet_of_same (pick_any _ _ _ hfit.1 hfit.2 hn hn2)))
      go_wp2
      go_ret
      exact ⟨rfl, (HSt.out _ _ (by simp)).1.below (below_drewN (Below.refl _ _) _), (((Kr.refl _ _).drewN _).setR 1 _).drewN _⟩

set_option maxHeartbeats 400000 in
theorem variable_any (x : Fin 4) (w : World) : Calls Tryz.prog 36 #[.int .i64 x.1] w fun e w' => e = .returned (.string (bs (varN x))) ∧ w' = w := by
  match x with
  | 0 =>
    go_enter Tryz.func36, Tryz.ntmps36
    go_wp2
    go_ret
    exact ⟨rfl, rfl⟩
  | 1 =>
    go_enter Tryz.func36, Tryz.ntmps36
    go_wp2
    go_ret
    exact ⟨rfl, rfl⟩
  | 2 =>
    go_enter Tryz.func36, Tryz.ntmps36
    go_wp2
    go_ret
    exact ⟨rfl, rfl⟩
  | 3 =>
    go_enter Tryz.func36, Tryz.ntmps36
    go_wp2
    go_ret
    exact ⟨rfl, rfl⟩

/-- In brackets, where it binds not tightly enough. -/
def atB (b : Bool) (B : ByteArray) : ByteArray := bif b then ⟨#[40]⟩ ++ B ++ ⟨#[41]⟩ else B

theorem atB_size (b : Bool) (B : ByteArray) : (atB b B).size ≤ B.size + 2 := by
  cases b
  · exact Nat.le_add_right _ _
  · simp only [atB, cond_true, ByteArray.size_append]
    show 1 + B.size + 1 ≤ B.size + 2
    omega

set_option maxHeartbeats 400000 in
theorem at_any (F B T : ByteArray) (l k : Nat) (hb : B.size ≤ 1000000) (w : World) :
    Calls Tryz.prog 35 #[.agg #[.string F, .string B, .string T, .int .i64 l], .int .i64 k] w fun e w' => e = .returned (.string (atB (decide (l < k)) B)) ∧ Below w.heap.size w w' := by
  unfold atB
  cases h : decide (l < k)
  · have h' : ¬ (l : Int) < (k : Int) := by simp at h; omega
    have hd : decide ((l : Int) < (k : Int)) = false := by simpa using h'
    go_enter Tryz.func35, Tryz.ntmps35
    go_wp2
    go_ret
    exact ⟨rfl, (Below.refl _ _).alloc (Nat.le_refl _) _⟩
  · have h' : (l : Int) < (k : Int) := by simp at h; omega
    have hd : decide ((l : Int) < (k : Int)) = true := by simpa using h'
    go_enter Tryz.func35, Tryz.ntmps35
    go_wp2
    go_ret
    exact ⟨rfl, (Below.refl _ _).alloc (Nat.le_refl _) _⟩

theorem retStr {a b : ByteArray} (h : a = b) : Ending.returned (.string a) = .returned (.string b) := by rw [h]

theorem digit_cut : ∀ n : Fin 10, (⟨#[48, 49, 50, 51, 52, 53, 54, 55, 56, 57]⟩ : ByteArray).extract n.1 (n.1 + 1) = bs [digitN n.1] := by decide

set_option maxHeartbeats 800000 in
theorem decimal1 (n : Nat) (h : n < 10) (w : World) : Calls Tryz.prog 46 #[.int .i64 n] w fun e w' => e = .returned (.string (bs [digitN n])) ∧ ∃ m, w' = w.drewN m := by
  have hd : decide ((n : Int) < 10) = true := by simp; omega
  have hx := digit_cut ⟨n, h⟩
  simp only at hx
  go_enter Tryz.func46, Tryz.ntmps46
  go_wp2
  go_ret
  exact ⟨rfl, 0, rfl⟩

set_option maxHeartbeats 800000 in
theorem decimalN (n : Nat) (h : 10 ≤ n) (h2 : n < 1000) (l : List UInt8) (hl : l.length ≤ 10) (w : World) (hc : ∀ wx, Calls Tryz.prog 46 #[.int .i64 ((n / 10 : Nat) : Int)] wx fun e w' => e = .returned (.string (bs l)) ∧ ∃ m, w' = wx.drewN m) :
    Calls Tryz.prog 46 #[.int .i64 n] w fun e w' => e = .returned (.string (bs (l ++ [digitN (n % 10)]))) ∧ ∃ m, w' = w.drewN m := by
  have hd : decide ((n : Int) < 10) = false := by simp; omega
  have hx := digit_cut ⟨n % 10, by omega⟩
  simp only at hx
  have hsz : (bs l).size ≤ 10 := hl
  generalize hL : bs l = L at *
  generalize hD : bs [digitN (n % 10)] = D at *
  have hD1 : D.size ≤ 1 := by rw [← hD]; exact Nat.le_refl _
  have HL := hide hL
  have HD := hide hD
  have HC := hide hc
  clear hL hc hD
  have hp : (0 : Int) ≤ (n : Int) % 10 := by omega
  have hq : (n : Int) % 10 ≤ 9 := by omega
  go_enter Tryz.func46, Tryz.ntmps46
  go_wp2
  go_quiet ((go_at_call 46; exact Calls.quiet_of (HC.out _)))
  go_wp2
  go_ret
  exact ⟨retStr (by rw [← HL.out, ← HD.out, bs_app]), _, rfl⟩

theorem decimal_any (n : Fin 1000) (w : World) : Calls Tryz.prog 46 #[.int .i64 n.1] w fun e w' => e = .returned (.string (bs (decN n.1))) ∧ ∃ m, w' = w.drewN m := by
  obtain ⟨n, hn⟩ := n
  show Calls _ _ #[.int .i64 (n : Nat)] w fun e w' => e = .returned (.string (bs (decN n))) ∧ ∃ m, w' = w.drewN m
  by_cases h1 : n < 10
  · rw [show decN n = [digitN n] by rw [decN, if_pos h1]]
    exact decimal1 n h1 w
  · by_cases h2 : n < 100
    · rw [show decN n = [digitN (n / 10)] ++ [digitN (n % 10)] by rw [decN, if_neg h1, if_pos h2]; rfl]
      exact decimalN n (by omega) hn _ (by simp) w (fun wx => decimal1 _ (by omega) wx)
    · rw [show decN n = [digitN (n / 10 / 10), digitN (n / 10 % 10)] ++ [digitN (n % 10)] by rw [decN, if_neg h1, if_neg h2, show n / 10 / 10 = n / 100 by omega]; rfl]
      exact decimalN n (by omega) hn _ (by simp) w (fun wx => decimalN (n / 10) (by omega) (by omega) [digitN (n / 10 / 10)] (by simp) wx (fun wy => decimal1 _ (by omega) wy))

end Go.Proofs.YtnocnkblhjifjaaGreatDoor
/-
  Texts of made expressions, as the Go text joins them; the frame of (*Raw).made's walk.
-/
namespace Go.Proofs.YtnocnkblhjifjaaGreatDoor
open Go.RowKit
set_option linter.unusedSimpArgs false

def fb (e : Ex) : ByteArray := bs e.full.flatten
def bb (e : Ex) : ByteArray := bs e.bare.flatten
def tb (e : Ex) : ByteArray := bs e.tree.text
def madeV (e : Ex) : Value := .agg #[.string (fb e), .string (bb e), .string (tb e), .int .i64 e.level]

theorem lit_bs (a : Array UInt8) : (⟨a⟩ : ByteArray) = bs a.toList := rfl

theorem wrap_bs (b : Bool) (l : Toks) : bs (Ex.wrap b l).flatten = atB b (bs l.flatten) := by
  cases b
  · rfl
  · simp only [Ex.wrap, atB, cond_true, lit_bs, bs_app]
    congr 1
    simp [K.open_, K.shut_]

theorem Ex.lens : ∀ e : Ex, e.Ok → lenT e.full + 60 ≤ 70 * 4 ^ e.dep ∧ lenT e.bare + 60 ≤ 70 * 4 ^ e.dep ∧ e.tree.text.length + 60 ≤ 70 * 4 ^ e.dep := by
  have mono : ∀ {a b}, a ≤ b → 4 ^ a ≤ 4 ^ b := fun h => Nat.pow_le_pow_right (by decide) h
  intro e he
  refine Ex.ind (Q := fun e => lenT e.full + 60 ≤ 70 * 4 ^ e.dep ∧ lenT e.bare + 60 ≤ 70 * 4 ^ e.dep ∧ e.tree.text.length + 60 ≤ 70 * 4 ^ e.dep) ?num ?tru ?unit ?nil ?var ?op ?app ?cons ?bang ?fn ?lett ?set ?seq ?ite ?mtch he
  case num =>
    intro n
    have := (decN_facts n).2.2.2.2.1; simp only [Ex.num, Ex.tru, Ex.unit, Ex.nil, Ex.var, Ex.leaf, Ex.op, Ex.app, Ex.cons, Ex.bang, Ex.fn, Ex.lett, Ex.set, Ex.seq, Ex.ite, Ex.mtch, Tr.text, leafT, lenT_cons, lenT_nil]; simp; omega
  case tru =>
    decide
  case unit =>
    decide
  case nil =>
    decide
  case var =>
    intro x
    have := (varN_facts x).2.2.2.1; simp only [Ex.num, Ex.tru, Ex.unit, Ex.nil, Ex.var, Ex.leaf, Ex.op, Ex.app, Ex.cons, Ex.bang, Ex.fn, Ex.lett, Ex.set, Ex.seq, Ex.ite, Ex.mtch, Tr.text, leafT, lenT_cons, lenT_nil]; simp; omega
  case op =>
    intro o a b iha ihb
    have h1 := mono (Nat.le_max_left a.dep b.dep)
    have h2 := mono (Nat.le_max_right a.dep b.dep)
    have h3 := lenT_wrap (decide (a.level < o.left)) a.bare
    have h4 := lenT_wrap (decide (b.level < o.right)) b.bare
    have h5 : (Ex.op o a b).tree.text = [40, o.sign, 32] ++ a.tree.text ++ [32] ++ b.tree.text ++ [41] := by rcases o.all with rfl | rfl | rfl | rfl | rfl | rfl <;> simp [Ex.num, Ex.tru, Ex.unit, Ex.nil, Ex.var, Ex.leaf, Ex.op, Ex.app, Ex.cons, Ex.bang, Ex.fn, Ex.lett, Ex.set, Ex.seq, Ex.ite, Ex.mtch, Tr.text, Tr.text.texts, leafT, headT, Op.sign, K.num_, K.var_, K.const_, K.named_]
    rw [h5]
    simp only [Ex.num, Ex.tru, Ex.unit, Ex.nil, Ex.var, Ex.leaf, Ex.op, Ex.app, Ex.cons, Ex.bang, Ex.fn, Ex.lett, Ex.set, Ex.seq, Ex.ite, Ex.mtch, lenT_cons, lenT_app, lenT_nil, List.cons_append, K.open_, K.shut_, List.length_cons, List.length_nil, List.length_append, Nat.pow_succ]; omega
  case app =>
    intro a b iha ihb
    have h1 := mono (Nat.le_max_left a.dep b.dep)
    have h2 := mono (Nat.le_max_right a.dep b.dep)
    have h3 := lenT_wrap (decide (a.level < 4) || a.isCon) a.bare
    have h4 := lenT_wrap (decide (b.level < 5)) b.bare
    have h5 : (Ex.app a b).tree.text = [40, 97, 112, 112, 32] ++ a.tree.text ++ [32] ++ b.tree.text ++ [41] := by simp [Ex.num, Ex.tru, Ex.unit, Ex.nil, Ex.var, Ex.leaf, Ex.op, Ex.app, Ex.cons, Ex.bang, Ex.fn, Ex.lett, Ex.set, Ex.seq, Ex.ite, Ex.mtch, Tr.text, Tr.text.texts, leafT, headT, K.num_, K.var_, K.const_, K.named_, K.app_]
    rw [h5]
    simp only [Ex.num, Ex.tru, Ex.unit, Ex.nil, Ex.var, Ex.leaf, Ex.op, Ex.app, Ex.cons, Ex.bang, Ex.fn, Ex.lett, Ex.set, Ex.seq, Ex.ite, Ex.mtch, lenT_cons, lenT_app, lenT_nil, List.cons_append, K.open_, K.shut_, Ex.sp, List.length_cons, List.length_nil, List.length_append, Nat.pow_succ]; omega
  case cons =>
    intro a b iha ihb
    have h1 := mono (Nat.le_max_left a.dep b.dep)
    have h2 := mono (Nat.le_max_right a.dep b.dep)
    have h3 := lenT_wrap (decide (a.level < 5)) a.bare
    have h4 := lenT_wrap (decide (b.level < 5)) b.bare
    have h5 : (Ex.cons a b).tree.text = [40, 99, 111, 110, 32, 67, 111, 110, 115, 32] ++ a.tree.text ++ [32] ++ b.tree.text ++ [41] := by simp [Ex.num, Ex.tru, Ex.unit, Ex.nil, Ex.var, Ex.leaf, Ex.op, Ex.app, Ex.cons, Ex.bang, Ex.fn, Ex.lett, Ex.set, Ex.seq, Ex.ite, Ex.mtch, Tr.text, Tr.text.texts, leafT, headT, K.num_, K.var_, K.const_, K.named_, K.con_, Ex.consN]
    rw [h5]
    simp only [Ex.num, Ex.tru, Ex.unit, Ex.nil, Ex.var, Ex.leaf, Ex.op, Ex.app, Ex.cons, Ex.bang, Ex.fn, Ex.lett, Ex.set, Ex.seq, Ex.ite, Ex.mtch, lenT_cons, lenT_app, lenT_nil, List.cons_append, K.open_, K.shut_, Ex.sp, Ex.consN, List.length_cons, List.length_nil, List.length_append, Nat.pow_succ]; omega
  case bang =>
    intro a iha
    have h3 := lenT_wrap (decide (a.level < 5)) a.bare
    have h5 : (Ex.bang a).tree.text = [40, 33, 32] ++ a.tree.text ++ [41] := by simp [Ex.num, Ex.tru, Ex.unit, Ex.nil, Ex.var, Ex.leaf, Ex.op, Ex.app, Ex.cons, Ex.bang, Ex.fn, Ex.lett, Ex.set, Ex.seq, Ex.ite, Ex.mtch, Tr.text, Tr.text.texts, leafT, headT, K.num_, K.var_, K.const_, K.named_, K.bang_]
    rw [h5]
    simp only [Ex.num, Ex.tru, Ex.unit, Ex.nil, Ex.var, Ex.leaf, Ex.op, Ex.app, Ex.cons, Ex.bang, Ex.fn, Ex.lett, Ex.set, Ex.seq, Ex.ite, Ex.mtch, lenT_cons, lenT_app, lenT_nil, List.cons_append, K.open_, K.shut_, K.bang_, List.length_cons, List.length_nil, List.length_append, Nat.pow_succ]; omega
  case fn =>
    intro x a iha
    have := (varN_facts x).2.2.2.1
    have hx : (varN x == []) = false := by rw [beq_eq_false_iff_ne]; intro e; rw [e] at this; cases this
    have h5 : (Ex.fn x a).tree.text = [40, 102, 117, 110, 32] ++ varN x ++ [32] ++ a.tree.text ++ [41] := by simp [Ex.num, Ex.tru, Ex.unit, Ex.nil, Ex.var, Ex.leaf, Ex.op, Ex.app, Ex.cons, Ex.bang, Ex.fn, Ex.lett, Ex.set, Ex.seq, Ex.ite, Ex.mtch, Tr.text, Tr.text.texts, leafT, headT, K.num_, K.var_, K.const_, K.named_, K.fun_, hx]
    rw [h5]
    simp only [Ex.num, Ex.tru, Ex.unit, Ex.nil, Ex.var, Ex.leaf, Ex.op, Ex.app, Ex.cons, Ex.bang, Ex.fn, Ex.lett, Ex.set, Ex.seq, Ex.ite, Ex.mtch, lenT_cons, lenT_app, lenT_nil, List.cons_append, K.open_, K.shut_, K.fun_, K.arrow_, Ex.sp, List.length_cons, List.length_nil, List.length_append, Nat.pow_succ]; omega
  case lett =>
    intro x a b iha ihb
    have := (varN_facts x).2.2.2.1
    have hx : (varN x == []) = false := by rw [beq_eq_false_iff_ne]; intro e; rw [e] at this; cases this
    have h1 := mono (Nat.le_max_left a.dep b.dep)
    have h2 := mono (Nat.le_max_right a.dep b.dep)
    have h5 : (Ex.lett x a b).tree.text = [40, 108, 101, 116, 32] ++ varN x ++ [32] ++ a.tree.text ++ [32] ++ b.tree.text ++ [41] := by simp [Ex.num, Ex.tru, Ex.unit, Ex.nil, Ex.var, Ex.leaf, Ex.op, Ex.app, Ex.cons, Ex.bang, Ex.fn, Ex.lett, Ex.set, Ex.seq, Ex.ite, Ex.mtch, Tr.text, Tr.text.texts, leafT, headT, K.num_, K.var_, K.const_, K.named_, K.let_, hx]
    rw [h5]
    simp only [Ex.num, Ex.tru, Ex.unit, Ex.nil, Ex.var, Ex.leaf, Ex.op, Ex.app, Ex.cons, Ex.bang, Ex.fn, Ex.lett, Ex.set, Ex.seq, Ex.ite, Ex.mtch, lenT_cons, lenT_app, lenT_nil, List.cons_append, K.open_, K.shut_, K.let_, K.eq_, K.in_, Ex.sp, List.length_cons, List.length_nil, List.length_append, Nat.pow_succ]; omega
  case set =>
    intro a b iha ihb
    have h1 := mono (Nat.le_max_left a.dep b.dep)
    have h2 := mono (Nat.le_max_right a.dep b.dep)
    have h3 := lenT_wrap (decide (a.level < 1)) a.bare
    have h4 := lenT_wrap (decide (b.level < 1)) b.bare
    have h5 : (Ex.set a b).tree.text = [40, 115, 101, 116, 32] ++ a.tree.text ++ [32] ++ b.tree.text ++ [41] := by simp [Ex.num, Ex.tru, Ex.unit, Ex.nil, Ex.var, Ex.leaf, Ex.op, Ex.app, Ex.cons, Ex.bang, Ex.fn, Ex.lett, Ex.set, Ex.seq, Ex.ite, Ex.mtch, Tr.text, Tr.text.texts, leafT, headT, K.num_, K.var_, K.const_, K.named_, K.setN_]
    rw [h5]
    simp only [Ex.num, Ex.tru, Ex.unit, Ex.nil, Ex.var, Ex.leaf, Ex.op, Ex.app, Ex.cons, Ex.bang, Ex.fn, Ex.lett, Ex.set, Ex.seq, Ex.ite, Ex.mtch, lenT_cons, lenT_app, lenT_nil, List.cons_append, K.open_, K.shut_, K.set_, Ex.sp, List.length_cons, List.length_nil, List.length_append, Nat.pow_succ]; omega
  case seq =>
    intro a b iha ihb
    have h1 := mono (Nat.le_max_left a.dep b.dep)
    have h2 := mono (Nat.le_max_right a.dep b.dep)
    have h3 := lenT_wrap (decide (a.level < 1) && !a.isSet) a.bare
    have h5 : (Ex.seq a b).tree.text = [40, 115, 101, 113, 32] ++ a.tree.text ++ [32] ++ b.tree.text ++ [41] := by simp [Ex.num, Ex.tru, Ex.unit, Ex.nil, Ex.var, Ex.leaf, Ex.op, Ex.app, Ex.cons, Ex.bang, Ex.fn, Ex.lett, Ex.set, Ex.seq, Ex.ite, Ex.mtch, Tr.text, Tr.text.texts, leafT, headT, K.num_, K.var_, K.const_, K.named_, K.seq_]
    rw [h5]
    simp only [Ex.num, Ex.tru, Ex.unit, Ex.nil, Ex.var, Ex.leaf, Ex.op, Ex.app, Ex.cons, Ex.bang, Ex.fn, Ex.lett, Ex.set, Ex.seq, Ex.ite, Ex.mtch, lenT_cons, lenT_app, lenT_nil, List.cons_append, K.open_, K.shut_, K.semi_, Ex.sp, List.length_cons, List.length_nil, List.length_append, Nat.pow_succ]; omega
  case ite =>
    intro a b c iha ihb ihc
    have h1 := mono (Nat.le_max_left a.dep (max b.dep c.dep))
    have h2 := mono (show b.dep ≤ max a.dep (max b.dep c.dep) by omega)
    have h3 := mono (show c.dep ≤ max a.dep (max b.dep c.dep) by omega)
    have h5 : (Ex.ite a b c).tree.text = [40, 105, 102, 32] ++ a.tree.text ++ [32] ++ b.tree.text ++ [32] ++ c.tree.text ++ [41] := by simp [Ex.num, Ex.tru, Ex.unit, Ex.nil, Ex.var, Ex.leaf, Ex.op, Ex.app, Ex.cons, Ex.bang, Ex.fn, Ex.lett, Ex.set, Ex.seq, Ex.ite, Ex.mtch, Tr.text, Tr.text.texts, leafT, headT, K.num_, K.var_, K.const_, K.named_, K.if_]
    rw [h5]
    simp only [Ex.num, Ex.tru, Ex.unit, Ex.nil, Ex.var, Ex.leaf, Ex.op, Ex.app, Ex.cons, Ex.bang, Ex.fn, Ex.lett, Ex.set, Ex.seq, Ex.ite, Ex.mtch, lenT_cons, lenT_app, lenT_nil, List.cons_append, K.open_, K.shut_, K.if_, K.then_, K.else_, Ex.sp, List.length_cons, List.length_nil, List.length_append, Nat.pow_succ]; omega
  case mtch =>
    intro x a b c iha ihb ihc
    have := (varN_facts x).2.2.2.1
    have h1 := mono (Nat.le_max_left a.dep (max b.dep c.dep))
    have h2 := mono (show b.dep ≤ max a.dep (max b.dep c.dep) by omega)
    have h3 := mono (show c.dep ≤ max a.dep (max b.dep c.dep) by omega)
    have h5 : (Ex.mtch x a b c).tree.text = [40, 109, 97, 116, 99, 104, 32] ++ a.tree.text ++ [32, 40, 114, 111, 119, 32, 40, 99, 111, 110, 32, 78, 105, 108, 41, 32] ++ b.tree.text ++ [41, 32, 40, 114, 111, 119, 32, 40, 99, 111, 110, 32, 67, 111, 110, 115, 32] ++ varN x ++ [32, 95, 41, 32] ++ c.tree.text ++ [41, 41] := by
      simp [Ex.num, Ex.tru, Ex.unit, Ex.nil, Ex.var, Ex.leaf, Ex.op, Ex.app, Ex.cons, Ex.bang, Ex.fn, Ex.lett, Ex.set, Ex.seq, Ex.ite, Ex.mtch, Tr.text, Tr.text.texts, leafT, headT, K.num_, K.var_, K.const_, K.named_, K.match_, K.row_, K.con_, K.under_, Ex.nilN, Ex.consN]
    rw [h5]
    simp only [Ex.num, Ex.tru, Ex.unit, Ex.nil, Ex.var, Ex.leaf, Ex.op, Ex.app, Ex.cons, Ex.bang, Ex.fn, Ex.lett, Ex.set, Ex.seq, Ex.ite, Ex.mtch, lenT_cons, lenT_app, lenT_nil, List.cons_append, K.open_, K.shut_, K.match_, K.with_, K.bar_, K.arrow_, K.under_, K.end_, Ex.nilN, Ex.consN, Ex.sp, List.length_cons, List.length_nil, List.length_append, Nat.pow_succ]; omega

theorem Op.level_le (o : Op) : o.level ≤ 5 := by rcases o.all with rfl | rfl | rfl | rfl | rfl | rfl <;> decide

/-- How long the texts are. -/
theorem Ex.sizes (e : Ex) (he : e.Ok) (h : e.dep ≤ 5) : (fb e).size ≤ 71680 ∧ (bb e).size ≤ 71680 ∧ (tb e).size ≤ 71680 ∧ e.level ≤ 5 := by
  have h1 := e.lens he
  have h2 : 4 ^ e.dep ≤ 4 ^ 5 := Nat.pow_le_pow_right (by decide) h
  have h3 : (fb e).size = lenT e.full := by simp [fb, bs, ByteArray.size, lenT]
  have h4 : (bb e).size = lenT e.bare := by simp [bb, bs, ByteArray.size, lenT]
  have h5 : (tb e).size = e.tree.text.length := by simp [tb, bs, ByteArray.size]
  refine ⟨by omega, by omega, by omega, ?_⟩
  refine Ex.ind (Q := fun e => e.level ≤ 5) ?_ ?_ ?_ ?_ ?_ ?_ ?_ ?_ ?_ ?_ ?_ ?_ ?_ ?_ ?_ he <;> intros <;> first | exact Nat.le_refl 5 | exact (show 4 ≤ 5 by decide) | exact (show 0 ≤ 5 by decide) | exact Op.level_le _

theorem varN_ne (x : Fin 4) : (varN x).isEmpty = false := by
  have := (varN_facts x).2.2.2.1
  cases h : varN x with
  | nil => rw [h] at this; cases this
  | cons a l => rfl

theorem fb_op (o : Op) (a b : Ex) : fb (Ex.op o a b) = ⟨#[40]⟩ ++ fb a ++ ⟨#[41]⟩ ++ bs [o.sign] ++ ⟨#[40]⟩ ++ fb b ++ ⟨#[41]⟩ := by
  simp only [fb, lit_bs, bs_app]
  congr 1
  simp [Ex.num, Ex.tru, Ex.unit, Ex.nil, Ex.var, Ex.leaf, Ex.op, Ex.app, Ex.cons, Ex.bang, Ex.fn, Ex.lett, Ex.set, Ex.seq, Ex.ite, Ex.mtch, K.open_, K.shut_, K.bang_, K.eq_, K.semi_, K.bar_, K.under_, K.true_, K.let_, K.in_, K.fun_, K.if_, K.then_, K.else_, K.match_, K.with_, K.end_, K.set_, K.arrow_, Ex.nilN, Ex.consN, Ex.sp]
theorem bb_op (o : Op) (a b : Ex) : bb (Ex.op o a b) = atB (decide (a.level < o.left)) (bb a) ++ bs [o.sign] ++ atB (decide (b.level < o.right)) (bb b) := by
  simp only [bb, lit_bs, ← wrap_bs, bs_app]
  congr 1
  simp [Ex.num, Ex.tru, Ex.unit, Ex.nil, Ex.var, Ex.leaf, Ex.op, Ex.app, Ex.cons, Ex.bang, Ex.fn, Ex.lett, Ex.set, Ex.seq, Ex.ite, Ex.mtch, K.open_, K.shut_, K.bang_, K.eq_, K.semi_, K.bar_, K.under_, K.true_, K.let_, K.in_, K.fun_, K.if_, K.then_, K.else_, K.match_, K.with_, K.end_, K.set_, K.arrow_, Ex.nilN, Ex.consN, Ex.sp]
theorem tb_op (o : Op) (a b : Ex) : tb (Ex.op o a b) = ⟨#[40]⟩ ++ bs [o.sign] ++ ⟨#[32]⟩ ++ tb a ++ ⟨#[32]⟩ ++ tb b ++ ⟨#[41]⟩ := by
  simp only [tb, lit_bs, bs_app]
  congr 1
  rcases o.all with rfl | rfl | rfl | rfl | rfl | rfl <;> simp [Ex.num, Ex.tru, Ex.unit, Ex.nil, Ex.var, Ex.leaf, Ex.op, Ex.app, Ex.cons, Ex.bang, Ex.fn, Ex.lett, Ex.set, Ex.seq, Ex.ite, Ex.mtch, Tr.text, Tr.text.texts, leafT, headT, Op.sign, K.num_, K.var_, K.const_, K.named_, K.app_, K.con_, K.bang_, K.fun_, K.let_, K.setN_, K.seq_, K.if_, K.match_, K.row_, K.under_, Ex.nilN, Ex.consN]

theorem fb_app (a b : Ex) : fb (Ex.app a b) = ⟨#[40]⟩ ++ fb a ++ ⟨#[41, 40]⟩ ++ fb b ++ ⟨#[41]⟩ := by
  simp only [fb, lit_bs, bs_app]
  congr 1
  simp [Ex.num, Ex.tru, Ex.unit, Ex.nil, Ex.var, Ex.leaf, Ex.op, Ex.app, Ex.cons, Ex.bang, Ex.fn, Ex.lett, Ex.set, Ex.seq, Ex.ite, Ex.mtch, K.open_, K.shut_, K.bang_, K.eq_, K.semi_, K.bar_, K.under_, K.true_, K.let_, K.in_, K.fun_, K.if_, K.then_, K.else_, K.match_, K.with_, K.end_, K.set_, K.arrow_, Ex.nilN, Ex.consN, Ex.sp]
theorem bb_app (a b : Ex) : bb (Ex.app a b) = atB (decide (a.level < 4) || a.isCon) (bb a) ++ ⟨#[32]⟩ ++ atB (decide (b.level < 5)) (bb b) := by
  simp only [bb, lit_bs, ← wrap_bs, bs_app]
  congr 1
  simp [Ex.num, Ex.tru, Ex.unit, Ex.nil, Ex.var, Ex.leaf, Ex.op, Ex.app, Ex.cons, Ex.bang, Ex.fn, Ex.lett, Ex.set, Ex.seq, Ex.ite, Ex.mtch, K.open_, K.shut_, K.bang_, K.eq_, K.semi_, K.bar_, K.under_, K.true_, K.let_, K.in_, K.fun_, K.if_, K.then_, K.else_, K.match_, K.with_, K.end_, K.set_, K.arrow_, Ex.nilN, Ex.consN, Ex.sp]
theorem tb_app (a b : Ex) : tb (Ex.app a b) = ⟨#[40, 97, 112, 112, 32]⟩ ++ tb a ++ ⟨#[32]⟩ ++ tb b ++ ⟨#[41]⟩ := by
  simp only [tb, lit_bs, bs_app]
  congr 1
  simp [Ex.num, Ex.tru, Ex.unit, Ex.nil, Ex.var, Ex.leaf, Ex.op, Ex.app, Ex.cons, Ex.bang, Ex.fn, Ex.lett, Ex.set, Ex.seq, Ex.ite, Ex.mtch, Tr.text, Tr.text.texts, leafT, headT, varN_ne, K.num_, K.var_, K.const_, K.named_, K.app_, K.con_, K.bang_, K.fun_, K.let_, K.setN_, K.seq_, K.if_, K.match_, K.row_, K.under_, Ex.nilN, Ex.consN]

theorem fb_cons (a b : Ex) : fb (Ex.cons a b) = ⟨#[67, 111, 110, 115, 40]⟩ ++ fb a ++ ⟨#[41, 40]⟩ ++ fb b ++ ⟨#[41]⟩ := by
  simp only [fb, lit_bs, bs_app]
  congr 1
  simp [Ex.num, Ex.tru, Ex.unit, Ex.nil, Ex.var, Ex.leaf, Ex.op, Ex.app, Ex.cons, Ex.bang, Ex.fn, Ex.lett, Ex.set, Ex.seq, Ex.ite, Ex.mtch, K.open_, K.shut_, K.bang_, K.eq_, K.semi_, K.bar_, K.under_, K.true_, K.let_, K.in_, K.fun_, K.if_, K.then_, K.else_, K.match_, K.with_, K.end_, K.set_, K.arrow_, Ex.nilN, Ex.consN, Ex.sp]
theorem bb_cons (a b : Ex) : bb (Ex.cons a b) = ⟨#[67, 111, 110, 115, 32]⟩ ++ atB (decide (a.level < 5)) (bb a) ++ ⟨#[32]⟩ ++ atB (decide (b.level < 5)) (bb b) := by
  simp only [bb, lit_bs, ← wrap_bs, bs_app]
  congr 1
  simp [Ex.num, Ex.tru, Ex.unit, Ex.nil, Ex.var, Ex.leaf, Ex.op, Ex.app, Ex.cons, Ex.bang, Ex.fn, Ex.lett, Ex.set, Ex.seq, Ex.ite, Ex.mtch, K.open_, K.shut_, K.bang_, K.eq_, K.semi_, K.bar_, K.under_, K.true_, K.let_, K.in_, K.fun_, K.if_, K.then_, K.else_, K.match_, K.with_, K.end_, K.set_, K.arrow_, Ex.nilN, Ex.consN, Ex.sp]
theorem tb_cons (a b : Ex) : tb (Ex.cons a b) = ⟨#[40, 99, 111, 110, 32, 67, 111, 110, 115, 32]⟩ ++ tb a ++ ⟨#[32]⟩ ++ tb b ++ ⟨#[41]⟩ := by
  simp only [tb, lit_bs, bs_app]
  congr 1
  simp [Ex.num, Ex.tru, Ex.unit, Ex.nil, Ex.var, Ex.leaf, Ex.op, Ex.app, Ex.cons, Ex.bang, Ex.fn, Ex.lett, Ex.set, Ex.seq, Ex.ite, Ex.mtch, Tr.text, Tr.text.texts, leafT, headT, varN_ne, K.num_, K.var_, K.const_, K.named_, K.app_, K.con_, K.bang_, K.fun_, K.let_, K.setN_, K.seq_, K.if_, K.match_, K.row_, K.under_, Ex.nilN, Ex.consN]

theorem fb_bang (a : Ex) : fb (Ex.bang a) = ⟨#[33, 40]⟩ ++ fb a ++ ⟨#[41]⟩ := by
  simp only [fb, lit_bs, bs_app]
  congr 1
  simp [Ex.num, Ex.tru, Ex.unit, Ex.nil, Ex.var, Ex.leaf, Ex.op, Ex.app, Ex.cons, Ex.bang, Ex.fn, Ex.lett, Ex.set, Ex.seq, Ex.ite, Ex.mtch, K.open_, K.shut_, K.bang_, K.eq_, K.semi_, K.bar_, K.under_, K.true_, K.let_, K.in_, K.fun_, K.if_, K.then_, K.else_, K.match_, K.with_, K.end_, K.set_, K.arrow_, Ex.nilN, Ex.consN, Ex.sp]
theorem bb_bang (a : Ex) : bb (Ex.bang a) = ⟨#[33]⟩ ++ atB (decide (a.level < 5)) (bb a) := by
  simp only [bb, lit_bs, ← wrap_bs, bs_app]
  rfl

theorem tb_bang (a : Ex) : tb (Ex.bang a) = ⟨#[40, 33, 32]⟩ ++ tb a ++ ⟨#[41]⟩ := by
  simp only [tb, lit_bs, bs_app]
  congr 1
  simp [Ex.num, Ex.tru, Ex.unit, Ex.nil, Ex.var, Ex.leaf, Ex.op, Ex.app, Ex.cons, Ex.bang, Ex.fn, Ex.lett, Ex.set, Ex.seq, Ex.ite, Ex.mtch, Tr.text, Tr.text.texts, leafT, headT, varN_ne, K.num_, K.var_, K.const_, K.named_, K.app_, K.con_, K.bang_, K.fun_, K.let_, K.setN_, K.seq_, K.if_, K.match_, K.row_, K.under_, Ex.nilN, Ex.consN]

theorem fb_fn (x : Fin 4) (a : Ex) : fb (Ex.fn x a) = ⟨#[102, 117, 110, 32]⟩ ++ bs (varN x) ++ ⟨#[32, 45, 62, 32, 40]⟩ ++ fb a ++ ⟨#[41]⟩ := by
  simp only [fb, lit_bs, bs_app]
  congr 1
  simp [Ex.num, Ex.tru, Ex.unit, Ex.nil, Ex.var, Ex.leaf, Ex.op, Ex.app, Ex.cons, Ex.bang, Ex.fn, Ex.lett, Ex.set, Ex.seq, Ex.ite, Ex.mtch, K.open_, K.shut_, K.bang_, K.eq_, K.semi_, K.bar_, K.under_, K.true_, K.let_, K.in_, K.fun_, K.if_, K.then_, K.else_, K.match_, K.with_, K.end_, K.set_, K.arrow_, Ex.nilN, Ex.consN, Ex.sp]
theorem bb_fn (x : Fin 4) (a : Ex) : bb (Ex.fn x a) = ⟨#[102, 117, 110, 32]⟩ ++ bs (varN x) ++ ⟨#[45, 62]⟩ ++ bb a := by
  simp only [bb, lit_bs, ← wrap_bs, bs_app]
  congr 1
  simp [Ex.num, Ex.tru, Ex.unit, Ex.nil, Ex.var, Ex.leaf, Ex.op, Ex.app, Ex.cons, Ex.bang, Ex.fn, Ex.lett, Ex.set, Ex.seq, Ex.ite, Ex.mtch, K.open_, K.shut_, K.bang_, K.eq_, K.semi_, K.bar_, K.under_, K.true_, K.let_, K.in_, K.fun_, K.if_, K.then_, K.else_, K.match_, K.with_, K.end_, K.set_, K.arrow_, Ex.nilN, Ex.consN, Ex.sp]
theorem tb_fn (x : Fin 4) (a : Ex) : tb (Ex.fn x a) = ⟨#[40, 102, 117, 110, 32]⟩ ++ bs (varN x) ++ ⟨#[32]⟩ ++ tb a ++ ⟨#[41]⟩ := by
  simp only [tb, lit_bs, bs_app]
  congr 1
  simp [Ex.num, Ex.tru, Ex.unit, Ex.nil, Ex.var, Ex.leaf, Ex.op, Ex.app, Ex.cons, Ex.bang, Ex.fn, Ex.lett, Ex.set, Ex.seq, Ex.ite, Ex.mtch, Tr.text, Tr.text.texts, leafT, headT, varN_ne, K.num_, K.var_, K.const_, K.named_, K.app_, K.con_, K.bang_, K.fun_, K.let_, K.setN_, K.seq_, K.if_, K.match_, K.row_, K.under_, Ex.nilN, Ex.consN]

theorem fb_lett (x : Fin 4) (a b : Ex) : fb (Ex.lett x a b) = ⟨#[108, 101, 116, 32]⟩ ++ bs (varN x) ++ ⟨#[32, 61, 32, 40]⟩ ++ fb a ++ ⟨#[41, 32, 105, 110, 32, 40]⟩ ++ fb b ++ ⟨#[41]⟩ := by
  simp only [fb, lit_bs, bs_app]
  congr 1
  simp [Ex.num, Ex.tru, Ex.unit, Ex.nil, Ex.var, Ex.leaf, Ex.op, Ex.app, Ex.cons, Ex.bang, Ex.fn, Ex.lett, Ex.set, Ex.seq, Ex.ite, Ex.mtch, K.open_, K.shut_, K.bang_, K.eq_, K.semi_, K.bar_, K.under_, K.true_, K.let_, K.in_, K.fun_, K.if_, K.then_, K.else_, K.match_, K.with_, K.end_, K.set_, K.arrow_, Ex.nilN, Ex.consN, Ex.sp]
theorem bb_lett (x : Fin 4) (a b : Ex) : bb (Ex.lett x a b) = ⟨#[108, 101, 116, 32]⟩ ++ bs (varN x) ++ ⟨#[61]⟩ ++ bb a ++ ⟨#[32, 105, 110, 32]⟩ ++ bb b := by
  simp only [bb, lit_bs, ← wrap_bs, bs_app]
  congr 1
  simp [Ex.num, Ex.tru, Ex.unit, Ex.nil, Ex.var, Ex.leaf, Ex.op, Ex.app, Ex.cons, Ex.bang, Ex.fn, Ex.lett, Ex.set, Ex.seq, Ex.ite, Ex.mtch, K.open_, K.shut_, K.bang_, K.eq_, K.semi_, K.bar_, K.under_, K.true_, K.let_, K.in_, K.fun_, K.if_, K.then_, K.else_, K.match_, K.with_, K.end_, K.set_, K.arrow_, Ex.nilN, Ex.consN, Ex.sp]
theorem tb_lett (x : Fin 4) (a b : Ex) : tb (Ex.lett x a b) = ⟨#[40, 108, 101, 116, 32]⟩ ++ bs (varN x) ++ ⟨#[32]⟩ ++ tb a ++ ⟨#[32]⟩ ++ tb b ++ ⟨#[41]⟩ := by
  simp only [tb, lit_bs, bs_app]
  congr 1
  simp [Ex.num, Ex.tru, Ex.unit, Ex.nil, Ex.var, Ex.leaf, Ex.op, Ex.app, Ex.cons, Ex.bang, Ex.fn, Ex.lett, Ex.set, Ex.seq, Ex.ite, Ex.mtch, Tr.text, Tr.text.texts, leafT, headT, varN_ne, K.num_, K.var_, K.const_, K.named_, K.app_, K.con_, K.bang_, K.fun_, K.let_, K.setN_, K.seq_, K.if_, K.match_, K.row_, K.under_, Ex.nilN, Ex.consN]

theorem fb_set (a b : Ex) : fb (Ex.set a b) = ⟨#[40]⟩ ++ fb a ++ ⟨#[41, 32, 58, 61, 32, 40]⟩ ++ fb b ++ ⟨#[41]⟩ := by
  simp only [fb, lit_bs, bs_app]
  congr 1
  simp [Ex.num, Ex.tru, Ex.unit, Ex.nil, Ex.var, Ex.leaf, Ex.op, Ex.app, Ex.cons, Ex.bang, Ex.fn, Ex.lett, Ex.set, Ex.seq, Ex.ite, Ex.mtch, K.open_, K.shut_, K.bang_, K.eq_, K.semi_, K.bar_, K.under_, K.true_, K.let_, K.in_, K.fun_, K.if_, K.then_, K.else_, K.match_, K.with_, K.end_, K.set_, K.arrow_, Ex.nilN, Ex.consN, Ex.sp]
theorem bb_set (a b : Ex) : bb (Ex.set a b) = atB (decide (a.level < 1)) (bb a) ++ ⟨#[58, 61]⟩ ++ atB (decide (b.level < 1)) (bb b) := by
  simp only [bb, lit_bs, ← wrap_bs, bs_app]
  congr 1
  simp [Ex.num, Ex.tru, Ex.unit, Ex.nil, Ex.var, Ex.leaf, Ex.op, Ex.app, Ex.cons, Ex.bang, Ex.fn, Ex.lett, Ex.set, Ex.seq, Ex.ite, Ex.mtch, K.open_, K.shut_, K.bang_, K.eq_, K.semi_, K.bar_, K.under_, K.true_, K.let_, K.in_, K.fun_, K.if_, K.then_, K.else_, K.match_, K.with_, K.end_, K.set_, K.arrow_, Ex.nilN, Ex.consN, Ex.sp]
theorem tb_set (a b : Ex) : tb (Ex.set a b) = ⟨#[40, 115, 101, 116, 32]⟩ ++ tb a ++ ⟨#[32]⟩ ++ tb b ++ ⟨#[41]⟩ := by
  simp only [tb, lit_bs, bs_app]
  congr 1
  simp [Ex.num, Ex.tru, Ex.unit, Ex.nil, Ex.var, Ex.leaf, Ex.op, Ex.app, Ex.cons, Ex.bang, Ex.fn, Ex.lett, Ex.set, Ex.seq, Ex.ite, Ex.mtch, Tr.text, Tr.text.texts, leafT, headT, varN_ne, K.num_, K.var_, K.const_, K.named_, K.app_, K.con_, K.bang_, K.fun_, K.let_, K.setN_, K.seq_, K.if_, K.match_, K.row_, K.under_, Ex.nilN, Ex.consN]

theorem fb_seq (a b : Ex) : fb (Ex.seq a b) = ⟨#[40]⟩ ++ fb a ++ ⟨#[41, 32, 59, 32, 40]⟩ ++ fb b ++ ⟨#[41]⟩ := by
  simp only [fb, lit_bs, bs_app]
  congr 1
  simp [Ex.num, Ex.tru, Ex.unit, Ex.nil, Ex.var, Ex.leaf, Ex.op, Ex.app, Ex.cons, Ex.bang, Ex.fn, Ex.lett, Ex.set, Ex.seq, Ex.ite, Ex.mtch, K.open_, K.shut_, K.bang_, K.eq_, K.semi_, K.bar_, K.under_, K.true_, K.let_, K.in_, K.fun_, K.if_, K.then_, K.else_, K.match_, K.with_, K.end_, K.set_, K.arrow_, Ex.nilN, Ex.consN, Ex.sp]
theorem bb_seq (a b : Ex) : bb (Ex.seq a b) = atB (decide (a.level < 1) && !a.isSet) (bb a) ++ ⟨#[59]⟩ ++ bb b := by
  simp only [bb, lit_bs, ← wrap_bs, bs_app]
  congr 1
  simp [Ex.num, Ex.tru, Ex.unit, Ex.nil, Ex.var, Ex.leaf, Ex.op, Ex.app, Ex.cons, Ex.bang, Ex.fn, Ex.lett, Ex.set, Ex.seq, Ex.ite, Ex.mtch, K.open_, K.shut_, K.bang_, K.eq_, K.semi_, K.bar_, K.under_, K.true_, K.let_, K.in_, K.fun_, K.if_, K.then_, K.else_, K.match_, K.with_, K.end_, K.set_, K.arrow_, Ex.nilN, Ex.consN, Ex.sp]
theorem tb_seq (a b : Ex) : tb (Ex.seq a b) = ⟨#[40, 115, 101, 113, 32]⟩ ++ tb a ++ ⟨#[32]⟩ ++ tb b ++ ⟨#[41]⟩ := by
  simp only [tb, lit_bs, bs_app]
  congr 1
  simp [Ex.num, Ex.tru, Ex.unit, Ex.nil, Ex.var, Ex.leaf, Ex.op, Ex.app, Ex.cons, Ex.bang, Ex.fn, Ex.lett, Ex.set, Ex.seq, Ex.ite, Ex.mtch, Tr.text, Tr.text.texts, leafT, headT, varN_ne, K.num_, K.var_, K.const_, K.named_, K.app_, K.con_, K.bang_, K.fun_, K.let_, K.setN_, K.seq_, K.if_, K.match_, K.row_, K.under_, Ex.nilN, Ex.consN]

theorem fb_ite (a b c : Ex) : fb (Ex.ite a b c) = ⟨#[105, 102, 32, 40]⟩ ++ fb a ++ ⟨#[41, 32, 116, 104, 101, 110, 32, 40]⟩ ++ fb b ++ ⟨#[41, 32, 101, 108, 115, 101, 32, 40]⟩ ++ fb c ++ ⟨#[41]⟩ := by
  simp only [fb, lit_bs, bs_app]
  congr 1
  simp [Ex.num, Ex.tru, Ex.unit, Ex.nil, Ex.var, Ex.leaf, Ex.op, Ex.app, Ex.cons, Ex.bang, Ex.fn, Ex.lett, Ex.set, Ex.seq, Ex.ite, Ex.mtch, K.open_, K.shut_, K.bang_, K.eq_, K.semi_, K.bar_, K.under_, K.true_, K.let_, K.in_, K.fun_, K.if_, K.then_, K.else_, K.match_, K.with_, K.end_, K.set_, K.arrow_, Ex.nilN, Ex.consN, Ex.sp]
theorem bb_ite (a b c : Ex) : bb (Ex.ite a b c) = ⟨#[105, 102, 32]⟩ ++ bb a ++ ⟨#[32, 116, 104, 101, 110, 32]⟩ ++ bb b ++ ⟨#[32, 101, 108, 115, 101, 32]⟩ ++ bb c := by
  simp only [bb, lit_bs, ← wrap_bs, bs_app]
  congr 1
  simp [Ex.num, Ex.tru, Ex.unit, Ex.nil, Ex.var, Ex.leaf, Ex.op, Ex.app, Ex.cons, Ex.bang, Ex.fn, Ex.lett, Ex.set, Ex.seq, Ex.ite, Ex.mtch, K.open_, K.shut_, K.bang_, K.eq_, K.semi_, K.bar_, K.under_, K.true_, K.let_, K.in_, K.fun_, K.if_, K.then_, K.else_, K.match_, K.with_, K.end_, K.set_, K.arrow_, Ex.nilN, Ex.consN, Ex.sp]
theorem tb_ite (a b c : Ex) : tb (Ex.ite a b c) = ⟨#[40, 105, 102, 32]⟩ ++ tb a ++ ⟨#[32]⟩ ++ tb b ++ ⟨#[32]⟩ ++ tb c ++ ⟨#[41]⟩ := by
  simp only [tb, lit_bs, bs_app]
  congr 1
  simp [Ex.num, Ex.tru, Ex.unit, Ex.nil, Ex.var, Ex.leaf, Ex.op, Ex.app, Ex.cons, Ex.bang, Ex.fn, Ex.lett, Ex.set, Ex.seq, Ex.ite, Ex.mtch, Tr.text, Tr.text.texts, leafT, headT, varN_ne, K.num_, K.var_, K.const_, K.named_, K.app_, K.con_, K.bang_, K.fun_, K.let_, K.setN_, K.seq_, K.if_, K.match_, K.row_, K.under_, Ex.nilN, Ex.consN]

theorem fb_mtch (x : Fin 4) (a b c : Ex) : fb (Ex.mtch x a b c) = ⟨#[109, 97, 116, 99, 104, 32, 40]⟩ ++ fb a ++ ⟨#[41, 32, 119, 105, 116, 104, 32, 124, 32, 78, 105, 108, 32, 45, 62, 32, 40]⟩ ++ fb b ++ ⟨#[41, 32, 124, 32, 67, 111, 110, 115, 32, 40]⟩ ++ bs (varN x) ++ ⟨#[41, 32, 40, 95, 41, 32, 45, 62, 32, 40]⟩ ++ fb c ++ ⟨#[41, 32, 101, 110, 100]⟩ := by
  simp only [fb, lit_bs, bs_app]
  congr 1
  simp [Ex.num, Ex.tru, Ex.unit, Ex.nil, Ex.var, Ex.leaf, Ex.op, Ex.app, Ex.cons, Ex.bang, Ex.fn, Ex.lett, Ex.set, Ex.seq, Ex.ite, Ex.mtch, K.open_, K.shut_, K.bang_, K.eq_, K.semi_, K.bar_, K.under_, K.true_, K.let_, K.in_, K.fun_, K.if_, K.then_, K.else_, K.match_, K.with_, K.end_, K.set_, K.arrow_, Ex.nilN, Ex.consN, Ex.sp]
theorem bb_mtch (x : Fin 4) (a b c : Ex) : bb (Ex.mtch x a b c) = ⟨#[109, 97, 116, 99, 104, 32]⟩ ++ bb a ++ ⟨#[32, 119, 105, 116, 104, 124, 78, 105, 108, 45, 62]⟩ ++ bb b ++ ⟨#[124, 67, 111, 110, 115, 32]⟩ ++ bs (varN x) ++ ⟨#[32, 95, 45, 62]⟩ ++ bb c ++ ⟨#[32, 101, 110, 100]⟩ := by
  simp only [bb, lit_bs, ← wrap_bs, bs_app]
  congr 1
  simp [Ex.num, Ex.tru, Ex.unit, Ex.nil, Ex.var, Ex.leaf, Ex.op, Ex.app, Ex.cons, Ex.bang, Ex.fn, Ex.lett, Ex.set, Ex.seq, Ex.ite, Ex.mtch, K.open_, K.shut_, K.bang_, K.eq_, K.semi_, K.bar_, K.under_, K.true_, K.let_, K.in_, K.fun_, K.if_, K.then_, K.else_, K.match_, K.with_, K.end_, K.set_, K.arrow_, Ex.nilN, Ex.consN, Ex.sp]
theorem tb_mtch (x : Fin 4) (a b c : Ex) : tb (Ex.mtch x a b c) = ⟨#[40, 109, 97, 116, 99, 104, 32]⟩ ++ tb a ++ ⟨#[32, 40, 114, 111, 119, 32, 40, 99, 111, 110, 32, 78, 105, 108, 41, 32]⟩ ++ tb b ++ ⟨#[41, 32, 40, 114, 111, 119, 32, 40, 99, 111, 110, 32, 67, 111, 110, 115, 32]⟩ ++ bs (varN x) ++ ⟨#[32, 95, 41, 32]⟩ ++ tb c ++ ⟨#[41, 41]⟩ := by
  simp only [tb, lit_bs, bs_app]
  congr 1
  simp [Ex.num, Ex.tru, Ex.unit, Ex.nil, Ex.var, Ex.leaf, Ex.op, Ex.app, Ex.cons, Ex.bang, Ex.fn, Ex.lett, Ex.set, Ex.seq, Ex.ite, Ex.mtch, Tr.text, Tr.text.texts, leafT, headT, varN_ne, K.num_, K.var_, K.const_, K.named_, K.app_, K.con_, K.bang_, K.fun_, K.let_, K.setN_, K.seq_, K.if_, K.match_, K.row_, K.under_, Ex.nilN, Ex.consN]

/-- What stands at a place that no call has written. -/
theorem kcell {rb : Nat} {W w1 : World} (hk : Kr rb W w1) : (∀ b o, b < W.heap.size → b ≠ rb → w1.cell? ⟨b, o, none⟩ = W.cell? ⟨b, o, none⟩) ∧ (∀ b o, b < W.heap.size → b ≠ rb → w1.frozen? ⟨b, o, none⟩ = W.frozen? ⟨b, o, none⟩) :=
  ⟨fun b o h h2 => cell_heap (a := ⟨b, o, none⟩) (hk.block b h h2), fun b o h h2 => by unfold World.frozen?; rw [hk.block b h h2]⟩

/-- What a call of made answers. -/
def Mk (rb : Nat) (sv : Value) (raw : List Int) (d : Nat) (w : World) (e : Ending) (w' : World) : Prop := ∃ (x : Ex) (k : Nat), e = .returned (madeV x) ∧ x.Ok ∧ x.dep ≤ d ∧ RawAt rb sv raw k w' ∧ Kr rb w w'

end Go.Proofs.YtnocnkblhjifjaaGreatDoor
