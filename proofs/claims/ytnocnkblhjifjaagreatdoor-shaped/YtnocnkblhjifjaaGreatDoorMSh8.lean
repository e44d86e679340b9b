import Derived.Test.YtnocnkblhjifjaaGreatDoorMSh6
import Derived.Deep.RegionHeld3
import Derived.Deep.DrawnRows
/-
  (*Raw).made: what is the same in all cases.
-/
namespace Go.Proofs.YtnocnkblhjifjaaGreatDoor
open Go.RowKit
set_option linter.unusedSimpArgs false

theorem frozen_old {w : World} {b : Nat} (h : b < w.heap.size) (o : Obj) (i : Nat) : (w.alloc o).frozen? ⟨b, i, none⟩ = w.frozen? ⟨b, i, none⟩ := by
  unfold World.frozen? World.alloc
  rw [Array.getElem?_push_lt h, Array.getElem?_eq_getElem h]

theorem frozen_new {w : World} (cs : Array Value) (t : TypeId) (i : Nat) : (w.alloc (.cells cs t)).frozen? ⟨w.heap.size, i, none⟩ = false := by
  unfold World.frozen? World.alloc
  rw [Array.getElem?_push_size]
  simp

/-- Two texts joined: the text is a letter. -/
theorem cat (a b : ByteArray) (m n : Nat) (ha : a.size ≤ m) (hb : b.size ≤ n) (hmn : m + n ≤ 9223372036854775807) : ∃ Z : ByteArray, (∀ wx, (Op.stringOp .add a b).run Tryz.prog wx = .ok (.string Z) wx) ∧ Hid (Z = a ++ b) ∧ Z.size ≤ m + n :=
  ⟨a ++ b, fun wx => run_string_add_sum wx a b (by omega), rfl, by rw [ByteArray.size_append]; omega⟩

theorem lt_heap {w : World} {b : Nat} {o : Obj} (h : w.heap[b]? = some o) : b < w.heap.size := by
  rw [Array.getElem?_eq_some_iff] at h; exact h.1

theorem heap_new (w : World) (o : Obj) : (w.alloc o).heap[w.heap.size]? = some o := by
  unfold World.alloc; simp only; rw [Array.getElem?_push_size]

theorem heap_old {w : World} {b : Nat} (h : b < w.heap.size) (o : Obj) : (w.alloc o).heap[b]? = w.heap[b]? := by
  unfold World.alloc; simp only; rw [Array.getElem?_push_lt h, Array.getElem?_eq_getElem h]

/-- What next(n) answers here. -/
def NextIs (rb : Nat) (sv : Value) (raw : List Int) (k : Nat) (n v : Int) (k' : Nat) : Prop := ∀ wx, RawAt rb sv raw k wx → Calls Tryz.prog 33 #[.pointer (some ⟨rb, 0, none⟩), .int .i64 n] wx fun e w' => e = .returned (.int .i64 v) ∧ RawAt rb sv raw k' w' ∧ Kr rb wx w'

def MadeIs (rb : Nat) (sv : Value) (raw : List Int) (d : Nat) : Prop := ∀ k wx, RawAt rb sv raw k wx → Calls Tryz.prog 17 #[.pointer (some ⟨rb, 0, none⟩), .int .i64 d] wx (Mk rb sv raw d wx)

/-- Inside a call that began in w, its answer's struct right behind: the raw numbers as they stand; all else as it was. -/
structure Base (rb : Nat) (sv : Value) (raw : List Int) (k : Nat) (w u : World) : Prop where
  row : RawL rb sv raw w
  le : k ≤ raw.length
  kr : Kr rb w u
  raws : u.heap[rb]? = some (.cells #[sv, .int .i64 k] 33)
  res : ∃ c0 c1 c2 c3, u.heap[w.heap.size]? = some (.cells #[c0, c1, c2, c3] 35)

section
variable {rb : Nat} {sv : Value} {raw : List Int} {k : Nat} {w u u' : World}

theorem Base.start (h : RawAt rb sv raw k w) : Base rb sv raw k w (w.alloc (.cells #[.string ⟨#[]⟩, .string ⟨#[]⟩, .string ⟨#[]⟩, .int .i64 0] 35)) :=
  ⟨h.row, h.le, (Kr.refl _ _).alloc _, by rw [heap_old h.cell.2.2.1]; exact h.block, _, _, _, _, heap_new _ _⟩

theorem Base.call {k' : Nat} (h : Base rb sv raw k w u) (hr : RawAt rb sv raw k' u') (hk : Kr rb u u') (hrb : rb < w.heap.size) : Base rb sv raw k' w u' := by
  obtain ⟨c0, c1, c2, c3, hc⟩ := h.res
  have hl : w.heap.size < u.heap.size := by
    rw [Array.getElem?_eq_some_iff] at hc; exact hc.1
  exact ⟨h.row, hr.le, h.kr.trans hk, hr.block, c0, c1, c2, c3, by rw [hk.block _ hl (by omega)]; exact hc⟩

theorem Base.below (h : Hid (Base rb sv raw k w u)) (hb : Below u.heap.size u u') : Base rb sv raw k w u' := by
  have h := h.out
  obtain ⟨c0, c1, c2, c3, hc⟩ := h.res
  have hl : w.heap.size < u.heap.size := by
    rw [Array.getElem?_eq_some_iff] at hc; exact hc.1
  have hl2 : rb < u.heap.size := by
    have := h.raws
    rw [Array.getElem?_eq_some_iff] at this; exact this.1
  exact ⟨h.row, h.le, h.kr.trans (Kr.of_below hb), by rw [hb.block _ hl2]; exact h.raws, c0, c1, c2, c3, by rw [hb.block _ hl]; exact hc⟩

theorem Base.alloc (h : Base rb sv raw k w u) (o : Obj) : Base rb sv raw k w (u.alloc o) := Base.below h ((Below.refl _ _).alloc (Nat.le_refl _) o)

theorem Base.drew (h : Base rb sv raw k w u) : Base rb sv raw k w u.drew := ⟨h.row, h.le, h.kr.drew, h.raws, h.res⟩

theorem Base.set (h : Base rb sv raw k w u) (hrb : rb < w.heap.size) (j : Nat) (v : Value) : Base rb sv raw k w (u.setCell ⟨w.heap.size, j, none⟩ v) := by
  refine ⟨h.row, h.le, h.kr.setNew (Nat.le_refl _) v, ?_, ?_⟩
  · rw [Below.heap_setCell _ _ _ _ (by simp; omega)]; exact h.raws
  · obtain ⟨c0, c1, c2, c3, hc⟩ := h.res
    rcases (show j = 0 ∨ j = 1 ∨ j = 2 ∨ j = 3 ∨ 4 ≤ j by omega) with rfl | rfl | rfl | rfl | hj
    · exact ⟨v, c1, c2, c3, by simp [World.setCell, Array.getElem?_modify, hc]⟩
    · exact ⟨c0, v, c2, c3, by simp [World.setCell, Array.getElem?_modify, hc]⟩
    · exact ⟨c0, c1, v, c3, by simp [World.setCell, Array.getElem?_modify, hc]⟩
    · exact ⟨c0, c1, c2, v, by simp [World.setCell, Array.getElem?_modify, hc]⟩
    · exact ⟨c0, c1, c2, c3, by simp [World.setCell, Array.getElem?_modify, hc]; exact List.set_eq_of_length_le (by simpa using hj)⟩

theorem Base.rawAt (h : Base rb sv raw k w u) : RawAt rb sv raw k u := ⟨h.raws, h.row.kept h.kr, h.le⟩

theorem four {u : World} {n : Nat} {a b c d : Value} {t : TypeId} (h : u.heap[n]? = some (.cells #[a, b, c, d] t)) : u.cell? ⟨n, 0, none⟩ = some a ∧ u.cell? ⟨n, 1, none⟩ = some b ∧ u.cell? ⟨n, 2, none⟩ = some c ∧ u.cell? ⟨n, 3, none⟩ = some d ∧ ∀ i, u.frozen? ⟨n, i, none⟩ = false := by
  simp [World.cell?, World.frozen?, h]

theorem fin_block (h : Base rb sv raw k w u) (v0 v1 v2 v3 : Value) : ((((u.setCell ⟨w.heap.size, 0, none⟩ v0).setCell ⟨w.heap.size, 1, none⟩ v1).setCell ⟨w.heap.size, 2, none⟩ v2).setCell ⟨w.heap.size, 3, none⟩ v3).heap[w.heap.size]? = some (.cells #[v0, v1, v2, v3] 35) := by
  obtain ⟨c0, c1, c2, c3, hc⟩ := h.res
  simp [World.setCell, Array.getElem?_modify, hc]

theorem Base.cells (h : Base rb sv raw k w u) : ∃ c0 c1 c2 c3, u.cell? ⟨w.heap.size, 0, none⟩ = some c0 ∧ u.cell? ⟨w.heap.size, 1, none⟩ = some c1 ∧ u.cell? ⟨w.heap.size, 2, none⟩ = some c2 ∧ u.cell? ⟨w.heap.size, 3, none⟩ = some c3 ∧ ∀ i, u.frozen? ⟨w.heap.size, i, none⟩ = false := by
  obtain ⟨c0, c1, c2, c3, hc⟩ := h.res
  exact ⟨c0, c1, c2, c3, four hc⟩

theorem nextIs (rb : Nat) (sv : Value) (raw : List Int) (k : Nat) (n : Int) (hn : 0 < n) (hn2 : n ≤ 100000) : ∃ (v : Nat) (k' : Nat), (v : Int) < n ∧ NextIs rb sv raw k n v k' := by
  have h : 0 ≤ (nextI raw k n).1 ∧ (nextI raw k n).1 < n := by
    unfold nextI
    split
    · exact ⟨Int.le_refl _, hn⟩
    · exact pickI_range _ _ hn
  refine ⟨(nextI raw k n).1.toNat, (nextI raw k n).2, by omega, fun wx hr => ?_⟩
  rw [show (((nextI raw k n).1.toNat : Nat) : Int) = (nextI raw k n).1 by omega]
  exact rawNext_any hr n hn hn2

theorem next2 (rb : Nat) (sv : Value) (raw : List Int) (k : Nat) : ∃ k', NextIs rb sv raw k 2 0 k' ∨ NextIs rb sv raw k 2 1 k' := by
  obtain ⟨v, k', h1, h2⟩ := nextIs rb sv raw k 2 (by decide) (by decide)
  rcases (show v = 0 ∨ v = 1 by omega) with rfl | rfl
  · exact ⟨k', Or.inl h2⟩
  · exact ⟨k', Or.inr h2⟩

theorem next4 (rb : Nat) (sv : Value) (raw : List Int) (k : Nat) : ∃ (x : Fin 4) (k' : Nat), NextIs rb sv raw k 4 (x.1 : Nat) k' := by
  obtain ⟨v, k', h1, h2⟩ := nextIs rb sv raw k 4 (by decide) (by decide)
  exact ⟨⟨v, by omega⟩, k', h2⟩

/-- Is it a set? By its tree's text. -/
theorem setText : ∀ e : Ex, e.Ok → (4 < e.tree.text.length → (e.tree.text.take 4 == [40, 115, 101, 116]) = e.isSet) ∧ (e.tree.text.length ≤ 4 → e.isSet = false) := by
  intro e he
  have key : ∀ (e : Ex) (l : List UInt8), (l.take 4 == [40, 115, 101, 116]) = false → e.isSet = false → e.tree.text = l → (4 < e.tree.text.length → (e.tree.text.take 4 == [40, 115, 101, 116]) = e.isSet) ∧ (e.tree.text.length ≤ 4 → e.isSet = false) := by
    intro e l h1 h2 h3
    rw [h3, h1, h2]; exact ⟨fun _ => rfl, fun _ => rfl⟩
  refine Ex.ind (Q := fun e => (4 < e.tree.text.length → (e.tree.text.take 4 == [40, 115, 101, 116]) = e.isSet) ∧ (e.tree.text.length ≤ 4 → e.isSet = false)) ?num ?tru ?unit ?nil ?var ?op ?app ?cons ?bang ?fn ?lett ?set ?seq ?ite ?mtch he
  case num =>
    intro n
    refine ⟨fun h => ?_, fun _ => rfl⟩
    have := (decN_facts n).2.2.2.2.1
    simp only [Ex.num, Ex.tru, Ex.unit, Ex.nil, Ex.var, Ex.leaf, Ex.op, Ex.app, Ex.cons, Ex.bang, Ex.fn, Ex.lett, Ex.set, Ex.seq, Ex.ite, Ex.mtch, Tr.text, leafT] at h
    simp at h; omega
  case tru =>
    decide
  case unit =>
    decide
  case nil =>
    decide
  case var =>
    intro x
    refine ⟨fun h => ?_, fun _ => rfl⟩
    have := (varN_facts x).2.2.2.1
    simp only [Ex.num, Ex.tru, Ex.unit, Ex.nil, Ex.var, Ex.leaf, Ex.op, Ex.app, Ex.cons, Ex.bang, Ex.fn, Ex.lett, Ex.set, Ex.seq, Ex.ite, Ex.mtch, Tr.text, leafT] at h
    simp [K.var_] at h; omega
  case op =>
    intro o a b _ _
    exact key _ _ (by rcases o.all with rfl | rfl | rfl | rfl | rfl | rfl <;> simp [Op.sign]) rfl (show _ = [40, o.sign, 32] ++ (a.tree.text ++ [32] ++ b.tree.text ++ [41]) by rcases o.all with rfl | rfl | rfl | rfl | rfl | rfl <;> simp [Ex.num, Ex.tru, Ex.unit, Ex.nil, Ex.var, Ex.leaf, Ex.op, Ex.app, Ex.cons, Ex.bang, Ex.fn, Ex.lett, Ex.set, Ex.seq, Ex.ite, Ex.mtch, Tr.text, Tr.text.texts, leafT, headT, Op.sign, K.num_, K.var_, K.const_, K.named_])
  case app =>
    intro a b _ _
    exact key _ _ (by simp) rfl (show _ = [40, 97, 112, 112, 32] ++ (a.tree.text ++ [32] ++ b.tree.text ++ [41]) by simp [Ex.num, Ex.tru, Ex.unit, Ex.nil, Ex.var, Ex.leaf, Ex.op, Ex.app, Ex.cons, Ex.bang, Ex.fn, Ex.lett, Ex.set, Ex.seq, Ex.ite, Ex.mtch, Tr.text, Tr.text.texts, leafT, headT, K.num_, K.var_, K.const_, K.named_, K.app_])
  case cons =>
    intro a b _ _
    exact key _ _ (by simp) rfl (show _ = [40, 99, 111, 110, 32] ++ ([67, 111, 110, 115, 32] ++ a.tree.text ++ [32] ++ b.tree.text ++ [41]) by simp [Ex.num, Ex.tru, Ex.unit, Ex.nil, Ex.var, Ex.leaf, Ex.op, Ex.app, Ex.cons, Ex.bang, Ex.fn, Ex.lett, Ex.set, Ex.seq, Ex.ite, Ex.mtch, Tr.text, Tr.text.texts, leafT, headT, K.num_, K.var_, K.const_, K.named_, K.con_, Ex.consN])
  case bang =>
    intro a _
    exact key _ _ (by simp) rfl (show _ = [40, 33, 32] ++ (a.tree.text ++ [41]) by simp [Ex.num, Ex.tru, Ex.unit, Ex.nil, Ex.var, Ex.leaf, Ex.op, Ex.app, Ex.cons, Ex.bang, Ex.fn, Ex.lett, Ex.set, Ex.seq, Ex.ite, Ex.mtch, Tr.text, Tr.text.texts, leafT, headT, K.num_, K.var_, K.const_, K.named_, K.bang_])
  case fn =>
    intro x a _
    exact key _ _ (by simp) rfl (show _ = [40, 102, 117, 110, 32] ++ (varN x ++ [32] ++ a.tree.text ++ [41]) by simp [Ex.num, Ex.tru, Ex.unit, Ex.nil, Ex.var, Ex.leaf, Ex.op, Ex.app, Ex.cons, Ex.bang, Ex.fn, Ex.lett, Ex.set, Ex.seq, Ex.ite, Ex.mtch, Tr.text, Tr.text.texts, leafT, headT, varN_ne, K.num_, K.var_, K.const_, K.named_, K.fun_])
  case lett =>
    intro x a b _ _
    exact key _ _ (by simp) rfl (show _ = [40, 108, 101, 116, 32] ++ (varN x ++ [32] ++ a.tree.text ++ [32] ++ b.tree.text ++ [41]) by simp [Ex.num, Ex.tru, Ex.unit, Ex.nil, Ex.var, Ex.leaf, Ex.op, Ex.app, Ex.cons, Ex.bang, Ex.fn, Ex.lett, Ex.set, Ex.seq, Ex.ite, Ex.mtch, Tr.text, Tr.text.texts, leafT, headT, varN_ne, K.num_, K.var_, K.const_, K.named_, K.let_])
  case set =>
    intro a b _ _
    have h : (Ex.set a b).tree.text = [40, 115, 101, 116, 32] ++ (a.tree.text ++ [32] ++ b.tree.text ++ [41]) := by simp [Ex.num, Ex.tru, Ex.unit, Ex.nil, Ex.var, Ex.leaf, Ex.op, Ex.app, Ex.cons, Ex.bang, Ex.fn, Ex.lett, Ex.set, Ex.seq, Ex.ite, Ex.mtch, Tr.text, Tr.text.texts, leafT, headT, K.num_, K.var_, K.const_, K.named_, K.setN_]
    rw [h]
    exact ⟨fun _ => by simp [Ex.num, Ex.tru, Ex.unit, Ex.nil, Ex.var, Ex.leaf, Ex.op, Ex.app, Ex.cons, Ex.bang, Ex.fn, Ex.lett, Ex.set, Ex.seq, Ex.ite, Ex.mtch], fun h => by simp at h⟩
  case seq =>
    intro a b _ _
    exact key _ _ (by simp) rfl (show _ = [40, 115, 101, 113, 32] ++ (a.tree.text ++ [32] ++ b.tree.text ++ [41]) by simp [Ex.num, Ex.tru, Ex.unit, Ex.nil, Ex.var, Ex.leaf, Ex.op, Ex.app, Ex.cons, Ex.bang, Ex.fn, Ex.lett, Ex.set, Ex.seq, Ex.ite, Ex.mtch, Tr.text, Tr.text.texts, leafT, headT, K.num_, K.var_, K.const_, K.named_, K.seq_])
  case ite =>
    intro a b c _ _ _
    exact key _ _ (by simp) rfl (show _ = [40, 105, 102, 32] ++ (a.tree.text ++ [32] ++ b.tree.text ++ [32] ++ c.tree.text ++ [41]) by simp [Ex.num, Ex.tru, Ex.unit, Ex.nil, Ex.var, Ex.leaf, Ex.op, Ex.app, Ex.cons, Ex.bang, Ex.fn, Ex.lett, Ex.set, Ex.seq, Ex.ite, Ex.mtch, Tr.text, Tr.text.texts, leafT, headT, K.num_, K.var_, K.const_, K.named_, K.if_])
  case mtch =>
    intro x a b c _ _ _
    exact key _ ([40, 109, 97, 116] ++ ((Ex.mtch x a b c).tree.text.drop 4)) (by simp) rfl (by simp [Ex.num, Ex.tru, Ex.unit, Ex.nil, Ex.var, Ex.leaf, Ex.op, Ex.app, Ex.cons, Ex.bang, Ex.fn, Ex.lett, Ex.set, Ex.seq, Ex.ite, Ex.mtch, Tr.text, Tr.text.texts, leafT, headT, K.num_, K.var_, K.const_, K.named_, K.match_])

theorem setCases (e : Ex) (he : e.Ok) : (e.isSet = true ∧ 4 < (tb e).size ∧ (((tb e).extract 0 4).toList == [40, 115, 101, 116]) = true) ∨ (e.isSet = false ∧ 4 < (tb e).size ∧ (((tb e).extract 0 4).toList == [40, 115, 101, 116]) = false) ∨ (e.isSet = false ∧ (tb e).size ≤ 4) := by
  have h := setText e he
  have hx : ((tb e).extract 0 4).toList = e.tree.text.take 4 := by
    rw [ByteArray.toList_eq, bs_extract, bs_data]; simp [tb, bs_data]
  have hs : (tb e).size = e.tree.text.length := by simp [tb, bs, ByteArray.size]
  rw [hx, hs]
  by_cases h4 : 4 < e.tree.text.length
  · have := h.1 h4
    cases hi : e.isSet
    · exact Or.inr (Or.inl ⟨rfl, h4, by rw [this, hi]⟩)
    · exact Or.inl ⟨rfl, h4, by rw [this, hi]⟩
  · exact Or.inr (Or.inr ⟨h.2 (by omega), by omega⟩)

end
end Go.Proofs.YtnocnkblhjifjaaGreatDoor
/-
  Is an expression a con? By its tree's text and its level, as made asks.
-/
namespace Go.Proofs.YtnocnkblhjifjaaGreatDoor
open Go.RowKit
set_option linter.unusedSimpArgs false

def nilT : List UInt8 := [40, 99, 111, 110, 32, 78, 105, 108, 41]

theorem conText : ∀ e : Ex, e.Ok → (e.level = 4 ∧ e.isCon = true ∧ 4 < e.tree.text.length ∧ (e.tree.text.take 4 == [40, 99, 111, 110]) = true ∧ (e.tree.text == nilT) = false) ∨ (e.level = 4 ∧ e.isCon = false ∧ 4 < e.tree.text.length ∧ (e.tree.text.take 4 == [40, 99, 111, 110]) = false ∧ (e.tree.text == nilT) = false) ∨ (e.level = 5 ∧ e.isCon = true ∧ (e.tree.text == nilT) = true) ∨ (e.level ≠ 4 ∧ e.isCon = false ∧ (e.tree.text == nilT) = false) := by
  intro e he
  have key : ∀ (e : Ex) (l : List UInt8), (l == nilT) = false → e.level ≠ 4 → e.isCon = false → e.tree.text = l → (e.level = 4 ∧ e.isCon = true ∧ 4 < e.tree.text.length ∧ (e.tree.text.take 4 == [40, 99, 111, 110]) = true ∧ (e.tree.text == nilT) = false) ∨ (e.level = 4 ∧ e.isCon = false ∧ 4 < e.tree.text.length ∧ (e.tree.text.take 4 == [40, 99, 111, 110]) = false ∧ (e.tree.text == nilT) = false) ∨ (e.level = 5 ∧ e.isCon = true ∧ (e.tree.text == nilT) = true) ∨ (e.level ≠ 4 ∧ e.isCon = false ∧ (e.tree.text == nilT) = false) := by
    intro e l h1 h2 h3 h4
    exact Or.inr (Or.inr (Or.inr ⟨h2, h3, by rw [h4]; exact h1⟩))
  refine Ex.ind (Q := fun e => (e.level = 4 ∧ e.isCon = true ∧ 4 < e.tree.text.length ∧ (e.tree.text.take 4 == [40, 99, 111, 110]) = true ∧ (e.tree.text == nilT) = false) ∨ (e.level = 4 ∧ e.isCon = false ∧ 4 < e.tree.text.length ∧ (e.tree.text.take 4 == [40, 99, 111, 110]) = false ∧ (e.tree.text == nilT) = false) ∨ (e.level = 5 ∧ e.isCon = true ∧ (e.tree.text == nilT) = true) ∨ (e.level ≠ 4 ∧ e.isCon = false ∧ (e.tree.text == nilT) = false)) ?num ?tru ?unit ?nil ?var ?op ?app ?cons ?bang ?fn ?lett ?set ?seq ?ite ?mtch he
  case num =>
    intro n
    refine Or.inr (Or.inr (Or.inr ⟨by simp [Ex.num, Ex.tru, Ex.unit, Ex.nil, Ex.var, Ex.leaf, Ex.op, Ex.app, Ex.cons, Ex.bang, Ex.fn, Ex.lett, Ex.set, Ex.seq, Ex.ite, Ex.mtch], rfl, ?_⟩))
    have := (decN_facts n).2.2.2.2.1
    rw [beq_eq_false_iff_ne]
    intro h
    have h := congrArg List.length h
    simp only [Ex.num, Ex.tru, Ex.unit, Ex.nil, Ex.var, Ex.leaf, Ex.op, Ex.app, Ex.cons, Ex.bang, Ex.fn, Ex.lett, Ex.set, Ex.seq, Ex.ite, Ex.mtch, Tr.text, leafT, nilT] at h
    simp at h; omega
  case tru =>
    exact Or.inr (Or.inr (Or.inr ⟨by decide, rfl, by decide⟩))
  case unit =>
    exact Or.inr (Or.inr (Or.inr ⟨by decide, rfl, by decide⟩))
  case nil =>
    exact Or.inr (Or.inr (Or.inl ⟨rfl, rfl, by decide⟩))
  case var =>
    intro x
    refine Or.inr (Or.inr (Or.inr ⟨by simp [Ex.num, Ex.tru, Ex.unit, Ex.nil, Ex.var, Ex.leaf, Ex.op, Ex.app, Ex.cons, Ex.bang, Ex.fn, Ex.lett, Ex.set, Ex.seq, Ex.ite, Ex.mtch], rfl, ?_⟩))
    have := (varN_facts x).2.2.2.1
    rw [beq_eq_false_iff_ne]
    intro h
    have h := congrArg List.length h
    simp only [Ex.num, Ex.tru, Ex.unit, Ex.nil, Ex.var, Ex.leaf, Ex.op, Ex.app, Ex.cons, Ex.bang, Ex.fn, Ex.lett, Ex.set, Ex.seq, Ex.ite, Ex.mtch, Tr.text, leafT, nilT] at h
    simp [K.var_] at h; omega
  case op =>
    intro o a b _ _
    exact key _ ([40, o.sign, 32] ++ (a.tree.text ++ [32] ++ b.tree.text ++ [41])) (by rcases o.all with rfl | rfl | rfl | rfl | rfl | rfl <;> simp [Op.sign, nilT]) (by rcases o.all with rfl | rfl | rfl | rfl | rfl | rfl <;> simp [Ex.num, Ex.tru, Ex.unit, Ex.nil, Ex.var, Ex.leaf, Ex.op, Ex.app, Ex.cons, Ex.bang, Ex.fn, Ex.lett, Ex.set, Ex.seq, Ex.ite, Ex.mtch, Op.level]) rfl (by rcases o.all with rfl | rfl | rfl | rfl | rfl | rfl <;> simp [Ex.num, Ex.tru, Ex.unit, Ex.nil, Ex.var, Ex.leaf, Ex.op, Ex.app, Ex.cons, Ex.bang, Ex.fn, Ex.lett, Ex.set, Ex.seq, Ex.ite, Ex.mtch, Tr.text, Tr.text.texts, leafT, headT, Op.sign, K.num_, K.var_, K.const_, K.named_])
  case app =>
    intro a b _ _
    have h : (Ex.app a b).tree.text = [40, 97, 112, 112, 32] ++ (a.tree.text ++ [32] ++ b.tree.text ++ [41]) := by simp [Ex.num, Ex.tru, Ex.unit, Ex.nil, Ex.var, Ex.leaf, Ex.op, Ex.app, Ex.cons, Ex.bang, Ex.fn, Ex.lett, Ex.set, Ex.seq, Ex.ite, Ex.mtch, Tr.text, Tr.text.texts, leafT, headT, K.num_, K.var_, K.const_, K.named_, K.app_]
    refine Or.inr (Or.inl ⟨rfl, rfl, ?_, ?_, ?_⟩)
    · rw [h]; simp
    · rw [h]; simp
    · rw [h]; simp [nilT]
  case cons =>
    intro a b _ _
    have h : (Ex.cons a b).tree.text = [40, 99, 111, 110, 32, 67] ++ ([111, 110, 115, 32] ++ a.tree.text ++ [32] ++ b.tree.text ++ [41]) := by simp [Ex.num, Ex.tru, Ex.unit, Ex.nil, Ex.var, Ex.leaf, Ex.op, Ex.app, Ex.cons, Ex.bang, Ex.fn, Ex.lett, Ex.set, Ex.seq, Ex.ite, Ex.mtch, Tr.text, Tr.text.texts, leafT, headT, K.num_, K.var_, K.const_, K.named_, K.con_, Ex.consN]
    refine Or.inl ⟨rfl, rfl, ?_, ?_, ?_⟩
    · rw [h]; simp
    · rw [h]; simp
    · rw [h]; simp [nilT]
  case bang =>
    intro a _
    exact key _ ([40, 33, 32] ++ (a.tree.text ++ [41])) (by simp [nilT]) (by simp [Ex.num, Ex.tru, Ex.unit, Ex.nil, Ex.var, Ex.leaf, Ex.op, Ex.app, Ex.cons, Ex.bang, Ex.fn, Ex.lett, Ex.set, Ex.seq, Ex.ite, Ex.mtch]) rfl (by simp [Ex.num, Ex.tru, Ex.unit, Ex.nil, Ex.var, Ex.leaf, Ex.op, Ex.app, Ex.cons, Ex.bang, Ex.fn, Ex.lett, Ex.set, Ex.seq, Ex.ite, Ex.mtch, Tr.text, Tr.text.texts, leafT, headT, K.num_, K.var_, K.const_, K.named_, K.bang_])
  case fn =>
    intro x a _
    exact key _ ([40, 102, 117, 110, 32] ++ (varN x ++ [32] ++ a.tree.text ++ [41])) (by simp [nilT]) (by simp [Ex.num, Ex.tru, Ex.unit, Ex.nil, Ex.var, Ex.leaf, Ex.op, Ex.app, Ex.cons, Ex.bang, Ex.fn, Ex.lett, Ex.set, Ex.seq, Ex.ite, Ex.mtch]) rfl (by simp [Ex.num, Ex.tru, Ex.unit, Ex.nil, Ex.var, Ex.leaf, Ex.op, Ex.app, Ex.cons, Ex.bang, Ex.fn, Ex.lett, Ex.set, Ex.seq, Ex.ite, Ex.mtch, Tr.text, Tr.text.texts, leafT, headT, varN_ne, K.num_, K.var_, K.const_, K.named_, K.fun_])
  case lett =>
    intro x a b _ _
    exact key _ ([40, 108, 101, 116, 32] ++ (varN x ++ [32] ++ a.tree.text ++ [32] ++ b.tree.text ++ [41])) (by simp [nilT]) (by simp [Ex.num, Ex.tru, Ex.unit, Ex.nil, Ex.var, Ex.leaf, Ex.op, Ex.app, Ex.cons, Ex.bang, Ex.fn, Ex.lett, Ex.set, Ex.seq, Ex.ite, Ex.mtch]) rfl (by simp [Ex.num, Ex.tru, Ex.unit, Ex.nil, Ex.var, Ex.leaf, Ex.op, Ex.app, Ex.cons, Ex.bang, Ex.fn, Ex.lett, Ex.set, Ex.seq, Ex.ite, Ex.mtch, Tr.text, Tr.text.texts, leafT, headT, varN_ne, K.num_, K.var_, K.const_, K.named_, K.let_])
  case set =>
    intro a b _ _
    exact key _ ([40, 115, 101, 116, 32] ++ (a.tree.text ++ [32] ++ b.tree.text ++ [41])) (by simp [nilT]) (by simp [Ex.num, Ex.tru, Ex.unit, Ex.nil, Ex.var, Ex.leaf, Ex.op, Ex.app, Ex.cons, Ex.bang, Ex.fn, Ex.lett, Ex.set, Ex.seq, Ex.ite, Ex.mtch]) rfl (by simp [Ex.num, Ex.tru, Ex.unit, Ex.nil, Ex.var, Ex.leaf, Ex.op, Ex.app, Ex.cons, Ex.bang, Ex.fn, Ex.lett, Ex.set, Ex.seq, Ex.ite, Ex.mtch, Tr.text, Tr.text.texts, leafT, headT, K.num_, K.var_, K.const_, K.named_, K.setN_])
  case seq =>
    intro a b _ _
    exact key _ ([40, 115, 101, 113, 32] ++ (a.tree.text ++ [32] ++ b.tree.text ++ [41])) (by simp [nilT]) (by simp [Ex.num, Ex.tru, Ex.unit, Ex.nil, Ex.var, Ex.leaf, Ex.op, Ex.app, Ex.cons, Ex.bang, Ex.fn, Ex.lett, Ex.set, Ex.seq, Ex.ite, Ex.mtch]) rfl (by simp [Ex.num, Ex.tru, Ex.unit, Ex.nil, Ex.var, Ex.leaf, Ex.op, Ex.app, Ex.cons, Ex.bang, Ex.fn, Ex.lett, Ex.set, Ex.seq, Ex.ite, Ex.mtch, Tr.text, Tr.text.texts, leafT, headT, K.num_, K.var_, K.const_, K.named_, K.seq_])
  case ite =>
    intro a b c _ _ _
    exact key _ ([40, 105, 102, 32] ++ (a.tree.text ++ [32] ++ b.tree.text ++ [32] ++ c.tree.text ++ [41])) (by simp [nilT]) (by simp [Ex.num, Ex.tru, Ex.unit, Ex.nil, Ex.var, Ex.leaf, Ex.op, Ex.app, Ex.cons, Ex.bang, Ex.fn, Ex.lett, Ex.set, Ex.seq, Ex.ite, Ex.mtch]) rfl (by simp [Ex.num, Ex.tru, Ex.unit, Ex.nil, Ex.var, Ex.leaf, Ex.op, Ex.app, Ex.cons, Ex.bang, Ex.fn, Ex.lett, Ex.set, Ex.seq, Ex.ite, Ex.mtch, Tr.text, Tr.text.texts, leafT, headT, K.num_, K.var_, K.const_, K.named_, K.if_])
  case mtch =>
    intro x a b c _ _ _
    exact key _ ([40, 109, 97, 116] ++ ((Ex.mtch x a b c).tree.text.drop 4)) (by simp [nilT]) (by simp [Ex.num, Ex.tru, Ex.unit, Ex.nil, Ex.var, Ex.leaf, Ex.op, Ex.app, Ex.cons, Ex.bang, Ex.fn, Ex.lett, Ex.set, Ex.seq, Ex.ite, Ex.mtch]) rfl (by simp [Ex.num, Ex.tru, Ex.unit, Ex.nil, Ex.var, Ex.leaf, Ex.op, Ex.app, Ex.cons, Ex.bang, Ex.fn, Ex.lett, Ex.set, Ex.seq, Ex.ite, Ex.mtch, Tr.text, Tr.text.texts, leafT, headT, K.num_, K.var_, K.const_, K.named_, K.match_])

theorem conCases (e : Ex) (he : e.Ok) : (e.level = 4 ∧ e.isCon = true ∧ 4 < (tb e).size ∧ (((tb e).extract 0 4).toList == [40, 99, 111, 110]) = true ∧ ((tb e).toList == [40, 99, 111, 110, 32, 78, 105, 108, 41]) = false) ∨ (e.level = 4 ∧ e.isCon = false ∧ 4 < (tb e).size ∧ (((tb e).extract 0 4).toList == [40, 99, 111, 110]) = false ∧ ((tb e).toList == [40, 99, 111, 110, 32, 78, 105, 108, 41]) = false) ∨ (e.level = 5 ∧ e.isCon = true ∧ ((tb e).toList == [40, 99, 111, 110, 32, 78, 105, 108, 41]) = true) ∨ (e.level ≠ 4 ∧ e.isCon = false ∧ ((tb e).toList == [40, 99, 111, 110, 32, 78, 105, 108, 41]) = false) := by
  have h := conText e he
  have hx : ((tb e).extract 0 4).toList = e.tree.text.take 4 := by
    rw [ByteArray.toList_eq, bs_extract, bs_data]; simp [tb, bs_data]
  have hs : (tb e).size = e.tree.text.length := by simp [tb, bs, ByteArray.size]
  have ht : (tb e).toList = e.tree.text := by rw [ByteArray.toList_eq]; simp [tb, bs_data]
  rw [hx, hs, ht]
  exact h

end Go.Proofs.YtnocnkblhjifjaaGreatDoor
/-
  (*Raw).atom by its contract.
-/
namespace Go.Proofs.YtnocnkblhjifjaaGreatDoor
open Go.RowKit
set_option linter.unusedSimpArgs false

section
variable {rb : Nat} {sv : Value} {raw : List Int}

theorem Base.drewN {k : Nat} {w u : World} (h : Base rb sv raw k w u) (n : Nat) : Base rb sv raw k w (u.drewN n) := ⟨h.row, h.le, h.kr.drewN n, h.raws, h.res⟩

/-- What stands in the answer's struct at the end, and what is left. -/
theorem atom_fin {k0 k : Nat} {w u : World} (hrb : rb < w.heap.size) (h : Base rb sv raw k w u) (x : Ex) (ho : x.Ok) (hx : x.dep ≤ k0) (e : Ending) (he : e = .returned (madeV x)) (v0 v1 v2 v3 : Value) :
    Mk rb sv raw k0 w e ((((u.setCell ⟨w.heap.size, 0, none⟩ v0).setCell ⟨w.heap.size, 1, none⟩ v1).setCell ⟨w.heap.size, 2, none⟩ v2).setCell ⟨w.heap.size, 3, none⟩ v3) :=
  ⟨x, k, he, ho, hx, ((((h.set hrb 0 _).set hrb 1 _).set hrb 2 _).set hrb 3 _).rawAt, ((((h.set hrb 0 _).set hrb 1 _).set hrb 2 _).set hrb 3 _).kr⟩

set_option maxRecDepth 100000 in
set_option maxHeartbeats 4000000 in
theorem atom_word (k0 k1 : Nat) {w : World} (h : RawAt rb sv raw k0 w) (v : Int) (S T : ByteArray) (x : Ex) (ho : x.Ok) (hx : x.dep = 0) (hv : madeV x = .agg #[.string S, .string S, .string T, .int .i64 5])
    (hc : v = 1 ∧ S = ⟨#[116, 114, 117, 101]⟩ ∧ T = S ∨ v = 2 ∧ S = ⟨#[40, 41]⟩ ∧ T = S ∨ v = 3 ∧ S = ⟨#[78, 105, 108]⟩ ∧ T = ⟨#[40, 99, 111, 110, 32, 78, 105, 108, 41]⟩) (hN : NextIs rb sv raw k0 5 v k1) :
    Calls Tryz.prog 32 #[.pointer (some ⟨rb, 0, none⟩)] w (Mk rb sv raw 0 w) := by
  have hrb := h.cell.2.2.1
  have HBw := hide (Base.start h)
  have HN := hide hN
  have HX := hide hx
  have HV := hide hv
  clear h hN hx hv
  rcases hc with ⟨rfl, rfl, rfl⟩ | ⟨rfl, rfl, rfl⟩ | ⟨rfl, rfl, rfl⟩
  all_goals
    go_enter Tryz.func32, Tryz.ntmps32
    go_wp2_with fail
    refine (HN.out _ HBw.out.rawAt).mono ?_; rintro e w1 ⟨rfl, hr, hk⟩
    have HBw1 := hide (HBw.out.call hr hk hrb)
    clear hr hk
    obtain ⟨r0, r1, r2, r3, rc0, rc1, rc2, rc3, rf⟩ := HBw1.out.cells
    go_wp2_with fail
    exact bodyPost_ret (v := madeV x) (by rw [HV.out]; simp [results, Tryz.results32, go_sem, rc0, rc1, rc2, rc3]) rfl (atom_fin hrb HBw1.out x ho (by rw [HX.out]; exact Nat.le_refl _) _ rfl _ _ _ _)

set_option maxRecDepth 100000 in
set_option maxHeartbeats 4000000 in
theorem atom_var (k0 k1 k2 : Nat) {w : World} (h : RawAt rb sv raw k0 w) (x : Fin 4) (hN : NextIs rb sv raw k0 5 4 k1) (hNx : NextIs rb sv raw k1 4 (x.1 : Nat) k2) :
    Calls Tryz.prog 32 #[.pointer (some ⟨rb, 0, none⟩)] w (Mk rb sv raw 0 w) := by
  have hrb := h.cell.2.2.1
  have HBw := hide (Base.start h)
  have HN := hide hN
  have HNx := hide hNx
  have hv : madeV (.var x) = .agg #[.string (bs (varN x)), .string (bs (varN x)), .string (bs (varN x)), .int .i64 5] := by
    simp [madeV, fb, bb, tb, Ex.num, Ex.tru, Ex.unit, Ex.nil, Ex.var, Ex.leaf, Ex.op, Ex.app, Ex.cons, Ex.bang, Ex.fn, Ex.lett, Ex.set, Ex.seq, Ex.ite, Ex.mtch, Tr.text, leafT, K.var_]
  have hVar := fun wx => variable_any x wx
  generalize bs (varN x) = X at *
  have HV := hide hv
  have HVar := hide hVar
  clear h hN hNx hv hVar
  go_enter Tryz.func32, Tryz.ntmps32
  go_wp2_with fail
  refine (HN.out _ HBw.out.rawAt).mono ?_; rintro e w1 ⟨rfl, hr, hk⟩
  have HBw1 := hide (HBw.out.call hr hk hrb)
  clear hr hk
  go_wp2_with fail
  refine (HNx.out _ HBw1.out.rawAt).mono ?_; rintro e w2 ⟨rfl, hr, hk⟩
  have HBw2 := hide (HBw1.out.call hr hk hrb)
  clear hr hk
  go_wp2_with fail
  refine (HVar.out _).mono ?_; rintro e w' ⟨rfl, hw'⟩; subst w'
  obtain ⟨r0, r1, r2, r3, rc0, rc1, rc2, rc3, rf⟩ := HBw2.out.cells
  go_wp2_with fail
  exact bodyPost_ret (v := madeV (.var x)) (by rw [HV.out]; simp [results, Tryz.results32, go_sem, rc0, rc1, rc2, rc3]) rfl (atom_fin hrb HBw2.out (.var x) (Ex.Ok.var x) (Nat.le_refl _) _ rfl _ _ _ _)

set_option maxRecDepth 100000 in
set_option maxHeartbeats 4000000 in
theorem atom_num (k0 k1 k2 : Nat) {w : World} (h : RawAt rb sv raw k0 w) (n : Fin 1000) (hN : NextIs rb sv raw k0 5 0 k1) (hNx : NextIs rb sv raw k1 1000 (n.1 : Nat) k2) :
    Calls Tryz.prog 32 #[.pointer (some ⟨rb, 0, none⟩)] w (Mk rb sv raw 0 w) := by
  have hrb := h.cell.2.2.1
  have HBw := hide (Base.start h)
  have HN := hide hN
  have HNx := hide hNx
  have hv : madeV (.num n) = .agg #[.string (bs (decN n.1)), .string (bs (decN n.1)), .string (bs (decN n.1)), .int .i64 5] := by
    simp [madeV, fb, bb, tb, Ex.num, Ex.tru, Ex.unit, Ex.nil, Ex.var, Ex.leaf, Ex.op, Ex.app, Ex.cons, Ex.bang, Ex.fn, Ex.lett, Ex.set, Ex.seq, Ex.ite, Ex.mtch, Tr.text, leafT]
  have hDec := fun wx => decimal_any n wx
  generalize bs (decN n.1) = X at *
  have HV := hide hv
  have HDec := hide hDec
  clear h hN hNx hv hDec
  go_enter Tryz.func32, Tryz.ntmps32
  go_wp2_with fail
  refine (HN.out _ HBw.out.rawAt).mono ?_; rintro e w1 ⟨rfl, hr, hk⟩
  have HBw1 := hide (HBw.out.call hr hk hrb)
  clear hr hk
  go_wp2_with fail
  refine (HNx.out _ HBw1.out.rawAt).mono ?_; rintro e w2 ⟨rfl, hr, hk⟩
  have HBw2 := hide (HBw1.out.call hr hk hrb)
  clear hr hk
  go_wp2_with fail
  refine (HDec.out _).mono ?_; rintro e w3 ⟨rfl, m, hw3⟩
  have HBw3 : Hid (Base rb sv raw k2 w w3) := by rw [hw3]; exact HBw2.out.drewN m
  clear hw3
  obtain ⟨r0, r1, r2, r3, rc0, rc1, rc2, rc3, rf⟩ := HBw3.out.cells
  go_wp2_with fail
  exact bodyPost_ret (v := madeV (.num n)) (by rw [HV.out]; simp [results, Tryz.results32, go_sem, rc0, rc1, rc2, rc3]) rfl (atom_fin hrb HBw3.out (.num n) (Ex.Ok.num n) (Nat.le_refl _) _ rfl _ _ _ _)

theorem rawAtom_any {k0 : Nat} {w : World} (h : RawAt rb sv raw k0 w) : Calls Tryz.prog 32 #[.pointer (some ⟨rb, 0, none⟩)] w (Mk rb sv raw 0 w) := by
  obtain ⟨v, k1, hv, hN⟩ := nextIs rb sv raw k0 5 (by decide) (by decide)
  rcases (show v = 0 ∨ v = 1 ∨ v = 2 ∨ v = 3 ∨ v = 4 by omega) with rfl | rfl | rfl | rfl | rfl
  · obtain ⟨n, k2, hn, hN2⟩ := nextIs rb sv raw k1 1000 (by decide) (by decide)
    exact atom_num k0 k1 k2 h ⟨n, by omega⟩ hN hN2
  · exact atom_word k0 k1 h _ _ _ .tru Ex.Ok.tru rfl rfl (Or.inl ⟨rfl, rfl, rfl⟩) hN
  · exact atom_word k0 k1 h _ _ _ .unit Ex.Ok.unit rfl rfl (Or.inr (Or.inl ⟨rfl, rfl, rfl⟩)) hN
  · exact atom_word k0 k1 h _ _ _ .nil Ex.Ok.nil rfl rfl (Or.inr (Or.inr ⟨rfl, rfl, rfl⟩)) hN
  · obtain ⟨x, k2, hN2⟩ := next4 rb sv raw k1
    exact atom_var k0 k1 k2 h x hN hN2

end
end Go.Proofs.YtnocnkblhjifjaaGreatDoor
