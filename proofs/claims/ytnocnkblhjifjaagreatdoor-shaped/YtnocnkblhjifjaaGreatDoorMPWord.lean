import Derived.Test.YtnocnkblhjifjaaGreatDoorMPHeap
import Derived.Test.YtnocnkblhjifjaaGreatDoorMRefSee
import Derived.Test.YtnocnkblhjifjaaGreatDoorShelf
import Derived.Shelf.Strings.Builder1
import Derived.Test.YtnocnkblhjifjaaGreatDoorMPMatch
/-
  (tree.Kind).word and (*tree.Node).title by their contracts.
-/
namespace Go.Proofs.YtnocnkblhjifjaaGreatDoor
open Go.RowKit

theorem ret_str {a b : ByteArray} (h : a = b) : Ending.returned (.string a) = .returned (.string b) := by rw [h]

set_option maxHeartbeats 2000000 in
theorem kindWord_any (k : Int) (w : World) : Calls Tryz.prog 209 #[.int .i64 k] w fun e w' => e = .returned (.string (bs (wordOf k))) ∧ w' = w := by
  go_enter Tryz.func209, Tryz.ntmps209
  go_wp2
  all_goals
    go_ret
    refine ⟨ret_str ?_, rfl⟩
    simp_all [wordOf, bsK_fun, bsK_let, bsK_rec, bsK_if, bsK_seq, bsK_setN, bsK_bang, bsK_app, bsK_con, bsK_match, bsK_row, bsK_do, bsK_type, bsK_arrow, bsK_nil]

/-- A node's cells. -/
theorem node_cells {w : World} {b : Nat} {k : Int} {txt : List UInt8} {pv : Value} (hb : w.heap[b]? = some (.cells #[.int .i64 k, .string (bs txt), pv] tyTree (0, 0))) :
    b < w.heap.size ∧ w.cell? ⟨b, 0, none⟩ = some (.int .i64 k) ∧ w.cell? ⟨b, 1, none⟩ = some (.string (bs txt)) ∧ w.cell? ⟨b, 2, none⟩ = some pv ∧ ∀ o, w.frozen? ⟨b, o, none⟩ = false :=
  ⟨(Array.getElem?_eq_some_iff.1 hb).1, by simp [World.cell?, hb], by simp [World.cell?, hb], by simp [World.cell?, hb], fun o => by simp [World.frozen?, hb]⟩

end Go.Proofs.YtnocnkblhjifjaaGreatDoor
/-
  (*strings.Builder).copyCheck, WriteByte, WriteString at this dump.
-/
namespace Go.Proofs.YtnocnkblhjifjaaGreatDoor
open Go.RowKit Go.Shelf

abbrev tyBuild : TypeId := 99
abbrev tyByte : TypeId := 5

theorem Tryz.sizeBuild : (Tryz.prog.info? tyBuild).map (·.size) = some 2 := by kernel_rfl
theorem Tryz.liesBuild : liesAt Tryz.prog Tryz.prog.depth tyBuild (2 / Tryz.prog.cellsOf tyBuild) 0 tyBuild 1 = true := by kernel_rfl
theorem Tryz.infoByteB : (Tryz.prog.info? tyByte).map (fun i => (i.zero, i.size, i.bytes)) = some (some (.int .u8 0), 1, 1) := by kernel_rfl

set_option maxHeartbeats 1000000 in
set_option maxRecDepth 100000 in
theorem check_used (b : Nat) (w : World) (h0 : w.cell? ⟨b, 0, none⟩ = some (.pointer (some ⟨b, 0, none⟩))) :
    Calls Tryz.prog 145 #[.pointer (some ⟨b, 0, none⟩)] w fun e w' => e = .returned (.tuple #[]) ∧ w' = w := by
  obtain ⟨j, hj, _⟩ := Option.map_eq_some_iff.1 Tryz.sizeBuild
  go_enter Tryz.func145, Tryz.ntmps145
  go_wp2
  rw [Lib.run_neq_ptr_same w _ Tryz.underlying97 hj]
  go_wp2
  go_end0
  exact ⟨rfl, rfl⟩

set_option maxHeartbeats 1000000 in
set_option maxRecDepth 100000 in
theorem check_fresh (b : Nat) (w : World) (h0 : w.cell? ⟨b, 0, none⟩ = some (.pointer none)) (hsh : w.shape? b = some (tyBuild, 2)) (hfz : w.frozen? ⟨b, 0, none⟩ = false) :
    Calls Tryz.prog 145 #[.pointer (some ⟨b, 0, none⟩)] w fun e w' => e = .returned (.tuple #[]) ∧ w' = w.setCell ⟨b, 0, none⟩ (.pointer (some ⟨b, 0, none⟩)) := by
  obtain ⟨j, hj, hjs⟩ := Option.map_eq_some_iff.1 Tryz.sizeBuild
  go_enter Tryz.func145, Tryz.ntmps145
  go_wp2
  rw [Lib.run_to_unsafe w ⟨b, 0, none⟩ Tryz.underlying97 Tryz.underlying309 hj (by rw [hjs]; decide) hsh (Nat.zero_lt_succ 1)]
  simp only [Result.andThen]
  rw [Oper.upon_value]
  go_wp2
  rw [run_callFunc_extern Tryz.func208 (by kernel_rfl) (by kernel_rfl) (by kernel_rfl) (e := Extern.AbiNoEscape.same) (by kernel_rfl)]
  rw [Lib.run_noEscape]
  simp only [Result.andThen]
  rw [Oper.upon_value]
  go_wp2
  rw [Lib.run_from_unsafe w ⟨b, 0, none⟩ Tryz.underlying309 Tryz.underlying97 hj hsh Tryz.liesBuild]
  simp only [Result.andThen]
  rw [Oper.upon_value]
  go_wp2
  go_end0
  exact ⟨rfl, rfl⟩

theorem check_any (B b : Nat) (l : List Value) (w : World) (h : Lib.IsBuilder tyBuild tyByte B b l w) :
    Calls Tryz.prog 145 #[.pointer (some ⟨b, 0, none⟩)] w fun e w' => e = .returned (.tuple #[]) ∧ (Lib.BuilderAt tyBuild tyByte B b (.pointer (some ⟨b, 0, none⟩)) l w' ∧ Below B w w') := by
  rcases h with h | h
  · refine (check_fresh b w h.cell0 h.shape h.frozen0).mono ?_
    rintro e w' ⟨rfl, rfl⟩
    exact ⟨rfl, h.used _, (Below.refl B w).setCell (p := ⟨b, 0, none⟩) h.1 _⟩
  · refine (check_used b w h.cell0).mono ?_
    rintro e w' ⟨rfl, rfl⟩
    exact ⟨rfl, h, Below.refl B _⟩

set_option maxHeartbeats 2000000 in
set_option maxRecDepth 100000 in
theorem writeByte_any (B b : Nat) (l : List Value) (c : Int) (w : World) (h : Lib.IsBuilder tyBuild tyByte B b l w) (hlen : l.length + 1 ≤ 140737488355328) (hBw : B ≤ w.heap.size) :
    Calls Tryz.prog 100 #[.pointer (some ⟨b, 0, none⟩), .int .u8 c] w fun e w' => e = .returned .nilIface ∧ (Lib.BuilderAt tyBuild tyByte B b (.pointer (some ⟨b, 0, none⟩)) (l ++ [.int .u8 c]) w' ∧ Below B w w') := by
  obtain ⟨i0, hi, hz0, hz1, hz2⟩ := info_parts Tryz.infoByteB
  have HC := hide (check_any B b l w h)
  clear h
  go_enter Tryz.func100, Tryz.ntmps100
  go_wp2_with fail
  refine (HC.out).mono ?_
  rintro e w1 ⟨rfl, h1, hb1⟩
  obtain ⟨hB, v, hbk, hown, hne⟩ := h1
  have c0 : w1.cell? ⟨b, 0, none⟩ = some (.pointer (some ⟨b, 0, none⟩)) := by rw [Lib.cell_of_heap hbk]; rfl
  have c1 : w1.cell? ⟨b, 1, none⟩ = some v := by rw [Lib.cell_of_heap hbk]; rfl
  have hsz1 := hb1.size
  go_wp2_with (at_builtin; refine wpList_append_own _ rfl _ _ 55 rfl B tyByte i0 (.int .u8 0) 1 1 Tryz.underlying55 hi hz0 hz1 hz2 rfl (by decide) _ _ _ rfl (hown.alloc _) ⟨w1.heap.size, 0, none⟩ 1 1 [.int .u8 c] rfl rfl ?c1 ?c2 ?c3 ?c4 ?c5 ?_)
  case c1 =>
    intro j u hj
    exact cell_new rfl (by simpa using hj)
  case c2 => intro u hu; simp at hu; subst hu; rfl
  case c3 => unfold maxLen; omega
  case c4 => omega
  case c5 => simp; omega
  intro v' w2 hown' hgrow _
  have hlt := lt_of_heap hbk
  have hb2 : w2.heap[b]? = some (.cells #[.pointer (some ⟨b, 0, none⟩), v] tyBuild (0, 0)) := by
    rw [hgrow.block b (by simp; omega) (fun e => hne e.symm), Below.heap_alloc _ _ _ hlt]
    exact hbk
  have d0 : w2.cell? ⟨b, 0, none⟩ = some (.pointer (some ⟨b, 0, none⟩)) := by rw [Lib.cell_of_heap hb2]; rfl
  have d1 : w2.cell? ⟨b, 1, none⟩ = some v := by rw [Lib.cell_of_heap hb2]; rfl
  have f1 : w2.frozen? ⟨b, 1, none⟩ = false := Lib.frozen_of_heap hb2 1
  obtain ⟨g, cap, rfl⟩ : ∃ g cap, v' = .slice (some ⟨g, 0, none⟩) (l.length + 1) cap := by
    rcases hown'.2 with ⟨_, h0⟩ | ⟨g, cap, cur, hv, _⟩
    · omega
    · exact ⟨g, cap, hv⟩
  go_wp2
  go_ret
  refine ⟨rfl, ?_, ?_⟩
  · exact Lib.BuilderAt.put (T := tyBuild) (e := tyByte) hB hb2 (bs' := l ++ [.int .u8 c]) (by simpa using hown') (by decide)
  · exact ((hb1.alloc (by omega) _).grown hgrow (by simp; omega) (fun k hk => (hown.lt k hk).1)).setCell (p := ⟨b, 1, none⟩) hB _

set_option maxHeartbeats 2000000 in
set_option maxRecDepth 100000 in
theorem writeString_any (B b : Nat) (l : List Value) (s : ByteArray) (w : World) (h : Lib.IsBuilder tyBuild tyByte B b l w) (hlen : l.length + s.size ≤ 140737488355328) (hBw : B ≤ w.heap.size) :
    Calls Tryz.prog 81 #[.pointer (some ⟨b, 0, none⟩), .string s] w fun e w' => e = .returned (.tuple #[.int .i64 s.size, .nilIface]) ∧ (Lib.BuilderAt tyBuild tyByte B b (.pointer (some ⟨b, 0, none⟩)) (l ++ Lib.strCells s) w' ∧ Below B w w') := by
  obtain ⟨i0, hi, hz0, hz1, hz2⟩ := info_parts Tryz.infoByteB
  have HC := hide (check_any B b l w h)
  clear h
  go_enter Tryz.func81, Tryz.ntmps81
  go_wp2_with fail
  refine (HC.out).mono ?_
  rintro e w1 ⟨rfl, h1, hb1⟩
  obtain ⟨hB, v, hbk, hown, hne⟩ := h1
  have c0 : w1.cell? ⟨b, 0, none⟩ = some (.pointer (some ⟨b, 0, none⟩)) := by rw [Lib.cell_of_heap hbk]; rfl
  have c1 : w1.cell? ⟨b, 1, none⟩ = some v := by rw [Lib.cell_of_heap hbk]; rfl
  have hsz1 := hb1.size
  go_wp2_with (at_builtin; refine Lib.wpList_append_own_string _ rfl _ _ 55 9 rfl B tyByte i0 Tryz.underlying55 Tryz.underlying9 hi hz0 hz1 hz2 _ _ _ rfl hown s rfl ?c3 ?c4 ?c5 ?_)
  case c3 => unfold maxLen; omega
  case c4 => omega
  case c5 => omega
  intro v' w2 hown' hgrow _
  have hlt := lt_of_heap hbk
  have hb2 : w2.heap[b]? = some (.cells #[.pointer (some ⟨b, 0, none⟩), v] tyBuild (0, 0)) := by
    rw [hgrow.block b hlt (fun e => hne e.symm)]
    exact hbk
  have d0 : w2.cell? ⟨b, 0, none⟩ = some (.pointer (some ⟨b, 0, none⟩)) := by rw [Lib.cell_of_heap hb2]; rfl
  have d1 : w2.cell? ⟨b, 1, none⟩ = some v := by rw [Lib.cell_of_heap hb2]; rfl
  have f1 : w2.frozen? ⟨b, 1, none⟩ = false := Lib.frozen_of_heap hb2 1
  obtain ⟨ao, n', cap, rfl⟩ : ∃ ao n' cap, v' = .slice ao n' cap := by
    rcases hown'.2 with ⟨hv, _⟩ | ⟨g, cap, cur, hv, _⟩
    · exact ⟨_, _, _, hv⟩
    · exact ⟨_, _, _, hv⟩
  go_wp2
  go_ret2
  refine ⟨rfl, ?_, ?_⟩
  · exact Lib.BuilderAt.put (T := tyBuild) (e := tyByte) hB hb2 (bs' := l ++ Lib.strCells s) (by simpa [Lib.strCells_length] using hown') (by decide)
  · exact (hb1.grown hgrow (by omega) (fun k hk => (hown.lt k hk).1)).setCell (p := ⟨b, 1, none⟩) hB _

end Go.Proofs.YtnocnkblhjifjaaGreatDoor
/-
  How the program writes a tree: (*tree.Node).title, write, writeInBrackets, String by their contracts.
-/
namespace Go.Proofs.YtnocnkblhjifjaaGreatDoor
open Go.RowKit

theorem empty_bs (l : List UInt8) : (bs l).toList.isEmpty = l.isEmpty := by rw [ByteArray.toList_eq, bs_data]

theorem word_len (k : Int) : (wordOf k).length ≤ 5 := by
  have hi : ∀ (c : Prop) [Decidable c] (a b : List UInt8), a.length ≤ 5 → b.length ≤ 5 → (if c then a else b).length ≤ 5 := by
    intro c _ a b h1 h2
    split
    · exact h1
    · exact h2
  unfold wordOf
  repeat (refine hi _ _ _ (by decide) ?_)
  decide

theorem texts_len (ts : List Tr) : ts.length ≤ (Tr.text.texts ts).length := by
  induction ts with
  | nil => exact Nat.zero_le _
  | cons t r ih => rw [Tr.text.texts]; simp only [List.length_append, List.length_cons]; omega

set_option maxHeartbeats 2000000 in
theorem title_any {w : World} {b : Nat} {k : Int} {txt : List UInt8} {pv : Value} (hb : w.heap[b]? = some (.cells #[.int .i64 k, .string (bs txt), pv] tyTree (0, 0))) (hlen : txt.length ≤ 140737488355328) :
    Calls Tryz.prog 146 #[ptrV b] w fun e w' => e = .returned (.string (bs (titleOf k txt))) ∧ w' = w := by
  obtain ⟨hl, c0, c1, c2, cf⟩ := node_cells hb
  have HW := hide (kindWord_any k w)
  have hz := word_len k
  have hsum1 : (bs (wordOf k)).size + (bs txt).size ≤ 9223372036854775807 := by rw [bs_size, bs_size]; omega
  have hsum2 : (bs (wordOf k)).size + 1 ≤ 9223372036854775807 := by rw [bs_size]; omega
  have hsum3 : (bs (wordOf k)).size + 1 + (bs txt).size ≤ 9223372036854775807 := by rw [bs_size, bs_size]; omega
  have e1 := empty_bs (wordOf k)
  have e2 := empty_bs txt
  have hA : bs (wordOf k) ++ bs txt = bs (wordOf k ++ txt) := bs_app _ _
  have hB : bs (wordOf k) ++ ⟨#[32]⟩ ++ bs txt = bs (wordOf k ++ 32 :: txt) := by
    show bs (wordOf k) ++ bs [32] ++ bs txt = _
    rw [bs_app, bs_app, List.append_assoc]; rfl
  unfold titleOf ptrV
  by_cases h1 : wordOf k = []
  · have e1b : (bs (wordOf k)).toList.isEmpty = true := by rw [e1, h1]; rfl
    clear e1 e2
    rw [if_pos (Or.inl h1), ← hA]
    have HF := hide (fun (e : Ending) (he : e = .returned (.string (bs (wordOf k) ++ bs txt))) => he)
    clear hA hB hb h1
    generalize bs (wordOf k) = bw at *
    generalize bs txt = bt at *
    go_enter Tryz.func146, Tryz.ntmps146
    go_wp2_with fail
    refine (HW.out).mono ?_; rintro e wp ⟨rfl, hw⟩
    rw [hw]; clear hw wp
    go_wp2
    go_ret
    exact ⟨HF.out _ rfl, rfl⟩
  · have e1b : (bs (wordOf k)).toList.isEmpty = false := by
      rw [e1]
      cases h : wordOf k with
      | nil => exact absurd h h1
      | cons a r => rfl
    by_cases h2 : txt = []
    · have e2b : (bs txt).toList.isEmpty = true := by rw [e2, h2]; rfl
      clear e1 e2
      rw [if_pos (Or.inr h2), ← hA]
      have HF := hide (fun (e : Ending) (he : e = .returned (.string (bs (wordOf k) ++ bs txt))) => he)
      clear hA hB hb h1 h2
      generalize bs (wordOf k) = bw at *
      generalize bs txt = bt at *
      go_enter Tryz.func146, Tryz.ntmps146
      go_wp2_with fail
      refine (HW.out).mono ?_; rintro e wp ⟨rfl, hw⟩
      rw [hw]; clear hw wp
      go_wp2
      go_ret
      exact ⟨HF.out _ rfl, rfl⟩
    · have e2b : (bs txt).toList.isEmpty = false := by
        rw [e2]
        cases h : txt with
        | nil => exact absurd h h2
        | cons a r => rfl
      clear e1 e2
      rw [if_neg (by simp [h1, h2]), ← hB]
      have HF := hide (fun (e : Ending) (he : e = .returned (.string (bs (wordOf k) ++ ⟨#[32]⟩ ++ bs txt))) => he)
      clear hA hB hb h1 h2
      generalize bs (wordOf k) = bw at *
      generalize bs txt = bt at *
      go_enter Tryz.func146, Tryz.ntmps146
      go_wp2_with fail
      refine (HW.out).mono ?_; rintro e wp ⟨rfl, hw⟩
      rw [hw]; clear hw wp
      go_wp2
      go_ret
      exact ⟨HF.out _ rfl, rfl⟩

/-- What a writing of a tree does: its text stands behind what stood there. -/
def Writes (w0 : World) (f b ob : Nat) (x : List UInt8) : Prop := ∀ (l : List UInt8) (w : World), Below w0.heap.size w0 w → Lib.IsBuilder tyBuild tyByte w0.heap.size ob (Lib.byteCells l) w → l.length + x.length ≤ 140737488355328 →
  Calls Tryz.prog f #[ptrV b, ptrV ob] w fun e w' => e = .returned (.tuple #[]) ∧ Hid (Lib.BuilderAt tyBuild tyByte w0.heap.size ob (.pointer (some ⟨ob, 0, none⟩)) (Lib.byteCells (l ++ x)) w' ∧ Below w0.heap.size w w')

theorem byteCells_app (a b : List UInt8) : Lib.byteCells a ++ Lib.byteCells b = Lib.byteCells (a ++ b) := by simp [Lib.byteCells]

theorem strCells_bs (x : List UInt8) : Lib.strCells (bs x) = Lib.byteCells x := by rw [Lib.strCells_eq, bs_data]

/-- A text. -/
theorem wrS {w0 : World} {ob : Nat} (x l : List UInt8) (w : World) (hb : Below w0.heap.size w0 w) (hB : Lib.IsBuilder tyBuild tyByte w0.heap.size ob (Lib.byteCells l) w) (hlen : l.length + x.length ≤ 140737488355328) :
    Calls Tryz.prog 81 #[.pointer (some ⟨ob, 0, none⟩), .string (bs x)] w fun e w' => e = .returned (.tuple #[.int .i64 (bs x).size, .nilIface]) ∧ Hid (Lib.BuilderAt tyBuild tyByte w0.heap.size ob (.pointer (some ⟨ob, 0, none⟩)) (Lib.byteCells (l ++ x)) w' ∧ Below w0.heap.size w w') := by
  refine (writeString_any w0.heap.size ob (Lib.byteCells l) (bs x) w hB (by rw [Lib.byteCells_length, bs_size]; exact hlen) hb.size).mono ?_
  rintro e w' ⟨rfl, h1, h2⟩
  rw [strCells_bs, byteCells_app] at h1
  exact ⟨rfl, h1, h2⟩

/-- A byte. -/
theorem wrB {w0 : World} {ob : Nat} (c : UInt8) (l : List UInt8) (w : World) (hb : Below w0.heap.size w0 w) (hB : Lib.IsBuilder tyBuild tyByte w0.heap.size ob (Lib.byteCells l) w) (hlen : l.length + 1 ≤ 140737488355328) :
    Calls Tryz.prog 100 #[.pointer (some ⟨ob, 0, none⟩), .int .u8 c.toNat] w fun e w' => e = .returned .nilIface ∧ Hid (Lib.BuilderAt tyBuild tyByte w0.heap.size ob (.pointer (some ⟨ob, 0, none⟩)) (Lib.byteCells (l ++ [c])) w' ∧ Below w0.heap.size w w') := by
  refine (writeByte_any w0.heap.size ob (Lib.byteCells l) c.toNat w hB (by rw [Lib.byteCells_length]; exact hlen) hb.size).mono ?_
  rintro e w' ⟨rfl, h1, h2⟩
  have h3 : Lib.byteCells l ++ [Value.int .u8 c.toNat] = Lib.byteCells (l ++ [c]) := by simp [Lib.byteCells]
  rw [h3] at h1
  exact ⟨rfl, h1, h2⟩

/-- What the loop over the parts holds at its head. -/
def BrAt (w0 : World) (ob : Nat) (l h : List UInt8) (ts : List Tr) (i : Nat) (wr : World) : Prop :=
  Below w0.heap.size w0 wr ∧ Lib.IsBuilder tyBuild tyByte w0.heap.size ob (Lib.byteCells (l ++ h ++ Tr.text.texts (ts.take i))) wr

theorem texts_take (ts : List Tr) (i : Nat) (t : Tr) (h : ts[i]? = some t) : Tr.text.texts (ts.take (i + 1)) = Tr.text.texts (ts.take i) ++ 32 :: t.text := by
  have hi : i < ts.length := by
    by_cases hi : i < ts.length
    · exact hi
    · rw [List.getElem?_eq_none (by omega)] at h; cases h
  have htx : ∀ a b : List Tr, Tr.text.texts (a ++ b) = Tr.text.texts a ++ Tr.text.texts b := by
    intro a b
    induction a with
    | nil => rfl
    | cons x r ih => rw [List.cons_append, Tr.text.texts, Tr.text.texts, ih]; simp
  rw [List.take_succ_eq_append_getElem hi, htx]
  rw [List.getElem?_eq_getElem hi] at h
  rw [Option.some.inj h, Tr.text.texts, Tr.text.texts, List.append_nil]

theorem texts_le : ∀ (ts : List Tr) (i : Nat), (Tr.text.texts (ts.take i)).length ≤ (Tr.text.texts ts).length := by
  intro ts
  induction ts with
  | nil => intro i; simp
  | cons t r ih =>
    intro i
    cases i with
    | zero => simp [Tr.text.texts]
    | succ i => rw [List.take_succ_cons, Tr.text.texts, Tr.text.texts]; have := ih i; simp only [List.length_append, List.length_cons]; omega

set_option maxRecDepth 100000 in
set_option maxHeartbeats 8000000 in
theorem brackets_any {w0 : World} {b ob : Nat} {k : Int} {txt : List UInt8} {pv : Value} {cs : List Nat} {ts : List Tr} {ps : List Nat} {A : Nat → Prop} (hb : w0.heap[b]? = some (.cells #[.int .i64 k, .string (bs txt), pv] tyTree (0, 0)))
    (hr : w0.ownsRow 0 tyTreeP 1 pv ps.length (ps.map ptrV)) (hm : Mem.Mems A w0 cs ts ps) (ih : ∀ (i : Nat) (t : Tr) (pb : Nat), ts[i]? = some t → ps[i]? = some pb → Writes w0 52 pb ob t.text) :
    Writes w0 82 b ob (40 :: titleOf k txt ++ Tr.text.texts ts ++ [41]) := by
  intro l w hbel hB hlen
  have hbw : w.heap[b]? = some (.cells #[.int .i64 k, .string (bs txt), pv] tyTree (0, 0)) := by rw [hbel.block b (lt_of_heap hb)]; exact hb
  have hrw : w.ownsRow 0 tyTreeP 1 pv ps.length (ps.map ptrV) := ownsRow_below hr hbel
  have hpl := hm.length.2
  have hll : l.length + (1 + (titleOf k txt).length + (Tr.text.texts ts).length + 1) ≤ 140737488355328 := by
    simp only [List.length_append, List.length_cons, List.length_nil] at hlen; omega
  have htl : txt.length ≤ (titleOf k txt).length := by
    unfold titleOf
    split
    · simp
    · simp; omega
  have HT := hide (title_any hbw (by omega))
  have HS := hide (wrS (ob := ob) (40 :: titleOf k txt) l w hbel hB (by simp only [List.length_cons]; omega))
  have hsum : 1 + (bs (titleOf k txt)).size ≤ 9223372036854775807 := by rw [bs_size]; omega
  have happ : (⟨#[40]⟩ : ByteArray) ++ bs (titleOf k txt) = bs (40 :: titleOf k txt) := by
    show bs [40] ++ bs (titleOf k txt) = _
    rw [bs_app]; rfl
  rw [← happ] at HS
  have HI := hide ih
  have HM := hide hm
  have HR0 := hide hr
  have HB0 := hide hb
  have HBEL := hide hbel
  have HPL := hide hpl
  obtain ⟨hl, c0, c1, c2, cf⟩ := node_cells hbw
  have hpsn : ps.length ≤ 140737488355328 := by
    have := texts_len ts
    omega
  have hforms := ownsRow_forms hrw
  have hfinal : ∀ w', BrAt w0 ob l (40 :: titleOf k txt) ts ts.length w' → Below w0.heap.size w w' → Calls Tryz.prog 100 #[.pointer (some ⟨ob, 0, none⟩), .int .u8 41] w' fun e w'' => e = .returned .nilIface ∧ Hid (Lib.BuilderAt tyBuild tyByte w0.heap.size ob (.pointer (some ⟨ob, 0, none⟩)) (Lib.byteCells (l ++ (40 :: titleOf k txt ++ Tr.text.texts ts ++ [41]))) w'' ∧ Below w0.heap.size w w'') := by
    rintro w' ⟨hb1, hB1⟩ hb2
    rw [List.take_length] at hB1
    refine (wrB (ob := ob) 41 (l ++ (40 :: titleOf k txt) ++ Tr.text.texts ts) w' hb1 hB1 (by simp only [List.length_append, List.length_cons]; omega)).mono ?_
    rintro e w'' ⟨rfl, h⟩
    refine ⟨rfl, ?_, hb2.trans h.out.2⟩
    have h1 := h.out.1
    rw [List.append_assoc, List.append_assoc, ← List.append_assoc (40 :: titleOf k txt)] at h1
    exact h1
  have HFIN := hide hfinal
  have HSTEP := hide (fun (i : Nat) (wr : World) (hat : BrAt w0 ob l (40 :: titleOf k txt) ts i wr) => wrB (ob := ob) 32 (l ++ (40 :: titleOf k txt) ++ Tr.text.texts (ts.take i)) wr hat.1 hat.2 (by have := texts_le ts i; simp only [List.length_append, List.length_cons]; omega))
  have HLL := hide hll
  have hQ : ∀ (w'' : World), Hid (Lib.BuilderAt tyBuild tyByte w0.heap.size ob (.pointer (some ⟨ob, 0, none⟩)) (Lib.byteCells (l ++ (40 :: titleOf k txt ++ Tr.text.texts ts ++ [41]))) w'' ∧ Below w0.heap.size w w'') → (fun (e : Ending) (w' : World) => e = .returned (.tuple #[]) ∧ Hid (Lib.BuilderAt tyBuild tyByte w0.heap.size ob (.pointer (some ⟨ob, 0, none⟩)) (Lib.byteCells (l ++ (40 :: titleOf k txt ++ Tr.text.texts ts ++ [41]))) w' ∧ Below w0.heap.size w w')) (.returned (.tuple #[])) w'' := fun _ h => ⟨rfl, h⟩
  have HQ := hide hQ
  generalize (fun (e : Ending) (w' : World) => e = .returned (.tuple #[]) ∧ Hid (Lib.BuilderAt tyBuild tyByte w0.heap.size ob (.pointer (some ⟨ob, 0, none⟩)) (Lib.byteCells (l ++ (40 :: titleOf k txt ++ Tr.text.texts ts ++ [41]))) w' ∧ Below w0.heap.size w w')) = Q at *
  clear hQ hfinal hbw hrw hb hr hm ih hbel hB hlen hll htl happ hpl
  unfold ptrV at *
  generalize hbt : bs (titleOf k txt) = bt at *
  clear hbt
  generalize hpn : ps.length = pn at *
  go_enter Tryz.func82, Tryz.ntmps82
  go_wp2_with fail
  refine (HT.out).mono ?_; rintro e wp ⟨rfl, hw⟩
  rw [hw]; clear hw wp
  go_wp2_with fail
  refine (HS.out).mono ?_; rintro e w1 ⟨rfl, h1⟩
  have hAt : BrAt w0 ob l (40 :: titleOf k txt) ts 0 w1 := ⟨HBEL.out.trans h1.out.2, by rw [List.take_zero]; show Lib.IsBuilder _ _ _ _ (Lib.byteCells (l ++ (40 :: titleOf k txt) ++ [])) _; rw [List.append_nil]; exact Or.inr h1.out.1⟩
  have HAt := hide hAt
  have HB1 := hide h1.out.2
  have d : w1.heap[b]? = some (.cells #[.int .i64 k, .string (bs txt), pv] tyTree (0, 0)) := by rw [hAt.1.block b (lt_of_heap HB0.out)]; exact HB0.out
  obtain ⟨hl1, d0, d1, d2, df⟩ := node_cells d
  clear hAt h1 d HS HT
  rcases hforms with ⟨rfl, rfl⟩ | ⟨g, cap, rfl⟩
  · have hts : ts.length = 0 := by have := HPL.out; omega
    have HC := hide (HFIN.out w1 (by rw [hts]; exact HAt.out) HB1.out)
    clear HAt HB1 HFIN HSTEP HI HM HR0 HBEL
    go_wp2_with fail
    refine wp_loop_rounds 1 ?_
    rw [rounds_succ]
    go_wp2_with fail
    refine (HC.out).mono ?_; rintro e w2 ⟨rfl, h2⟩
    go_wp2_with fail
    go_end0
    exact HQ.out _ h2
  · go_wp2_with fail
    go_loopg [16] pn (fun gk v16 wr => ∃ i, v16 = .int .i64 (i : Nat) ∧ i + gk = pn ∧ Hid (BrAt w0 ob l (40 :: titleOf k txt) ts i wr ∧ Below w0.heap.size w wr))
    case atStart => exact ⟨0, rfl, by omega, HAt.out, HB1.out⟩
    case round =>
      clear HAt HB1
      obtain ⟨i, rfl, hi, HAT⟩ := hrel
      by_cases hlt : i < pn
      · obtain ⟨ta, ba, e1, e2, _⟩ := mems_at HM.out (i := i) (by omega)
        have hr1 := ownsRow_below HR0.out HAT.out.1.1
        have hcell : wr.cell? ⟨g, i, none⟩ = some (.pointer (some ⟨ba, 0, none⟩)) := by
          have := hr1.cellAt i (by omega)
          rw [this, List.getElem?_map, e2]; rfl
        have hgl := (hr1.lt g rfl).2
        have HC := hide (HSTEP.out i wr HAT.out.1)
        have HWr := hide (HI.out i ta ba e1 e2)
        have HTK := hide (texts_take ts i ta e1)
        have hlen2 : l.length + (1 + (titleOf k txt).length) + ((Tr.text.texts (ts.take i)).length + (1 + ta.text.length)) ≤ 140737488355328 := by
          have h1 := texts_le ts (i + 1)
          rw [HTK.out] at h1
          have := HLL.out
          simp only [List.length_append, List.length_cons] at h1
          omega
        have HLEN := hide hlen2
        have hlt3 : (i : Int) < (pn : Int) := by omega
        clear hr1 e1 e2 hlen2
        go_wp2_with fail
        refine (HC.out).mono ?_; rintro e w2 ⟨rfl, h2⟩
        have hC3 := HWr.out (l ++ (40 :: titleOf k txt) ++ Tr.text.texts (ts.take i) ++ [32]) w2 (HAT.out.1.1.trans h2.out.2) (Or.inr h2.out.1) (by have := HLEN.out; simp only [List.length_append, List.length_cons, List.length_nil]; omega)
        unfold ptrV at hC3
        have HC3 := hide hC3
        have H2 := hide h2.out.2
        clear hC3 h2 HC
        go_wp2_with fail
        refine (HC3.out).mono ?_; rintro e w3 ⟨rfl, h3⟩
        have hnext : BrAt w0 ob l (40 :: titleOf k txt) ts (i + 1) w3 ∧ Below w0.heap.size w w3 := by
          refine ⟨⟨(HAT.out.1.1.trans H2.out).trans h3.out.2, Or.inr ?_⟩, (HAT.out.2.trans H2.out).trans h3.out.2⟩
          rw [HTK.out]
          have h1 := h3.out.1
          rw [List.append_assoc, List.append_assoc] at h1
          exact h1
        have HNX := hide hnext
        clear hnext h3 H2 HC3 HWr HTK HLEN HAT
        go_wp2_with fail
        go_roundg (pn - (i + 1))
        case rel => exact ⟨i + 1, by simp, by omega, HNX⟩
        case measure => omega
      · have hts : ts.length = i := by have := HPL.out; omega
        have HC := hide (HFIN.out wr (by rw [hts]; exact HAT.out.1) HAT.out.2)
        have hlt3 : ¬ (i : Int) < (pn : Int) := by omega
        clear HAT HFIN HSTEP HI HM HR0 HBEL hts
        go_wp2_with fail
        refine (HC.out).mono ?_; rintro e w2 ⟨rfl, h2⟩
        go_wp2_with fail
        go_end0
        exact HQ.out _ h2

set_option maxRecDepth 100000 in
set_option maxHeartbeats 4000000 in
theorem write_leaf {w0 : World} {b ob : Nat} {k : Int} {txt : List UInt8} {pv : Value} (hk : leafK k = true) (hb : w0.heap[b]? = some (.cells #[.int .i64 k, .string (bs txt), pv] tyTree (0, 0))) : Writes w0 52 b ob txt := by
  intro l w hbel hB hlen
  have hbw : w.heap[b]? = some (.cells #[.int .i64 k, .string (bs txt), pv] tyTree (0, 0)) := by rw [hbel.block b (lt_of_heap hb)]; exact hb
  have HS := hide (wrS (ob := ob) txt l w hbel hB hlen)
  obtain ⟨hl, c0, c1, c2, cf⟩ := node_cells hbw
  have hQ : ∀ (w'' : World), Hid (Lib.BuilderAt tyBuild tyByte w0.heap.size ob (.pointer (some ⟨ob, 0, none⟩)) (Lib.byteCells (l ++ txt)) w'' ∧ Below w0.heap.size w w'') → (fun (e : Ending) (w' : World) => e = .returned (.tuple #[]) ∧ Hid (Lib.BuilderAt tyBuild tyByte w0.heap.size ob (.pointer (some ⟨ob, 0, none⟩)) (Lib.byteCells (l ++ txt)) w' ∧ Below w0.heap.size w w')) (.returned (.tuple #[])) w'' := fun _ h => ⟨rfl, h⟩
  have HQ := hide hQ
  have hk2 : k = 0 ∨ k = 1 ∨ k = 2 ∨ k = 3 ∨ k = 4 ∨ k = 19 := by simpa [leafK] using hk
  clear hQ hbw hb hbel hB hlen hk
  generalize (fun (e : Ending) (w' : World) => e = .returned (.tuple #[]) ∧ Hid (Lib.BuilderAt tyBuild tyByte w0.heap.size ob (.pointer (some ⟨ob, 0, none⟩)) (Lib.byteCells (l ++ txt)) w' ∧ Below w0.heap.size w w')) = Q at *
  unfold ptrV at *
  generalize bs txt = bt at *
  rcases hk2 with rfl | rfl | rfl | rfl | rfl | rfl
  all_goals
    go_enter Tryz.func52, Tryz.ntmps52
    go_wp2_with fail
    refine (HS.out).mono ?_; rintro e w1 ⟨rfl, h1⟩
    go_wp2_with fail
    go_end0
    exact HQ.out _ h1

set_option maxRecDepth 100000 in
set_option maxHeartbeats 4000000 in
theorem write_letter {w0 : World} {b ob : Nat} {txt : List UInt8} {pv : Value} (hb : w0.heap[b]? = some (.cells #[.int .i64 21, .string (bs txt), pv] tyTree (0, 0))) : Writes w0 52 b ob (39 :: txt) := by
  intro l w hbel hB hlen
  have hbw : w.heap[b]? = some (.cells #[.int .i64 21, .string (bs txt), pv] tyTree (0, 0)) := by rw [hbel.block b (lt_of_heap hb)]; exact hb
  have HS := hide (wrS (ob := ob) (39 :: txt) l w hbel hB hlen)
  have happ : (⟨#[39]⟩ : ByteArray) ++ bs txt = bs (39 :: txt) := by
    show bs [39] ++ bs txt = _
    rw [bs_app]; rfl
  have hsum : 1 + (bs txt).size ≤ 9223372036854775807 := by rw [bs_size]; rw [List.length_cons] at hlen; omega
  rw [← happ] at HS
  obtain ⟨hl, c0, c1, c2, cf⟩ := node_cells hbw
  have hQ : ∀ (w'' : World), Hid (Lib.BuilderAt tyBuild tyByte w0.heap.size ob (.pointer (some ⟨ob, 0, none⟩)) (Lib.byteCells (l ++ 39 :: txt)) w'' ∧ Below w0.heap.size w w'') → (fun (e : Ending) (w' : World) => e = .returned (.tuple #[]) ∧ Hid (Lib.BuilderAt tyBuild tyByte w0.heap.size ob (.pointer (some ⟨ob, 0, none⟩)) (Lib.byteCells (l ++ 39 :: txt)) w' ∧ Below w0.heap.size w w')) (.returned (.tuple #[])) w'' := fun _ h => ⟨rfl, h⟩
  have HQ := hide hQ
  clear hQ hbw hb hbel hB hlen happ
  generalize (fun (e : Ending) (w' : World) => e = .returned (.tuple #[]) ∧ Hid (Lib.BuilderAt tyBuild tyByte w0.heap.size ob (.pointer (some ⟨ob, 0, none⟩)) (Lib.byteCells (l ++ 39 :: txt)) w' ∧ Below w0.heap.size w w')) = Q at *
  unfold ptrV at *
  generalize bs txt = bt at *
  go_enter Tryz.func52, Tryz.ntmps52
  go_wp2_with fail
  refine (HS.out).mono ?_; rintro e w1 ⟨rfl, h1⟩
  go_wp2_with fail
  go_end0
  exact HQ.out _ h1

set_option maxRecDepth 100000 in
set_option maxHeartbeats 4000000 in
theorem write_else {w0 : World} {b ob : Nat} {k : Int} {txt x : List UInt8} {pv : Value} (hk : leafK k = false) (hk2 : k ≠ 21) (hb : w0.heap[b]? = some (.cells #[.int .i64 k, .string (bs txt), pv] tyTree (0, 0))) (h : Writes w0 82 b ob x) : Writes w0 52 b ob x := by
  intro l w hbel hB hlen
  have hbw : w.heap[b]? = some (.cells #[.int .i64 k, .string (bs txt), pv] tyTree (0, 0)) := by rw [hbel.block b (lt_of_heap hb)]; exact hb
  have HS := hide (h l w hbel hB hlen)
  obtain ⟨hl, c0, c1, c2, cf⟩ := node_cells hbw
  have hk3 : ¬ k = 0 ∧ ¬ k = 1 ∧ ¬ k = 2 ∧ ¬ k = 3 ∧ ¬ k = 4 ∧ ¬ k = 19 := by simpa [leafK] using hk
  obtain ⟨n0, n1, n2, n3, n4, n5⟩ := hk3
  have n6 : ¬ k = 21 := hk2
  have m0 : (k == 0) = false := by simpa using n0
  have m1 : (k == 1) = false := by simpa using n1
  have m2 : (k == 2) = false := by simpa using n2
  have m3 : (k == 3) = false := by simpa using n3
  have m4 : (k == 4) = false := by simpa using n4
  have m5 : (k == 19) = false := by simpa using n5
  have m6 : (k == 21) = false := by simpa using n6
  have hQ : ∀ (w'' : World), Hid (Lib.BuilderAt tyBuild tyByte w0.heap.size ob (.pointer (some ⟨ob, 0, none⟩)) (Lib.byteCells (l ++ x)) w'' ∧ Below w0.heap.size w w'') → (fun (e : Ending) (w' : World) => e = .returned (.tuple #[]) ∧ Hid (Lib.BuilderAt tyBuild tyByte w0.heap.size ob (.pointer (some ⟨ob, 0, none⟩)) (Lib.byteCells (l ++ x)) w' ∧ Below w0.heap.size w w')) (.returned (.tuple #[])) w'' := fun _ h => ⟨rfl, h⟩
  have HQ := hide hQ
  clear hQ hbw hb hbel hB hlen h hk hk2
  generalize hQQ : (fun (e : Ending) (w' : World) => e = .returned (.tuple #[]) ∧ Hid (Lib.BuilderAt tyBuild tyByte w0.heap.size ob (.pointer (some ⟨ob, 0, none⟩)) (Lib.byteCells (l ++ x)) w' ∧ Below w0.heap.size w w')) = Q at HQ ⊢
  clear hQQ
  unfold ptrV at *
  generalize bs txt = bt at *
  go_enter Tryz.func52, Tryz.ntmps52
  go_wp2_with fail
  refine (HS.out).mono ?_; rintro e w1 ⟨rfl, h1⟩
  go_wp2_with fail
  go_end0
  exact HQ.out _ h1

theorem mus_part {ts : List Tr} {i : Nat} {t : Tr} (h : ts[i]? = some t) : mu t ≤ mus ts := by
  induction ts generalizing i with
  | nil => simp at h
  | cons a r ih =>
    rw [mus_cons]
    cases i with
    | zero => simp at h; subst h; omega
    | succ i => have := ih (i := i) (by simpa using h); omega

/-- A tree is written as its text. -/
theorem write_any {A : Nat → Prop} {w0 : World} {ob : Nat} : ∀ (m : Nat) (c : Nat) (t : Tr) (b : Nat), mu t ≤ m → Mem A w0 c t b → Writes w0 52 b ob t.text := by
  intro m
  induction m with
  | zero => intro c t b hm; unfold mu at hm; omega
  | succ m ih =>
    intro c t b hm h
    obtain ⟨is, name, ts⟩ := t
    obtain ⟨k, txt, cs, pv, ps, hk, hb, hr, hA, hms⟩ := h.inv
    obtain ⟨h0, h1, ⟨h2, h3, h4⟩ | ⟨h2, h3, h4, h5⟩ | ⟨h2, h3, h4, h5⟩⟩ := hk.text
    · rw [Tr.text, h3, cond_true, h4]
      exact write_leaf h2 hb
    · subst h3
      rw [Tr.text, h4, cond_true, h5]
      exact write_letter hb
    · rw [Tr.text, h4, cond_false, h5]
      refine write_else h2 h3 hb (brackets_any hb hr hms fun i t2 pb e1 e2 => ?_)
      obtain ⟨ta, ba, g1, g2, c2, _, g3⟩ := mems_at hms (i := i) (by
        by_cases hi : i < ps.length
        · exact hi
        · rw [List.getElem?_eq_none (by omega)] at e2; cases e2)
      rw [e1] at g1
      rw [e2] at g2
      obtain rfl := Option.some.inj g1
      obtain rfl := Option.some.inj g2
      refine ih c2 t2 pb ?_ g3
      have hp := mus_part e1
      unfold mu at hm
      rw [Tr.text, h4, cond_false] at hm
      simp only [List.length_append, List.length_cons, List.length_nil] at hm
      unfold mus at hp
      omega

set_option maxRecDepth 100000 in
set_option maxHeartbeats 4000000 in
theorem string_any {A : Nat → Prop} {c : Nat} {t : Tr} {b : Nat} (w : World) (h : Mem A w c t b) (hlen : t.text.length ≤ 140737488355328) : Calls Tryz.prog 29 #[ptrV b] w fun e w' => e = .returned (.string (bs t.text)) ∧ Below w.heap.size w w' := by
  have hW := write_any (ob := w.heap.size) (mu t) c t b (Nat.le_refl _) h [] (w.alloc (.cells #[.pointer none, .slice none 0 0] tyBuild)) ((Below.refl _ w).alloc (Nat.le_refl _) _)
    (Or.inl ⟨Nat.le_refl _, _, by simp only [World.alloc, Array.getElem?_push_size], World.ownsRow_nil _ _ _ _, by simp [Value.ownBlock]⟩) (by simpa using hlen)
  have HW := hide hW
  have HB := hide ((Below.refl w.heap.size w).alloc (Nat.le_refl _) (.cells #[.pointer none, .slice none 0 0] tyBuild))
  have HS := hide (fun (w1 : World) (h1 : Lib.IsBuilder tyBuild tyByte w.heap.size w.heap.size (Lib.byteCells t.text) w1) (h2 : w.heap.size ≤ w1.heap.size) => Tryz.Builder_String_any w.heap.size w.heap.size t.text w1 h1 h2)
  clear h hW hlen
  unfold ptrV at *
  go_enter Tryz.func29, Tryz.ntmps29
  go_wp2_with fail
  refine (HW.out).mono ?_; rintro e w1 ⟨rfl, h1⟩
  have hb1 := HB.out.trans h1.out.2
  have HC := hide (HS.out w1 (Or.inr h1.out.1) hb1.size)
  have HB1 := hide hb1
  clear h1 hb1
  go_wp2_with fail
  refine (HC.out).mono ?_; rintro e w2 ⟨rfl, h2⟩
  have HB2 := hide (HB1.out.trans h2)
  clear h2
  go_wp2
  go_ret
  exact ⟨rfl, HB2.out⟩


end Go.Proofs.YtnocnkblhjifjaaGreatDoor
