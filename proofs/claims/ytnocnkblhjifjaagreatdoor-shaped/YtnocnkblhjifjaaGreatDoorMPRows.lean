import Derived.Test.YtnocnkblhjifjaaGreatDoorMPHeap
import Derived.Test.YtnocnkblhjifjaaGreatDoorMRefAppend
/-
  Rows of nodes: one more behind a row of one's own; rows of one, two, three; tree.New.
-/
namespace Go.Proofs.YtnocnkblhjifjaaGreatDoor
open Go.RowKit

theorem Tryz.infoPtr : (Tryz.prog.info? 61).map (fun i => (i.zero, i.size, i.bytes)) = some (some (.pointer none), 1, 8) := by kernel_rfl

theorem run_append_ptr {w : World} {base : Nat} {v : Value} {ns : List Nat} {ty : TypeId} (k : Nat) (hown : w.ownsRow base tyTreeP 1 v ns.length (ns.map ptrV)) (hn : ns.length ≤ 100000000) (hb : base ≤ w.heap.size) :
    ∃ v' w', (Builtin.append_ #[58, 58] ty #[v, .slice (some ⟨w.heap.size, 0, none⟩) 1 1]).run Tryz.prog (w.alloc (.cells #[.pointer (some ⟨k, 0, none⟩)] tyTreeP)) = .ok v' w' ∧
      w'.ownsRow base tyTreeP 1 v' (ns ++ [k]).length ((ns ++ [k]).map ptrV) ∧ (w.alloc (.cells #[.pointer (some ⟨k, 0, none⟩)] tyTreeP)).grownBy w' v.ownBlock ∧ (∀ g, v'.ownBlock = some g → v.ownBlock = some g ∨ w.heap.size < g) ∧ ∃ g cap, v' = .slice (some ⟨g, 0, none⟩) (ns ++ [k]).length cap := by
  obtain ⟨i0, hi, hz0, hz1, hz2⟩ := info_parts Tryz.infoPtr
  have hown1 := hown.alloc (.cells #[.pointer (some ⟨k, 0, none⟩)] tyTreeP)
  have hnews : ∀ j u, [Value.pointer (some ⟨k, 0, none⟩)][j]? = some u → (w.alloc (.cells #[.pointer (some ⟨k, 0, none⟩)] tyTreeP)).cell? ((⟨w.heap.size, 0, none⟩ : Addr).add j) = some u := fun j u hj => cell_new rfl (by simpa using hj)
  have h1 : ∀ u ∈ [Value.pointer (some ⟨k, 0, none⟩)], u.oneCell' = true := by intro u hu; simp at hu; subst hu; rfl
  obtain ⟨v', w', hr, ho', hg', _⟩ := run_append_own (P := Tryz.prog) (w.alloc (.cells #[.pointer (some ⟨k, 0, none⟩)] tyTreeP)) base 58 ty tyTreeP i0 (.pointer none) 1 8 Tryz.underlying58 hi hz0 hz1 hz2 rfl (by decide) v ns.length (ns.map ptrV) hown1 ⟨w.heap.size, 0, none⟩ 1 1 [.pointer (some ⟨k, 0, none⟩)] rfl hnews h1 (by unfold maxLen; omega) (by omega) (by simp; omega)
  have ho2 : w'.ownsRow base tyTreeP 1 v' (ns ++ [k]).length ((ns ++ [k]).map ptrV) := by
    rw [List.length_append, List.map_append]; exact ho'
  refine ⟨v', w', hr, ho2, hg', ?_, ?_⟩
  · intro g hgv
    rcases hown1.2 with ⟨rfl, hn0⟩ | ⟨g0, cap, cur, rfl, hbg, hg, hnc, hcm, hcs, htake⟩
    · have h := run_append_nil (P := Tryz.prog) (w.alloc (.cells #[.pointer (some ⟨k, 0, none⟩)] tyTreeP)) 58 ty tyTreeP i0 (.pointer none) Tryz.underlying58 hi hz0 ⟨w.heap.size, 0, none⟩ 1 1 [.pointer (some ⟨k, 0, none⟩)] (by rw [hz1]; rfl) hnews (by omega) (by omega) (by rw [hz2]; omega)
      rw [hr] at h
      simp only [Result.ok.injEq] at h
      rw [h.1] at hgv
      simp [Value.ownBlock] at hgv
      omega
    · by_cases hroom : ns.length + 1 ≤ cap
      · have h := run_append_room (P := Tryz.prog) (w.alloc (.cells #[.pointer (some ⟨k, 0, none⟩)] tyTreeP)) 58 ty tyTreeP i0 Tryz.underlying58 hi g0 ns.length cap cur hg ⟨w.heap.size, 0, none⟩ 1 1 [.pointer (some ⟨k, 0, none⟩)] (by rw [hz1]; rfl) hnews h1 hroom (by rw [hcs, hz1]; simp only [List.length_cons, List.length_nil]; omega)
        rw [hr] at h
        simp only [Result.ok.injEq] at h
        rw [h.1] at hgv
        exact Or.inl hgv
      · have h := run_append_grow (P := Tryz.prog) (w.alloc (.cells #[.pointer (some ⟨k, 0, none⟩)] tyTreeP)) 58 ty tyTreeP i0 (.pointer none) Tryz.underlying58 hi hz0 ⟨g0, 0, none⟩ ns.length cap (ns.map ptrV) (by rw [hz1]; exact hown.1) (hown1.cells (g := g0) rfl) ⟨w.heap.size, 0, none⟩ 1 1 [.pointer (some ⟨k, 0, none⟩)] (by rw [hz1]; rfl) hnews (by omega) (by omega) (growslice_fits (by omega) (by rw [hz2]; omega))
        rw [hr] at h
        simp only [Result.ok.injEq] at h
        rw [h.1] at hgv
        simp [Value.ownBlock] at hgv
        omega
  · rcases ownsRow_forms ho2 with ⟨_, hn0⟩ | h
    · simp at hn0
    · exact h

theorem append_ptr {ops : Array Oper} {rest : List Oper} {o : Oper} {a : Act} {Q : Exit → Act → World → Prop} {w : World} (hgd : o.guard = none) (s x : Operand)
    (ho : o.op = .call { callee := .builtin .append, args := #[s, x], argTypes := #[58, 58] }) {base : Nat} {v : Value} {ns : List Nat} (k : Nat)
    (hown : w.ownsRow base tyTreeP 1 v ns.length (ns.map ptrV)) (hn : ns.length ≤ 100000000) (hb : base ≤ w.heap.size) (hs : a.eval s = v) (hx : a.eval x = .slice (some ⟨w.heap.size, 0, none⟩) 1 1)
    (h : ∀ v' w', w'.ownsRow base tyTreeP 1 v' (ns ++ [k]).length ((ns ++ [k]).map ptrV) → (w.alloc (.cells #[.pointer (some ⟨k, 0, none⟩)] tyTreeP)).grownBy w' v.ownBlock → Hid (∀ g, v'.ownBlock = some g → v.ownBlock = some g ∨ w.heap.size < g) → wpList Tryz.prog ops Q rest (a.put o.dst v') w') :
    wpList Tryz.prog ops Q (o :: rest) a (w.alloc (.cells #[.pointer (some ⟨k, 0, none⟩)] tyTreeP)) := by
  obtain ⟨v', w', hr, h2, h3, h4, _⟩ := run_append_ptr (ty := o.type) k hown hn hb
  refine wpList_plain hgd fun K hK => ?_
  unfold Oper.wp execOp
  simp only [ho, resolve, invoke, builtin, Sem.run_bind, Sem.run_pure, Result.andThen_ok, List.map_toArray, List.map_cons, List.map_nil, hs, hx, hr]
  exact hK _ _ (h v' w' h2 h3 h4)


theorem ptr1 (w : World) (a : Nat) : (w.alloc (.cells #[.pointer (some ⟨a, 0, none⟩)] tyTreeP)).ownsRow w.heap.size tyTreeP 1 (.slice (some ⟨w.heap.size, 0, none⟩) 1 1) [a].length ([a].map ptrV) :=
  World.ownsRow_lit (base := w.heap.size) (size := 1) w _ 1 (Nat.le_refl _) (by unfold maxLen; omega) rfl

theorem ptr2 (w : World) (a b : Nat) : (w.alloc (.cells #[.pointer (some ⟨a, 0, none⟩), .pointer (some ⟨b, 0, none⟩)] tyTreeP)).ownsRow w.heap.size tyTreeP 1 (.slice (some ⟨w.heap.size, 0, none⟩) 2 2) [a, b].length ([a, b].map ptrV) :=
  World.ownsRow_lit (base := w.heap.size) (size := 1) w _ 2 (Nat.le_refl _) (by unfold maxLen; omega) rfl

theorem ptr3 (w : World) (a b c : Nat) : (w.alloc (.cells #[.pointer (some ⟨a, 0, none⟩), .pointer (some ⟨b, 0, none⟩), .pointer (some ⟨c, 0, none⟩)] tyTreeP)).ownsRow w.heap.size tyTreeP 1 (.slice (some ⟨w.heap.size, 0, none⟩) 3 3) [a, b, c].length ([a, b, c].map ptrV) :=
  World.ownsRow_lit (base := w.heap.size) (size := 1) w _ 3 (Nat.le_refl _) (by unfold maxLen; omega) rfl

theorem ptr0 (w : World) : w.ownsRow w.heap.size tyTreeP 1 (.slice none 0 0) ([] : List Nat).length (([] : List Nat).map ptrV) := World.ownsRow_nil _ _ _ _

theorem ownsRow_base {w : World} {b b' : Nat} {t : TypeId} {size : Nat} {v : Value} {n : Nat} {xs : List Value} (h : w.ownsRow b t size v n xs) (hb : b' ≤ b) : w.ownsRow b' t size v n xs := by
  refine ⟨h.1, ?_⟩
  rcases h.2 with hn | ⟨g, cap, cur, rfl, hbg, rest⟩
  · exact .inl hn
  · exact .inr ⟨g, cap, cur, rfl, Nat.le_trans hb hbg, rest⟩

end Go.Proofs.YtnocnkblhjifjaaGreatDoor
