import Derived.Test.YtnocnkblhjifjaaGreatDoorMPBind
import Derived.RangeFuncFrom
import Derived.RangeFuncBox
import Derived.RangeFuncCalls
import Derived.RangeFuncLeaves
import Derived.Shelf.Abstract
import Derived.Shelf.RegionOpen
import Derived.WalkKit
import Derived.OwnWalkIn
import Derived.TacticsInMore
import Derived.LoopNIn
import Derived.LoopIn
/-
  slices.Backward at texts: its contract as an iterator; parse.functionOf.
-/
namespace Go.Proofs.YtnocnkblhjifjaaGreatDoor
open Go.RowKit Go.Shelf

attribute [local go_sem] Oper.semAt_some

/-- What comes: the places from the last one down, with their texts. -/
def backAt (l : Toks) (j : Nat) : Int × List UInt8 := ((l.length : Int) - 1 - j, l[l.length - 1 - j]?.getD [])
def backTo (l : Toks) (k : Nat) : List (Int × List UInt8) := (List.range k).map (backAt l)
theorem backTo_succ (l : Toks) (k : Nat) : backTo l (k + 1) = backTo l k ++ [backAt l k] := by simp [backTo, List.range_succ]
theorem backTo_length (l : Toks) (k : Nat) : (backTo l k).length = k := by simp [backTo]

def encB (x : Int × List UInt8) : Array Value := #[.int .i64 x.1, .string (bs x.2)]

/-- What a round keeps: all blocks below N but the block B. -/
def KeepB (B N : Nat) (W W' : World) : Prop := W.heap.size ≤ W'.heap.size ∧ ∀ k, k < N → k ≠ B → W'.heap[k]? = W.heap[k]?

theorem KeepB.trans {B N : Nat} {a b c : World} (h : KeepB B N a b) (k : KeepB B N b c) : KeepB B N a c := ⟨Nat.le_trans h.1 k.1, fun i hi hB => (k.2 i hi hB).trans (h.2 i hi hB)⟩

set_option maxRecDepth 100000 in
set_option maxHeartbeats 2000000 in
theorem back1_in (F : Fence) (n : Nat) (hf : F.fn 313) (hro : F.round = none) (hn : 1 ≤ n) (lr Bs B N g cap : Nat) (l : Toks) (hl : l.length ≤ 4001) (hg : g < N) (hgB : g ≠ B) (hBs : Bs < N) (hBsB : Bs ≠ B) (J Jx : List (Int × List UInt8) → World → Prop)
    (hY : ∀ pre x W, J pre W → pre.length < l.length → YieldAt F (n - 1) Tryz.prog lr (encB x) W fun e W' =>
      (e = .returned (.bool true) ∧ J (pre ++ [x]) W' ∧ KeepB B N W W') ∨ (e = .returned (.bool false) ∧ Jx (pre ++ [x]) W'))
    (W : World) (cur : Array Value) (hBs1 : W.heap[Bs]? = some (.cells #[.slice (some ⟨g, 0, none⟩) l.length cap] 22 (0, 0))) (hg1 : W.heap[g]? = some (.cells cur tyStr (0, 0))) (hc : ∀ (j : Nat) (t : List UInt8), l[j]? = some t → cur[j]? = some (strV t)) (h0 : J [] W) :
    CallsIn F n Tryz.prog 313 #[.func (.yield lr) #[] #[], .pointer (some ⟨Bs, 0, none⟩)] W fun e W' => (∃ v, e = .returned v) ∧
      ((∃ ys, ys = backTo l l.length ∧ J ys W') ∨ (∃ pre, (∃ k, k ≤ l.length ∧ pre = backTo l k) ∧ Jx pre W')) := by
  refine callsIn_of_wp Tryz.func313 rfl hf ?_ hro
  simp only [Tryz.ntmps313, List.size_toArray, List.length_cons, List.length_nil, Nat.reduceAdd, Nat.reduceSub, Array.replicate_succ, Array.replicate_zero, List.push_toArray, List.append_toArray, List.nil_append, List.cons_append]
  have cB : W.cell? ⟨Bs, 0, none⟩ = some (.slice (some ⟨g, 0, none⟩) l.length cap) := by simp [World.cell?, hBs1]
  gi_wp2
  gi_loopw [3] (fun i wr => ∃ k : Nat, k ≤ l.length ∧ i = .int .i64 ((l.length : Int) - 1 - k) ∧ J (backTo l k) wr ∧ KeepB B N W wr)
    (fun i _ => (intOf i + 1).toNat)
  case atStart => exact ⟨0, Nat.zero_le _, by simp, h0, ⟨Nat.le_refl _, fun _ _ _ => rfl⟩⟩
  case round =>
    obtain ⟨k, hk, rfl, hJs, hnx⟩ := hrel
    have eB : wr.cell? ⟨Bs, 0, none⟩ = some (.slice (some ⟨g, 0, none⟩) l.length cap) := by simp [World.cell?, hnx.2 Bs hBs hBsB, hBs1]
    by_cases hlt : k < l.length
    · have hx := hY _ (backAt l k) wr hJs (by rw [backTo_length]; exact hlt)
      have hj : l.length - 1 - k < l.length := by omega
      obtain ⟨tk, htk⟩ : ∃ tk, l[l.length - 1 - k]? = some tk := ⟨_, List.getElem?_eq_getElem hj⟩
      have hba : backAt l k = ((l.length : Int) - 1 - k, tk) := by unfold backAt; rw [htk]; rfl
      have hcell : wr.cell? ⟨g, l.length - 1 - k, none⟩ = some (.string (bs tk)) := by
        have := hc (l.length - 1 - k) tk htk
        simp [World.cell?, hnx.2 g hg hgB, hg1]
        simpa [strV] using this
      rw [hba] at hx
      have hbs : backTo l (k + 1) = backTo l k ++ [((l.length : Int) - 1 - k, tk)] := by rw [backTo_succ, hba]
      clear htk hba
      obtain ⟨fn, tmps, assign, body, hy, hR⟩ := hx
      unfold encB at hy
      have hi1 : (0 : Int) ≤ (l.length : Int) - 1 - k := by omega
      have hi2 : ((l.length : Int) - 1 - k).toNat = l.length - 1 - k := by omega
      have hi3 : (l.length : Int) - 1 - k < (l.length : Int) := by omega
      gi_wp2
      refine hR.mono ?_
      rintro e W3 (⟨rfl, hJ3, hk3⟩ | ⟨rfl, hJx3⟩)
      · gi_wp2
        go_roundw
        case rel => exact ⟨k + 1, by omega, by simp; omega, by rw [hbs]; exact hJ3, hnx.trans hk3⟩
        case measure => simp [intOf]; omega
      · gi_wp2
        refine bodyPost_ret (results_none rfl _ _ _) rfl ?_
        exact ⟨⟨_, rfl⟩, .inr ⟨_, ⟨k + 1, by omega, hbs.symm⟩, hJx3⟩⟩
    · obtain rfl : k = l.length := by omega
      have hi1 : ¬ (0 : Int) ≤ (l.length : Int) - 1 - l.length := by omega
      gi_wp2
      go_end0
      exact ⟨⟨_, rfl⟩, .inl hJs⟩

set_option maxHeartbeats 1000000 in
theorem back1_nil (F : Fence) (n : Nat) (hf : F.fn 313) (hro : F.round = none) (lr Bs : Nat) (J : List (Int × List UInt8) → World → Prop) (W : World) (hBs : W.cell? ⟨Bs, 0, none⟩ = some (.slice none 0 0)) (h0 : J [] W) :
    CallsIn F n Tryz.prog 313 #[.func (.yield lr) #[] #[], .pointer (some ⟨Bs, 0, none⟩)] W fun e W' => (∃ v, e = .returned v) ∧ J [] W' := by
  refine callsIn_of_wp Tryz.func313 rfl hf ?_ hro
  simp only [Tryz.ntmps313, List.size_toArray, List.length_cons, List.length_nil, Nat.reduceAdd, Nat.reduceSub, Array.replicate_succ, Array.replicate_zero, List.push_toArray, List.append_toArray, List.nil_append, List.cons_append]
  gi_wp2
  gi_loopw [3] (fun i wr => i = .int .i64 (-1) ∧ J [] wr) (fun _ _ => 0)
  case atStart => exact ⟨rfl, h0⟩
  case round =>
    obtain ⟨rfl, hJs⟩ := hrel
    gi_wp2
    go_end0
    exact ⟨⟨_, rfl⟩, hJs⟩

set_option maxHeartbeats 1000000 in
theorem back_in (F : Fence) (n : Nat) (hf : F.fn 265) (hro : F.round = none) (a : Option Addr) (len cap : Nat) (w : World) :
    CallsIn F n Tryz.prog 265 #[.slice a len cap] w fun e w' => e = .returned (.func (.func 313) #[] #[.pointer (some ⟨w.heap.size, 0, none⟩)]) ∧ w' = w.alloc (.cells #[.slice a len cap] 22) := by
  refine callsIn_of_wp Tryz.func265 rfl hf ?_ hro
  simp only [Tryz.ntmps265, List.size_toArray, List.length_cons, List.length_nil, Nat.reduceAdd, Nat.reduceSub, Array.replicate_succ, Array.replicate_zero, List.push_toArray, List.append_toArray, List.nil_append, List.cons_append]
  gi_wp2
  go_ret
  exact ⟨rfl, rfl⟩

/-- The slice of texts, in memory below N, not in the block B. -/
def TextsAt (B N : Nat) (W : World) (sv : Value) (l : Toks) : Prop :=
  (sv = .slice none 0 0 ∧ l = []) ∨ ∃ g cap cur, sv = .slice (some ⟨g, 0, none⟩) l.length cap ∧ g < N ∧ g ≠ B ∧ W.heap[g]? = some (.cells cur tyStr (0, 0)) ∧ ∀ (j : Nat) (t : List UInt8), l[j]? = some t → cur[j]? = some (strV t)

theorem back_stops (F : Fence) (n : Nat) (hf : F.fn 313) (hro : F.round = none) (hn : 1 ≤ n) (Bs B : Nat) (sv : Value) (l : Toks) (hl : l.length ≤ 4001) (w : World) (hBs : Bs < w.heap.size) (hBsB : Bs ≠ B)
    (hc : w.heap[Bs]? = some (.cells #[sv] 22 (0, 0))) (hT : TextsAt B w.heap.size w sv l) :
    SeqStopsK F n Tryz.prog 313 #[.pointer (some ⟨Bs, 0, none⟩)] encB (KeepB B w.heap.size) (fun ys => ys = backTo l l.length) (fun pre => ∃ k, pre = backTo l k) l.length w := fun lr J Jx W hW _ _ hY h0 => by
  have hc' := (hW.block Bs hBs).trans hc
  rcases hT with ⟨rfl, rfl⟩ | ⟨g, cap, cur, rfl, hg, hgB, hgg, hcs⟩
  · exact (back1_nil F n hf hro lr Bs J W (by simp [World.cell?, hc']) h0).mono fun e W' ⟨he, hj⟩ => ⟨he, .inl ⟨_, rfl, hj⟩⟩
  · refine (back1_in F n hf hro hn lr Bs B w.heap.size g cap l hl hg hgB hBs hBsB J Jx hY W cur hc' ((hW.block g hg).trans hgg) hcs h0).mono ?_
    rintro e W' ⟨he, ⟨ys, rfl, hj⟩ | ⟨pre, ⟨k, hk, rfl⟩, hj⟩⟩
    · exact ⟨he, .inl ⟨_, rfl, hj⟩⟩
    · exact ⟨he, .inr ⟨_, ⟨k, rfl⟩, hj⟩⟩

/-- Functions of functions, the names as they come. -/
def funsOf (t : Tr) (pre : List (Int × List UInt8)) : Tr := pre.foldl (fun z x => .mk K.fun_ x.2 [z]) t

theorem funsOf_snoc (t : Tr) (pre : List (Int × List UInt8)) (x : Int × List UInt8) : funsOf t (pre ++ [x]) = .mk K.fun_ x.2 [funsOf t pre] := by simp [funsOf]

theorem curried_back : ∀ (l : Toks) (t : Tr), G.curried l t = l.reverse.foldl (fun z a => .mk K.fun_ a [z]) t := by
  intro l
  induction l with
  | nil => intro t; rfl
  | cons a r ih => intro t; rw [G.curried, ih, List.reverse_cons, List.foldl_append]; rfl

theorem backTo_all (l : Toks) : (backTo l l.length).map (·.2) = l.reverse := by
  apply List.ext_getElem
  · simp [backTo]
  · intro i h1 h2
    have hi : i < l.length := by simpa [backTo] using h1
    simp [backTo, backAt, List.getElem_reverse]
    rw [List.getElem?_eq_getElem (by omega)]
    rfl

theorem funsOf_all (l : Toks) (t : Tr) : funsOf t (backTo l l.length) = G.curried l t := by
  rw [curried_back, ← backTo_all, List.foldl_map]
  rfl

/-- What the loop holds between two rounds. -/
def FunAt (w0 w : World) (t : Tr) (pre : List (Int × List UInt8)) (W : World) : Prop :=
  ∃ b', W.heap[w.heap.size]? = some (.cells #[ptrV b'] tyTreeP (0, 0)) ∧ Mem (fun g => w0.heap.size ≤ g ∧ g ≠ w.heap.size) W 0 (funsOf t pre) b' ∧ Below w.heap.size w W ∧ w.heap.size + 2 ≤ W.heap.size

theorem funAt_own (w0 w : World) (t : Tr) (B : Nat) (hB : w.heap.size ≤ B) : OwnFrom B (FunAt w0 w t) := by
  rintro s W W' row ⟨b', h1, h2, h3, h4⟩ hg hr
  have hk : ∀ (k : Nat) (c : Array Value) (T : TypeId) (f : Nat × Nat), W.heap[k]? = some (.cells c T f) → W'.heap[k]? = W.heap[k]? := by
    intro k c T f he
    refine hg.block k (lt_of_heap he) (fun e => ?_)
    obtain ⟨_, o, ho, hc⟩ := hr k e.symm
    rw [he] at ho
    obtain rfl := Option.some.inj ho
    simp [Obj.isCells] at hc
  refine ⟨b', by rw [hk _ _ _ _ h1]; exact h1, h2.kept (fun k c f he => hk k c _ f he) (fun k c f hA he => ⟨hk k c _ f he, hA⟩), h3.grown hg h3.size (fun k e => Nat.le_trans hB (hr k e).1), Nat.le_trans h4 hg.size⟩

set_option maxRecDepth 100000 in
set_option maxHeartbeats 4000000 in
theorem funOf_any : FunOf := by
  intro w0 w v l t b hw hv hl hm
  have hT : TextsAt w.heap.size (w.heap.size + 2) ((w.alloc (.cells #[ptrV b] tyTreeP)).alloc (.cells #[v] 22)) v l := by
    rcases hv.2 with ⟨rfl, hn0⟩ | ⟨g, cap, cur, rfl, hbg, hgg, hnc, hcm, hcs, htake⟩
    · exact Or.inl ⟨rfl, List.length_eq_zero_iff.1 hn0⟩
    · have hgl := lt_of_heap hgg
      refine Or.inr ⟨g, cap, cur, rfl, by omega, by omega, by rw [Below.heap_alloc _ _ _ (by simp; omega), Below.heap_alloc _ _ _ hgl]; exact hgg, fun j tk hj => ?_⟩
      have hil : j < l.length := by
        by_cases hil : j < l.length
        · exact hil
        · rw [List.getElem?_eq_none (by omega)] at hj; cases hj
      have h1 : (l.map strV)[j]? = some (strV tk) := by rw [List.getElem?_map, hj]; rfl
      rw [← htake, List.getElem?_take, if_pos (by omega)] at h1
      rw [← Array.getElem?_toList]; exact h1
  have hFA : FunAt w0 w t [] ((w.alloc (.cells #[ptrV b] tyTreeP)).alloc (.cells #[v] 22)) := by
    refine ⟨b, ?_, ((hm.wide (A' := fun g => w0.heap.size ≤ g ∧ g ≠ w.heap.size) fun k hf hlt => ⟨hf, by omega⟩).alloc _).alloc _, ((Below.refl _ w).alloc (Nat.le_refl _) _).alloc (by simp) _, by simp⟩
    rw [Below.heap_alloc _ _ _ (by simp)]
    simp only [World.alloc, Array.getElem?_push_size]
  obtain ⟨va, vn, vc, rfl⟩ : ∃ a n c, v = .slice a n c := by
    rcases ownsRow_forms hv with ⟨rfl, _⟩ | ⟨g, cap, rfl⟩
    · exact ⟨_, _, _, rfl⟩
    · exact ⟨_, _, _, rfl⟩
  have HT := hide hT
  have HFA := hide hFA
  clear hT hFA hv hm
  unfold ptrV at *
  refine (callsIn_wide (n := 3)).1 ?_
  refine callsIn_of_wp_marks Tryz.func205 rfl trivial ?_ rfl
  simp only [Tryz.ntmps205, List.size_toArray, List.length_cons, List.length_nil, Nat.reduceAdd, Nat.reduceSub, Array.replicate_succ, Array.replicate_zero, List.push_toArray, List.append_toArray, List.nil_append, List.cons_append]
  gi_wp2_with (refine ⟨trivial, ?_⟩; gi_at_call 265; refine (back_in Fence.wide _ trivial rfl _ _ _ _).mono ?_; rintro e w' ⟨rfl, rfl⟩)
  have hsz : ((w.alloc (.cells #[.pointer (some ⟨b, 0, none⟩)] tyTreeP)).alloc (.cells #[.slice va vn vc] 22)).heap.size = w.heap.size + 2 := by simp
  have hst := back_stops Fence.wide (3 - 1) trivial rfl (by omega) (w.heap.size + 1) w.heap.size (.slice va vn vc) l hl ((w.alloc (.cells #[.pointer (some ⟨b, 0, none⟩)] tyTreeP)).alloc (.cells #[.slice va vn vc] 22)) (by simp) (by omega)
    (by rw [show w.heap.size + 1 = (w.alloc (.cells #[.pointer (some ⟨b, 0, none⟩)] tyTreeP)).heap.size by simp]; simp only [World.alloc, Array.getElem?_push_size]) (by rw [hsz]; exact HT.out)
  refine wpIn_rangeFunc_ownF rfl (by omega) (gf := 313) (lb := #[.pointer (some ⟨w.heap.size + 1, 0, none⟩)]) ?hg trivial (enters_of Tryz.func313 (by kernel_rfl) rfl)
    hst (fun h k => h.trans k) ?hkb (Below.refl _ _) (fun _ => rfl) (FunAt w0 w t) (fun _ _ _ => False) (funAt_own w0 w t _ (by simp; omega)) (fun _ _ _ _ _ hs _ _ => hs) HFA.out
    (fun x => { tmps := #[.slice va vn vc, .pointer (some ⟨b, 0, none⟩), undef, .pointer (some ⟨w.heap.size, 0, none⟩), .pointer none, undef, .string (bs x.2), .slice va vn vc, .func (.func 313) #[] #[.pointer (some ⟨w.heap.size + 1, 0, none⟩)], .int .i64 x.1, .string (bs x.2), undef, undef, undef, undef, undef], defers := [] }) ?assign ?body ?done ?stop
  case hg => rfl
  case hkb =>
    intro W k o o' hk ho _ _
    have hk2 : w.heap.size + 2 ≤ k := by simpa using hk
    refine ⟨by simp, fun i hi _ => World.putObj_heap_other ?_⟩
    rw [hsz] at hi
    omega
  case assign =>
    intro lr x W K hK
    unfold encB
    gi_wp2
    exact hK
  case body =>
    rintro lr pre x W ⟨b', h1, h2, h3, h4⟩ _
    have c0 : W.cell? ⟨w.heap.size, 0, none⟩ = some (.pointer (some ⟨b', 0, none⟩)) := by simp [World.cell?, h1, ptrV]
    have f0 : W.frozen? ⟨w.heap.size, 0, none⟩ = false := by simp [World.frozen?, h1]
    have HN := hide (New1 W b' 5 (bs x.2))
    have hb1 : (w1P W b' 5 (bs x.2)).heap[w.heap.size]? = some (.cells #[ptrV b'] tyTreeP (0, 0)) := by
      unfold w1P
      rw [Below.heap_alloc _ _ _ (by simp; omega), Below.heap_alloc _ _ _ (by omega)]; exact h1
    have hnext : FunAt w0 w t (pre ++ [x]) ((w1P W b' 5 (bs x.2)).setCell ⟨w.heap.size, 0, none⟩ (.pointer (some ⟨W.heap.size + 1, 0, none⟩))) := by
      have hrow := ptr1 W b'
      have hmk := Mem.made (A := fun g => w0.heap.size ≤ g ∧ g ≠ w.heap.size) (c := 0) (is := K.fun_) (name := x.2) (ts := [funsOf t pre]) (KindOf.fun_ x.2) (ownsRow_base hrow (Nat.zero_le _)) (fun g hg => by
        have : W.heap.size = g := by simpa [Value.ownBlock] using hg
        omega) (.cons (h2.alloc _) .nil)
      have hz : (W.alloc (.cells #[.pointer (some ⟨b', 0, none⟩)] tyTreeP)).heap.size = W.heap.size + 1 := by simp
      rw [hz] at hmk
      refine ⟨W.heap.size + 1, ?_, ?_, ?_, ?_⟩
      · simp only [World.setCell, Array.getElem?_modify, if_pos, hb1, Option.map_some, Option.isSome_none, Bool.false_eq_true, if_false]
        simp [ptrV]
      · rw [funsOf_snoc]
        refine Mem.kept (fun k c f he => Below.heap_setCell _ _ _ _ (fun e => ?_)) (fun k c f hA he => ⟨Below.heap_setCell _ _ _ _ hA.2, hA⟩) hmk
        subst e
        have he2 : (w1P W b' 5 (bs x.2)).heap[w.heap.size]? = some (.cells c tyTree f) := he
        rw [hb1] at he2; simp at he2
        exact absurd he2.2.1 (by decide)
      · unfold w1P
        exact ((h3.alloc h3.size _).alloc (by simp; omega) _).setCell (Nat.le_refl _) _
      · unfold w1P
        simp [World.setCell]; omega
    have HNX := hide hnext
    have HKO := hide (show KeepsOthers W ((w1P W b' 5 (bs x.2)).setCell ⟨w.heap.size, 0, none⟩ (.pointer (some ⟨W.heap.size + 1, 0, none⟩))) from ((KeepsOthers.alloc _ _).trans (KeepsOthers.alloc _ _)).trans (KeepsOthers.setCell _ _ _))
    have HKB := hide (show KeepB w.heap.size ((w.alloc (.cells #[.pointer (some ⟨b, 0, none⟩)] tyTreeP)).alloc (.cells #[.slice va vn vc] 22)).heap.size W ((w1P W b' 5 (bs x.2)).setCell ⟨w.heap.size, 0, none⟩ (.pointer (some ⟨W.heap.size + 1, 0, none⟩))) from by
      refine ⟨by unfold w1P; simp [World.setCell]; omega, fun k hk hne => ?_⟩
      rw [hsz] at hk
      rw [Below.heap_setCell _ _ _ _ hne]
      unfold w1P
      rw [Below.heap_alloc _ _ _ (by simp; omega), Below.heap_alloc _ _ _ (by omega)])
    have c1 : (w1P W b' 5 (bs x.2)).cell? ⟨w.heap.size, 0, none⟩ = some (.pointer (some ⟨b', 0, none⟩)) := by simp [World.cell?, hb1, ptrV]
    have f1 : (w1P W b' 5 (bs x.2)).frozen? ⟨w.heap.size, 0, none⟩ = false := by simp [World.frozen?, hb1]
    unfold ptrV at HN
    clear hb1
    clear h1 h2 h3 h4 hnext
    gi_wp2_with (refine ⟨trivial, ?_⟩; gi_at_call 143; refine (CallsIn.inRound lr (callsIn_wide.2 HN.out)).mono ?_; rintro e w' ⟨rfl, rfl⟩)

    exact ⟨HKO.out, HKB.out, HNX.out⟩
  case done =>
    rintro D xs W hD rfl ⟨b', h1, h2, h3, h4⟩ hK
    have c0 : W.cell? ⟨w.heap.size, 0, none⟩ = some (.pointer (some ⟨b', 0, none⟩)) := by simp [World.cell?, h1, ptrV]
    rw [funsOf_all] at h2
    have hDn : ∀ (k : Nat) (c : Array Value) (T : TypeId) (f : Nat × Nat), W.heap[k]? = some (.cells c T f) → (W.putObj D (.deferred none)).heap[k]? = W.heap[k]? := by
      intro k c T f he
      refine World.putObj_heap_other (fun e => ?_)
      subst e
      rw [he] at hK; cases hK
    have HM := hide (show Mem (From w0) (W.putObj D (.deferred none)) 0 (G.curried l t) b' from h2.kept (fun k c f he => hDn k c _ f he) (fun k c f hA he => ⟨hDn k c _ f he, hA.1⟩))
    have HB := hide (show Below w.heap.size w (W.putObj D (.deferred none)) from h3.trans (belowK_b (w := w) (Nat.le_refl _) W D _ _ (by simp at hD; omega) hK rfl rfl))
    clear h1 h2 h3 h4 hDn
    gi_wp2
    refine ⟨by simp, .inl ⟨_, _, rfl, run_takeDeferred hK, ?_⟩⟩
    exact ⟨_, results_tmp rfl _ _ _, b', rfl, HM.out, HB.out⟩
  case stop =>
    rintro D c pre W _ _ h _
    exact h.elim

end Go.Proofs.YtnocnkblhjifjaaGreatDoor
