import Derived.Test.YtnocnkblhjifjaaGreatDoorMRefNumber
/-
  (*kilnref.Reader).Text by its contract: a tree's text.
-/
namespace Go.Proofs.YtnocnkblhjifjaaGreatDoor
open Go.RowKit

/-- What stands in the brackets ahead of the parts. -/
def headP (x : NodeP) : List UInt8 := bif x.is == K.named_ then 40 :: x.name else bif x.name == [] then 40 :: x.is else 40 :: x.is ++ 32 :: x.name

def leafB (x : NodeP) : Bool := x.is == K.num_ || x.is == K.var_ || x.is == K.const_

/-- A tree's text. -/
def textP (ns : List NodeP) : Nat → Nat → List UInt8
  | 0, _ => []
  | n + 1, i => bif leafB (ns.getD i ⟨[], [], [], 0⟩) then (ns.getD i ⟨[], [], [], 0⟩).name else headP (ns.getD i ⟨[], [], [], 0⟩) ++ ((ns.getD i ⟨[], [], [], 0⟩).parts.flatMap fun p => 32 :: textP ns n p) ++ [41]

/-- Of the nodes that P speaks of: parts come ahead of what they are parts of, and P speaks of them too. -/
def Wf (P : Nat → Prop) (ns : List NodeP) : Prop := ∀ (i : Nat) (x : NodeP), P i → ns[i]? = some x → ∀ p ∈ x.parts, p < i ∧ P p

theorem flat_cells : ∀ (ns : List NodeP) (pvs : List Value) (i : Nat) (x : NodeP) (pv : Value), ns[i]? = some x → pvs[i]? = some pv →
    (List.zipWith nodeV ns pvs).flatten[i * 4]? = some (.string (bs x.is)) ∧ (List.zipWith nodeV ns pvs).flatten[i * 4 + 1]? = some (.string (bs x.name)) ∧ (List.zipWith nodeV ns pvs).flatten[i * 4 + 2]? = some pv ∧ (List.zipWith nodeV ns pvs).flatten[i * 4 + 3]? = some (.int .i64 x.mt) := by
  intro ns
  induction ns with
  | nil => intro pvs i x pv h; simp at h
  | cons y ns ih =>
    intro pvs i x pv h1 h2
    cases pvs with
    | nil => simp at h2
    | cons q pvs =>
      rw [List.zipWith_cons_cons, List.flatten_cons]
      cases i with
      | zero => simp at h1 h2; subst h1; subst h2; simp [nodeV]
      | succ i =>
        have := ih pvs i x pv (by simpa using h1) (by simpa using h2)
        have hl : (nodeV y q).length = 4 := rfl
        refine ⟨?_, ?_, ?_, ?_⟩
        · rw [List.getElem?_append_right (by omega), hl, show (i + 1) * 4 - 4 = i * 4 by omega]; exact this.1
        · rw [List.getElem?_append_right (by omega), hl, show (i + 1) * 4 + 1 - 4 = i * 4 + 1 by omega]; exact this.2.1
        · rw [List.getElem?_append_right (by omega), hl, show (i + 1) * 4 + 2 - 4 = i * 4 + 2 by omega]; exact this.2.2.1
        · rw [List.getElem?_append_right (by omega), hl, show (i + 1) * 4 + 3 - 4 = i * 4 + 3 by omega]; exact this.2.2.2

theorem bs_app (x y : List UInt8) : bs x ++ bs y = bs (x ++ y) := by
  apply ByteArray.ext
  simp [bs]

theorem bs_size' (x : List UInt8) : (bs x).size = x.length := rfl

theorem flat_ge (l : List Nat) (f : Nat → List UInt8) : l.length ≤ (l.flatMap fun p => 32 :: f p).length := by
  induction l with
  | nil => simp
  | cons a r ih => simp only [List.flatMap_cons, List.length_append, List.length_cons]; omega

theorem flat_split (l : List Nat) (f : Nat → List UInt8) (j : Nat) (hj : j < l.length) : ((l.take j).flatMap fun p => 32 :: f p).length + 1 + (f l[j]).length ≤ (l.flatMap fun p => 32 :: f p).length := by
  induction l generalizing j with
  | nil => simp at hj
  | cons a r ih =>
    cases j with
    | zero => simp only [List.take_zero, List.flatMap_nil, List.length_nil, List.getElem_cons_zero, List.flatMap_cons, List.length_append, List.length_cons]; omega
    | succ j =>
      have := ih j (by simpa using hj)
      simp only [List.take_succ_cons, List.flatMap_cons, List.length_append, List.length_cons, List.getElem_cons_succ] at *
      omega

theorem flat_mem (l : List Nat) (f : Nat → List UInt8) (p : Nat) (hp : p ∈ l) : (f p).length ≤ (l.flatMap fun p => 32 :: f p).length := by
  obtain ⟨j, hj, rfl⟩ := List.getElem_of_mem hp
  have := flat_split l f j hj
  omega

set_option maxRecDepth 100000 in
set_option maxHeartbeats 2000000 in
theorem text_any (T : List (List UInt8)) (rb : Nat) (lv : Value) (e : Nat) (X : Nat → Prop) (s : RS) (P : Nat → Prop) (hW : Wf P s.nodes) (hcap : s.nodes.length ≤ 1000000) : ∀ (N i : Nat) (w : World), i < N → i < s.nodes.length → P i → (textP s.nodes N i).length ≤ 9223372036854775807 → Rd T rb lv e X s w →
    Calls Tryz.prog 55 #[.pointer (some ⟨rb, 0, none⟩), .int .i64 i] w fun e' w' => e' = .returned (.string (bs (textP s.nodes N i))) ∧ Below w.heap.size w w' := by
  intro N
  induction N with
  | zero => intro i w hi; omega
  | succ n ih =>
    intro i w hi hil hPi hLen h
    obtain ⟨nv, pvs, hb, hn⟩ := h.own
    have hlt := h.lt
    obtain ⟨x, hx⟩ : ∃ x, s.nodes[i]? = some x := ⟨s.nodes[i], List.getElem?_eq_getElem hil⟩
    obtain ⟨pv, hpv⟩ : ∃ pv, pvs[i]? = some pv := ⟨pvs[i]'(by rw [hn.len]; exact hil), List.getElem?_eq_getElem (by rw [hn.len]; exact hil)⟩
    have hpar := hn.parts i x pv hx hpv
    have hWx := hW i x hPi hx
    rcases ownsRow_forms hn.row with ⟨_, hz⟩ | ⟨g, cap, rfl⟩
    · omega
    have hgl := (hn.row.lt g rfl).2
    have c4 : w.cell? ⟨rb, 4, none⟩ = some (.slice (some ⟨g, 0, none⟩) s.nodes.length cap) := by simp [World.cell?, hb, rdCells]
    have hfc := flat_cells s.nodes pvs i x pv hx hpv
    have n0 := (hn.row.cellAt (i * 4) (by omega)).trans hfc.1
    have n1 := (hn.row.cellAt (i * 4 + 1) (by omega)).trans hfc.2.1
    have n2 := (hn.row.cellAt (i * 4 + 2) (by omega)).trans hfc.2.2.1
    have n3 := (hn.row.cellAt (i * 4 + 3) (by omega)).trans hfc.2.2.2
    have ht : textP s.nodes (n + 1) i = bif leafB x then x.name else headP x ++ (x.parts.flatMap fun p => 32 :: textP s.nodes n p) ++ [41] := by
      rw [textP, List.getD_eq_getElem?_getD, hx]; rfl
    rw [ht] at hLen ⊢
    have HPARTS := hide hpar
    have HIH0 := hide (fun (p : Nat) (hp : p ∈ x.parts) (hpl : (textP s.nodes n p).length ≤ 9223372036854775807) (wx : World) (a : Rd T rb lv e X s wx) => ih p wx (by have := hWx p hp; omega) (by have := hWx p hp; omega) (hWx p hp).2 hpl a)
    have HR := hide h
    have t1 := toList_lit x.is [110, 117, 109]
    have t2 := toList_lit x.is [118, 97, 114]
    have t3 := toList_lit x.is [99, 111, 110, 115, 116]
    have t4 := toList_lit x.is [110, 97, 109, 101, 100]
    have hnl : s.nodes.length ≤ 1000000 := hcap
    clear h hb hn hfc ht hpar hWx ih hW hcap hx hpv
    generalize s.nodes.length = nl at *
    cases q1 : (x.is == K.num_)
    · cases q2 : (x.is == K.var_)
      · cases q3 : (x.is == K.const_)
        · have hleaf : leafB x = false := by simp [leafB, q1, q2, q3]
          rw [hleaf, cond_false] at hLen ⊢
          have HIH := hide (fun (p : Nat) (hp : p ∈ x.parts) (wx : World) (a : Rd T rb lv e X s wx) => HIH0.out p hp (by have := flat_mem x.parts (fun p => textP s.nodes n p) p hp; simp only [List.length_append] at hLen; omega) wx a)
          clear HIH0
          have u1 : ((bs x.is).toList == [110, 117, 109]) = false := t1.trans q1
          have u2 : ((bs x.is).toList == [118, 97, 114]) = false := t2.trans q2
          have u3 : ((bs x.is).toList == [99, 111, 110, 115, 116]) = false := t3.trans q3
          cases q4 : (x.is == K.named_)
          · have u4 : ((bs x.is).toList == [110, 97, 109, 101, 100]) = false := t4.trans q4
            generalize hbi : bs x.is = bi at *
            have HBI := hide hbi.symm
            cases q5 : (x.name == [])
            · have hhd : headP x = 40 :: x.is ++ 32 :: x.name := by simp [headP, q4, q5]
              have u5 : ((bs x.name).toList == []) = false := by rw [toList_lit]; exact q5
              have u6 : ((bs x.name).toList != []) = true := by rw [bne, u5]; rfl
              rw [hhd] at hLen ⊢
              have HLEN := hide hLen
              clear t1 t2 t3 t4 q1 q2 q3 q4 q5 hleaf hhd hLen hbi
              rcases ownsRow_forms HPARTS.out with ⟨rfl, hp0⟩ | ⟨gp, capp, rfl⟩
              · have hpn : x.parts = [] := List.length_eq_zero_iff.1 hp0
                rw [hpn, List.flatMap_nil, List.append_nil] at *
                have hb1 : 1 + bi.size ≤ 9223372036854775807 := by have := HLEN.out; have hbz : bi.size = x.is.length := (by rw [HBI.out]; rfl); simp only [List.length_append, List.length_cons, List.length_nil] at *; omega
                have hb2 : 1 + bi.size + 1 ≤ 9223372036854775807 := by have := HLEN.out; have hbz : bi.size = x.is.length := (by rw [HBI.out]; rfl); simp only [List.length_append, List.length_cons, List.length_nil] at *; omega
                have hb3 : 1 + bi.size + 1 + (bs x.name).size ≤ 9223372036854775807 := by have := HLEN.out; have hbz : bi.size = x.is.length := (by rw [HBI.out]; rfl); simp only [List.length_append, List.length_cons, List.length_nil, bs_size'] at *; omega
                have hb4 : 1 + bi.size + 1 + (bs x.name).size + 1 ≤ 9223372036854775807 := by have := HLEN.out; have hbz : bi.size = x.is.length := (by rw [HBI.out]; rfl); simp only [List.length_append, List.length_cons, List.length_nil, bs_size'] at *; omega
                clear HIH hp0
                go_enter Tryz.func55, Tryz.ntmps55
                go_wp2_with fail
                refine wp_loop_rounds 1 ?_
                rw [rounds_succ]
                go_wp2_with fail
                go_ret
                refine ⟨?_, (Below.refl _ _).alloc (Nat.le_refl _) _⟩
                rw [HBI.out, show (⟨#[40]⟩ : ByteArray) = bs [40] from rfl, show (⟨#[41]⟩ : ByteArray) = bs [41] from rfl, show (⟨#[32]⟩ : ByteArray) = bs [32] from rfl, bs_app, bs_app, bs_app, bs_app]; simp
              · have hb1 : 1 + bi.size ≤ 9223372036854775807 := by have := HLEN.out; have hbz : bi.size = x.is.length := (by rw [HBI.out]; rfl); simp only [List.length_append, List.length_cons, List.length_nil] at *; omega
                have hb2 : 1 + bi.size + 1 ≤ 9223372036854775807 := by have := HLEN.out; have hbz : bi.size = x.is.length := (by rw [HBI.out]; rfl); simp only [List.length_append, List.length_cons, List.length_nil] at *; omega
                have hb3 : 1 + bi.size + 1 + (bs x.name).size ≤ 9223372036854775807 := by have := HLEN.out; have hbz : bi.size = x.is.length := (by rw [HBI.out]; rfl); simp only [List.length_append, List.length_cons, List.length_nil, bs_size'] at *; omega
                have hgp := (HPARTS.out.lt gp rfl).2
                have hpl : x.parts.length ≤ 9223372036854775807 := by have := HLEN.out; have h2 := flat_ge x.parts (fun p => textP s.nodes n p); simp only [List.length_append] at *; omega
                go_enter Tryz.func55, Tryz.ntmps55
                go_wp2_with fail
                go_loopg [6, 7] x.parts.length (fun gk sv iv wr => ∃ (j : Nat) (S : ByteArray), j + gk = x.parts.length ∧ sv = .string S ∧ iv = .int .i64 j ∧ Below (w.alloc (.cells #[.string bi, .string (bs x.name), .slice (some ⟨gp, 0, none⟩) x.parts.length capp, .int .i64 x.mt] 137)).heap.size (w.alloc (.cells #[.string bi, .string (bs x.name), .slice (some ⟨gp, 0, none⟩) x.parts.length capp, .int .i64 x.mt] 137)) wr ∧ Hid (S = bs ((40 :: x.is ++ 32 :: x.name) ++ ((x.parts.take j).flatMap fun p => 32 :: textP s.nodes n p))))
                case atStart => exact ⟨0, _, by omega, rfl, rfl, Below.refl _ _, by show _ = _; rw [HBI.out, show (⟨#[40]⟩ : ByteArray) = bs [40] from rfl, show (⟨#[32]⟩ : ByteArray) = bs [32] from rfl, bs_app, bs_app, bs_app]; simp⟩
                case round =>
                  obtain ⟨j, S, hjg, rfl, rfl, hbel, HS⟩ := hrel
                  have x2 : wr.cell? ⟨w.heap.size, 2, none⟩ = some (.slice (some ⟨gp, 0, none⟩) x.parts.length capp) := by
                    rw [hbel.cell (p := ⟨w.heap.size, 2, none⟩) (by simp)]; simp
                  have hSz : S.size = ((40 :: x.is ++ 32 :: x.name) ++ ((x.parts.take j).flatMap fun p => 32 :: textP s.nodes n p)).length := by rw [HS.out]; exact bs_size' _
                  by_cases hj : j < x.parts.length
                  · have hcl : wr.cell? ⟨gp, j, none⟩ = some (.int .i64 x.parts[j]) := by
                      rw [hbel.cell (p := ⟨gp, j, none⟩) (by simp; omega), (HPARTS.out.alloc _).cellAt j (by omega)]
                      simp [hj, intV]
                    have hfl := flat_split x.parts (fun p => textP s.nodes n p) j hj
                    have hadd1 : S.size + 1 ≤ 9223372036854775807 := by have := HLEN.out; simp only [List.length_append, List.length_cons, List.length_nil] at *; omega
                    have hadd2 : S.size + 1 + (bs (textP s.nodes n x.parts[j])).size ≤ 9223372036854775807 := by have := HLEN.out; rw [bs_size']; simp only [List.length_append, List.length_cons, List.length_nil] at *; omega
                    have hc := fun (wx : World) (a : Rd T rb lv e X s wx) => HIH.out x.parts[j] (List.getElem_mem hj) wx a
                    have HS2 : Hid (S ++ ⟨#[32]⟩ ++ bs (textP s.nodes n x.parts[j]) = bs ((40 :: x.is ++ 32 :: x.name) ++ ((x.parts.take (j + 1)).flatMap fun p => 32 :: textP s.nodes n p))) := by
                      show _ = _
                      rw [HS.out, show (⟨#[32]⟩ : ByteArray) = bs [32] from rfl, bs_app, bs_app, List.take_succ_eq_append_getElem hj, List.flatMap_append]
                      simp
                    generalize bs (textP s.nodes n x.parts[j]) = tb at *
                    generalize x.parts[j] = pj at *
                    have HC := hide hc
                    clear hc hSz hfl
                    go_wp2_with fail
                    refine (HC.out _ ((HR.out.alloc _).below hbel)).mono ?_; rintro e' w2 ⟨rfl, hb2⟩
                    have hbel2 := hbel.trans (hb2.mono hbel.size)
                    clear hbel hb2 x2 hcl
                    go_wp2_with fail
                    go_roundg (x.parts.length - (j + 1))
                    case rel => exact ⟨j + 1, _, by omega, rfl, by go_num, hbel2, HS2⟩
                    case measure => omega
                  · have hje : x.parts.take j = x.parts := List.take_of_length_le (by omega)
                    rw [hje] at HS hSz
                    have hadd1 : S.size + 1 ≤ 9223372036854775807 := by have := HLEN.out; simp only [List.length_append, List.length_cons, List.length_nil] at *; omega
                    clear hSz
                    go_wp2_with fail
                    go_ret
                    refine ⟨?_, ((Below.refl _ _).alloc (Nat.le_refl _) _).trans (hbel.mono (by simp))⟩
                    rw [HS.out, show (⟨#[41]⟩ : ByteArray) = bs [41] from rfl, bs_app]
                    rfl
            · have hxn : x.name = [] := by simpa using q5
              have hhd : headP x = 40 :: x.is := by simp [headP, q4, hxn]
              rw [hhd] at hLen ⊢
              rw [hxn, bsK_nil] at n1
              have HLEN := hide hLen
              clear t1 t2 t3 t4 q1 q2 q3 q4 q5 hleaf hhd hLen hbi hxn
              rcases ownsRow_forms HPARTS.out with ⟨rfl, hp0⟩ | ⟨gp, capp, rfl⟩
              · have hpn : x.parts = [] := List.length_eq_zero_iff.1 hp0
                rw [hpn, List.flatMap_nil, List.append_nil] at *
                have hb1 : 1 + bi.size ≤ 9223372036854775807 := by have := HLEN.out; have hbz : bi.size = x.is.length := (by rw [HBI.out]; rfl); simp only [List.length_append, List.length_cons, List.length_nil] at *; omega
                have hb2 : 1 + bi.size + 1 ≤ 9223372036854775807 := by have := HLEN.out; have hbz : bi.size = x.is.length := (by rw [HBI.out]; rfl); simp only [List.length_append, List.length_cons, List.length_nil] at *; omega
                clear HIH hp0
                go_enter Tryz.func55, Tryz.ntmps55
                go_wp2_with fail
                refine wp_loop_rounds 1 ?_
                rw [rounds_succ]
                go_wp2_with fail
                go_ret
                refine ⟨?_, (Below.refl _ _).alloc (Nat.le_refl _) _⟩
                rw [HBI.out, show (⟨#[40]⟩ : ByteArray) = bs [40] from rfl, show (⟨#[41]⟩ : ByteArray) = bs [41] from rfl, bs_app, bs_app]; simp
              · have hb1 : 1 + bi.size ≤ 9223372036854775807 := by have := HLEN.out; have hbz : bi.size = x.is.length := (by rw [HBI.out]; rfl); simp only [List.length_append, List.length_cons, List.length_nil] at *; omega
                have hgp := (HPARTS.out.lt gp rfl).2
                have hpl : x.parts.length ≤ 9223372036854775807 := by have := HLEN.out; have h2 := flat_ge x.parts (fun p => textP s.nodes n p); simp only [List.length_append] at *; omega
                go_enter Tryz.func55, Tryz.ntmps55
                go_wp2_with fail
                go_loopg [6, 7] x.parts.length (fun gk sv iv wr => ∃ (j : Nat) (S : ByteArray), j + gk = x.parts.length ∧ sv = .string S ∧ iv = .int .i64 j ∧ Below (w.alloc (.cells #[.string bi, .string ⟨#[]⟩, .slice (some ⟨gp, 0, none⟩) x.parts.length capp, .int .i64 x.mt] 137)).heap.size (w.alloc (.cells #[.string bi, .string ⟨#[]⟩, .slice (some ⟨gp, 0, none⟩) x.parts.length capp, .int .i64 x.mt] 137)) wr ∧ Hid (S = bs ((40 :: x.is) ++ ((x.parts.take j).flatMap fun p => 32 :: textP s.nodes n p))))
                case atStart => exact ⟨0, _, by omega, rfl, rfl, Below.refl _ _, by show _ = _; rw [HBI.out, show (⟨#[40]⟩ : ByteArray) = bs [40] from rfl, bs_app]; simp⟩
                case round =>
                  obtain ⟨j, S, hjg, rfl, rfl, hbel, HS⟩ := hrel
                  have x2 : wr.cell? ⟨w.heap.size, 2, none⟩ = some (.slice (some ⟨gp, 0, none⟩) x.parts.length capp) := by
                    rw [hbel.cell (p := ⟨w.heap.size, 2, none⟩) (by simp)]; simp
                  have hSz : S.size = ((40 :: x.is) ++ ((x.parts.take j).flatMap fun p => 32 :: textP s.nodes n p)).length := by rw [HS.out]; exact bs_size' _
                  by_cases hj : j < x.parts.length
                  · have hcl : wr.cell? ⟨gp, j, none⟩ = some (.int .i64 x.parts[j]) := by
                      rw [hbel.cell (p := ⟨gp, j, none⟩) (by simp; omega), (HPARTS.out.alloc _).cellAt j (by omega)]
                      simp [hj, intV]
                    have hfl := flat_split x.parts (fun p => textP s.nodes n p) j hj
                    have hadd1 : S.size + 1 ≤ 9223372036854775807 := by have := HLEN.out; simp only [List.length_append, List.length_cons, List.length_nil] at *; omega
                    have hadd2 : S.size + 1 + (bs (textP s.nodes n x.parts[j])).size ≤ 9223372036854775807 := by have := HLEN.out; rw [bs_size']; simp only [List.length_append, List.length_cons, List.length_nil] at *; omega
                    have hc := fun (wx : World) (a : Rd T rb lv e X s wx) => HIH.out x.parts[j] (List.getElem_mem hj) wx a
                    have HS2 : Hid (S ++ ⟨#[32]⟩ ++ bs (textP s.nodes n x.parts[j]) = bs ((40 :: x.is) ++ ((x.parts.take (j + 1)).flatMap fun p => 32 :: textP s.nodes n p))) := by
                      show _ = _
                      rw [HS.out, show (⟨#[32]⟩ : ByteArray) = bs [32] from rfl, bs_app, bs_app, List.take_succ_eq_append_getElem hj, List.flatMap_append]
                      simp
                    generalize bs (textP s.nodes n x.parts[j]) = tb at *
                    generalize x.parts[j] = pj at *
                    have HC := hide hc
                    clear hc hSz hfl
                    go_wp2_with fail
                    refine (HC.out _ ((HR.out.alloc _).below hbel)).mono ?_; rintro e' w2 ⟨rfl, hb2⟩
                    have hbel2 := hbel.trans (hb2.mono hbel.size)
                    clear hbel hb2 x2 hcl
                    go_wp2_with fail
                    go_roundg (x.parts.length - (j + 1))
                    case rel => exact ⟨j + 1, _, by omega, rfl, by go_num, hbel2, HS2⟩
                    case measure => omega
                  · have hje : x.parts.take j = x.parts := List.take_of_length_le (by omega)
                    rw [hje] at HS hSz
                    have hadd1 : S.size + 1 ≤ 9223372036854775807 := by have := HLEN.out; simp only [List.length_append, List.length_cons, List.length_nil] at *; omega
                    clear hSz
                    go_wp2_with fail
                    go_ret
                    refine ⟨?_, ((Below.refl _ _).alloc (Nat.le_refl _) _).trans (hbel.mono (by simp))⟩
                    rw [HS.out, show (⟨#[41]⟩ : ByteArray) = bs [41] from rfl, bs_app]
                    rfl
          · have u4 : ((bs x.is).toList == [110, 97, 109, 101, 100]) = true := t4.trans q4
            have hhd : headP x = 40 :: x.name := by simp [headP, q4]
            rw [hhd] at hLen ⊢
            have HLEN := hide hLen
            clear t1 t2 t3 t4 q1 q2 q3 q4 hleaf hhd hLen
            generalize bs x.is = bi at *
            rcases ownsRow_forms HPARTS.out with ⟨rfl, hp0⟩ | ⟨gp, capp, rfl⟩
            · have hpn : x.parts = [] := List.length_eq_zero_iff.1 hp0
              rw [hpn, List.flatMap_nil, List.append_nil] at *
              have hb1 : 1 + (bs x.name).size ≤ 9223372036854775807 := by have := HLEN.out; simp only [List.length_append, List.length_cons, List.length_nil, bs_size'] at *; omega
              have hb2 : 1 + (bs x.name).size + 1 ≤ 9223372036854775807 := by have := HLEN.out; simp only [List.length_append, List.length_cons, List.length_nil, bs_size'] at *; omega
              clear HIH hp0
              go_enter Tryz.func55, Tryz.ntmps55
              go_wp2_with fail
              refine wp_loop_rounds 1 ?_
              rw [rounds_succ]
              go_wp2_with fail
              go_ret
              refine ⟨?_, (Below.refl _ _).alloc (Nat.le_refl _) _⟩
              rw [show (⟨#[40]⟩ : ByteArray) = bs [40] from rfl, show (⟨#[41]⟩ : ByteArray) = bs [41] from rfl, bs_app, bs_app]; simp
            · have hb1 : 1 + (bs x.name).size ≤ 9223372036854775807 := by have := HLEN.out; simp only [List.length_append, List.length_cons, List.length_nil, bs_size'] at *; omega
              have hgp := (HPARTS.out.lt gp rfl).2
              have hpl : x.parts.length ≤ 9223372036854775807 := by have := HLEN.out; have h2 := flat_ge x.parts (fun p => textP s.nodes n p); simp only [List.length_append] at *; omega
              go_enter Tryz.func55, Tryz.ntmps55
              go_wp2_with fail
              go_loopg [6, 7] x.parts.length (fun gk sv iv wr => ∃ (j : Nat) (S : ByteArray), j + gk = x.parts.length ∧ sv = .string S ∧ iv = .int .i64 j ∧ Below (w.alloc (.cells #[.string bi, .string (bs x.name), .slice (some ⟨gp, 0, none⟩) x.parts.length capp, .int .i64 x.mt] 137)).heap.size (w.alloc (.cells #[.string bi, .string (bs x.name), .slice (some ⟨gp, 0, none⟩) x.parts.length capp, .int .i64 x.mt] 137)) wr ∧ Hid (S = bs ((40 :: x.name) ++ ((x.parts.take j).flatMap fun p => 32 :: textP s.nodes n p))))
              case atStart => exact ⟨0, _, by omega, rfl, rfl, Below.refl _ _, by show _ = _; rw [show (⟨#[40]⟩ : ByteArray) = bs [40] from rfl, bs_app]; simp⟩
              case round =>
                obtain ⟨j, S, hjg, rfl, rfl, hbel, HS⟩ := hrel
                have x2 : wr.cell? ⟨w.heap.size, 2, none⟩ = some (.slice (some ⟨gp, 0, none⟩) x.parts.length capp) := by
                  rw [hbel.cell (p := ⟨w.heap.size, 2, none⟩) (by simp)]; simp
                have hSz : S.size = ((40 :: x.name) ++ ((x.parts.take j).flatMap fun p => 32 :: textP s.nodes n p)).length := by rw [HS.out]; exact bs_size' _
                by_cases hj : j < x.parts.length
                · have hcl : wr.cell? ⟨gp, j, none⟩ = some (.int .i64 x.parts[j]) := by
                    rw [hbel.cell (p := ⟨gp, j, none⟩) (by simp; omega), (HPARTS.out.alloc _).cellAt j (by omega)]
                    simp [hj, intV]
                  have hfl := flat_split x.parts (fun p => textP s.nodes n p) j hj
                  have hadd1 : S.size + 1 ≤ 9223372036854775807 := by have := HLEN.out; simp only [List.length_append, List.length_cons, List.length_nil] at *; omega
                  have hadd2 : S.size + 1 + (bs (textP s.nodes n x.parts[j])).size ≤ 9223372036854775807 := by have := HLEN.out; rw [bs_size']; simp only [List.length_append, List.length_cons, List.length_nil] at *; omega
                  have hc := fun (wx : World) (a : Rd T rb lv e X s wx) => HIH.out x.parts[j] (List.getElem_mem hj) wx a
                  have HS2 : Hid (S ++ ⟨#[32]⟩ ++ bs (textP s.nodes n x.parts[j]) = bs ((40 :: x.name) ++ ((x.parts.take (j + 1)).flatMap fun p => 32 :: textP s.nodes n p))) := by
                    show _ = _
                    rw [HS.out, show (⟨#[32]⟩ : ByteArray) = bs [32] from rfl, bs_app, bs_app, List.take_succ_eq_append_getElem hj, List.flatMap_append]
                    simp
                  generalize bs (textP s.nodes n x.parts[j]) = tb at *
                  generalize x.parts[j] = pj at *
                  have HC := hide hc
                  clear hc hSz hfl
                  go_wp2_with fail
                  refine (HC.out _ ((HR.out.alloc _).below hbel)).mono ?_; rintro e' w2 ⟨rfl, hb2⟩
                  have hbel2 := hbel.trans (hb2.mono hbel.size)
                  clear hbel hb2 x2 hcl
                  go_wp2_with fail
                  go_roundg (x.parts.length - (j + 1))
                  case rel => exact ⟨j + 1, _, by omega, rfl, by go_num, hbel2, HS2⟩
                  case measure => omega
                · have hje : x.parts.take j = x.parts := List.take_of_length_le (by omega)
                  rw [hje] at HS hSz
                  have hadd1 : S.size + 1 ≤ 9223372036854775807 := by have := HLEN.out; simp only [List.length_append, List.length_cons, List.length_nil] at *; omega
                  clear hSz
                  go_wp2_with fail
                  go_ret
                  refine ⟨?_, ((Below.refl _ _).alloc (Nat.le_refl _) _).trans (hbel.mono (by simp))⟩
                  rw [HS.out, show (⟨#[41]⟩ : ByteArray) = bs [41] from rfl, bs_app]
                  rfl
        · have hleaf : leafB x = true := by simp [leafB, q3]
          rw [hleaf, cond_true]
          have u1 : ((bs x.is).toList == [110, 117, 109]) = false := t1.trans q1
          have u2 : ((bs x.is).toList == [118, 97, 114]) = false := t2.trans q2
          have u3 : ((bs x.is).toList == [99, 111, 110, 115, 116]) = true := t3.trans q3
          clear t1 t2 t3 t4 q1 q2 q3 hleaf HIH0 hLen
          generalize bs x.is = bi at *
          generalize bs x.name = bn at *
          rcases ownsRow_forms HPARTS.out with ⟨rfl, _⟩ | ⟨gp, capp, rfl⟩
          · go_enter Tryz.func55, Tryz.ntmps55
            go_wp2_with fail
            go_ret
            exact ⟨rfl, (Below.refl _ _).alloc (Nat.le_refl _) _⟩
          · go_enter Tryz.func55, Tryz.ntmps55
            go_wp2_with fail
            go_ret
            exact ⟨rfl, (Below.refl _ _).alloc (Nat.le_refl _) _⟩
      · have hleaf : leafB x = true := by simp [leafB, q2]
        rw [hleaf, cond_true]
        have u1 : ((bs x.is).toList == [110, 117, 109]) = false := t1.trans q1
        have u2 : ((bs x.is).toList == [118, 97, 114]) = true := t2.trans q2
        clear t1 t2 t3 t4 q1 q2 hleaf HIH0 hLen
        generalize bs x.is = bi at *
        generalize bs x.name = bn at *
        rcases ownsRow_forms HPARTS.out with ⟨rfl, _⟩ | ⟨gp, capp, rfl⟩
        · go_enter Tryz.func55, Tryz.ntmps55
          go_wp2_with fail
          go_ret
          exact ⟨rfl, (Below.refl _ _).alloc (Nat.le_refl _) _⟩
        · go_enter Tryz.func55, Tryz.ntmps55
          go_wp2_with fail
          go_ret
          exact ⟨rfl, (Below.refl _ _).alloc (Nat.le_refl _) _⟩
    · have hleaf : leafB x = true := by simp [leafB, q1]
      rw [hleaf, cond_true]
      have u1 : ((bs x.is).toList == [110, 117, 109]) = true := t1.trans q1
      clear t1 t2 t3 t4 q1 hleaf HIH0 hLen
      generalize bs x.is = bi at *
      generalize bs x.name = bn at *
      rcases ownsRow_forms HPARTS.out with ⟨rfl, _⟩ | ⟨gp, capp, rfl⟩
      · go_enter Tryz.func55, Tryz.ntmps55
        go_wp2_with fail
        go_ret
        exact ⟨rfl, (Below.refl _ _).alloc (Nat.le_refl _) _⟩
      · go_enter Tryz.func55, Tryz.ntmps55
        go_wp2_with fail
        go_ret
        exact ⟨rfl, (Below.refl _ _).alloc (Nat.le_refl _) _⟩

end Go.Proofs.YtnocnkblhjifjaaGreatDoor
/-
  Plain mathematics: trees, and how nodes stand for them; a tree's text.
-/
namespace Go.Proofs.YtnocnkblhjifjaaGreatDoor
open Go.RowKit

/-- A tree: what it is, a name, its parts. -/
structure Tr where
  mk ::
  is : List UInt8
  name : List UInt8
  parts : List Tr

/-- Node i stands for the tree; parts come ahead of what they are parts of. -/
def Rep (ns : List NodeP) : Nat → Tr → Prop
  | i, .mk is name ts => ∃ (parts : List Nat) (mt : Nat), ns[i]? = some ⟨is, name, parts, mt⟩ ∧ (∀ p ∈ parts, p < i) ∧ Reps parts ts
 where
  Reps : List Nat → List Tr → Prop
    | [], [] => True
    | i :: l, t :: ts => Rep ns i t ∧ Reps l ts
    | _, _ => False

theorem Rep.mk {ns : List NodeP} {i : Nat} {is name : List UInt8} {parts : List Nat} {mt : Nat} {ts : List Tr} (h : ns[i]? = some ⟨is, name, parts, mt⟩) (hp : ∀ p ∈ parts, p < i) (hr : Rep.Reps ns parts ts) : Rep ns i (.mk is name ts) := by
  rw [Rep]; exact ⟨parts, mt, h, hp, hr⟩
theorem Rep.inv {ns : List NodeP} {i : Nat} {is name : List UInt8} {ts : List Tr} (h : Rep ns i (.mk is name ts)) : ∃ (parts : List Nat) (mt : Nat), ns[i]? = some ⟨is, name, parts, mt⟩ ∧ (∀ p ∈ parts, p < i) ∧ Rep.Reps ns parts ts := by
  rw [Rep] at h; exact h
theorem Rep.Reps.nil {ns : List NodeP} : Rep.Reps ns [] [] := by rw [Rep.Reps]; trivial
theorem Rep.Reps.cons {ns : List NodeP} {i : Nat} {l : List Nat} {t : Tr} {ts : List Tr} (h : Rep ns i t) (hr : Rep.Reps ns l ts) : Rep.Reps ns (i :: l) (t :: ts) := by rw [Rep.Reps]; exact ⟨h, hr⟩
theorem Rep.Reps.unnil {ns : List NodeP} {ts : List Tr} (h : Rep.Reps ns [] ts) : ts = [] := by
  cases ts with
  | nil => rfl
  | cons t ts => simp [Rep.Reps] at h
theorem Rep.Reps.uncons {ns : List NodeP} {i : Nat} {l : List Nat} {ts : List Tr} (h : Rep.Reps ns (i :: l) ts) : ∃ t r, ts = t :: r ∧ Rep ns i t ∧ Rep.Reps ns l r := by
  cases ts with
  | nil => simp [Rep.Reps] at h
  | cons t ts => rw [Rep.Reps] at h; exact ⟨t, ts, rfl, h.1, h.2⟩
theorem Rep.both {ns : List NodeP} {P : Nat → Tr → Prop} {Q : List Nat → List Tr → Prop}
    (hmk : ∀ {i is name parts mt ts}, ns[i]? = some ⟨is, name, parts, mt⟩ → (∀ p ∈ parts, p < i) → Rep.Reps ns parts ts → Q parts ts → P i (.mk is name ts)) (hnil : Q [] [])
    (hcons : ∀ {i l t ts}, Rep ns i t → Rep.Reps ns l ts → P i t → Q l ts → Q (i :: l) (t :: ts)) : (∀ t i, Rep ns i t → P i t) ∧ ∀ ts l, Rep.Reps ns l ts → Q l ts := by
  have h1 : ∀ is name ts, (∀ l, Rep.Reps ns l ts → Q l ts) → ∀ i, Rep ns i (.mk is name ts) → P i (.mk is name ts) := by
    intro is name ts ih i h
    obtain ⟨parts, mt, a, b, c⟩ := h.inv
    exact hmk a b c (ih _ c)
  have h2 : ∀ l, Rep.Reps ns l [] → Q l [] := by
    intro l h
    cases l with
    | nil => exact hnil
    | cons i l => obtain ⟨t, r, e, _⟩ := h.uncons; cases e
  have h3 : ∀ t ts, (∀ i, Rep ns i t → P i t) → (∀ l, Rep.Reps ns l ts → Q l ts) → ∀ l, Rep.Reps ns l (t :: ts) → Q l (t :: ts) := by
    intro t ts iht ihts l h
    cases l with
    | nil => have := h.unnil; cases this
    | cons i l =>
      obtain ⟨t', r, e, a, b⟩ := h.uncons
      cases e
      exact hcons a b (iht _ a) (ihts _ b)
  exact ⟨fun t => Tr.rec (motive_1 := fun t => ∀ i, Rep ns i t → P i t) (motive_2 := fun ts => ∀ l, Rep.Reps ns l ts → Q l ts) h1 h2 h3 t, fun ts => Tr.rec_1 (motive_1 := fun t => ∀ i, Rep ns i t → P i t) (motive_2 := fun ts => ∀ l, Rep.Reps ns l ts → Q l ts) h1 h2 h3 ts⟩

/-- More nodes; those that were there are what they were, their numbers aside. -/
def Ext (a b : List NodeP) : Prop := ∀ (i : Nat) (x : NodeP), a[i]? = some x → ∃ m, b[i]? = some ⟨x.is, x.name, x.parts, m⟩

theorem Ext.refl (a : List NodeP) : Ext a a := fun _ x h => ⟨x.mt, h⟩

theorem Ext.trans {a b c : List NodeP} (h : Ext a b) (k : Ext b c) : Ext a c := by
  intro i x hx
  obtain ⟨m, hm⟩ := h i x hx
  obtain ⟨m2, h2⟩ := k i _ hm
  exact ⟨m2, h2⟩

theorem Ext.push (a : List NodeP) (x : NodeP) : Ext a (a ++ [x]) := by
  intro i y hy
  have hl : i < a.length := by
    by_cases hl : i < a.length
    · exact hl
    · rw [List.getElem?_eq_none (by omega)] at hy; cases hy
  exact ⟨y.mt, by rw [List.getElem?_append_left hl]; exact hy⟩

theorem Ext.number (a : List NodeP) (m k : Nat) : Ext a (a.modify m fun x => { x with mt := k }) := by
  intro i y hy
  rw [List.getElem?_modify, hy]
  split
  · exact ⟨k, rfl⟩
  · exact ⟨y.mt, rfl⟩

theorem Rep.ext {a b : List NodeP} (he : Ext a b) {i : Nat} {t : Tr} (h : Rep a i t) : Rep b i t :=
  (Rep.both (P := fun i t => Rep b i t) (Q := fun l ts => Rep.Reps b l ts) (fun h hp _ hr => by
    obtain ⟨m, hm⟩ := he _ _ h
    exact Rep.mk hm hp hr) Rep.Reps.nil (fun _ _ h hr => Rep.Reps.cons h hr)).1 t i h
theorem Rep.Reps.ext {a b : List NodeP} (he : Ext a b) {l : List Nat} {ts : List Tr} (h : Rep.Reps a l ts) : Rep.Reps b l ts :=
  (Rep.both (P := fun i t => Rep b i t) (Q := fun l ts => Rep.Reps b l ts) (fun h hp _ hr => by
    obtain ⟨m, hm⟩ := he _ _ h
    exact Rep.mk hm hp hr) Rep.Reps.nil (fun _ _ h hr => Rep.Reps.cons h hr)).2 ts l h

def leafT (is : List UInt8) : Bool := is == K.num_ || is == K.var_ || is == K.const_

def headT (is name : List UInt8) : List UInt8 := bif is == K.named_ then 40 :: name else bif name == [] then 40 :: is else 40 :: is ++ 32 :: name

/-- A tree's text. -/
def Tr.text : Tr → List UInt8
  | .mk is name parts => bif leafT is then name else headT is name ++ texts parts ++ [41]
 where
  texts : List Tr → List UInt8
    | [] => []
    | t :: r => 32 :: t.text ++ texts r

theorem Rep.texts2 {ns : List NodeP} : (∀ t i, Rep ns i t → ∀ N, i < N → textP ns N i = t.text) ∧ ∀ ts l, Rep.Reps ns l ts → ∀ n, (∀ p ∈ l, p < n) → (l.flatMap fun p => 32 :: textP ns n p) = Tr.text.texts ts := by
  refine Rep.both ?_ ?_ ?_
  · intro i is name parts mt ts h hp _ hx N hN
    obtain ⟨n, rfl⟩ : ∃ n, N = n + 1 := ⟨N - 1, by omega⟩
    have hx := hx n (fun p hpm => by have := hp p hpm; omega)
    rw [textP, List.getD_eq_getElem?_getD, h, Tr.text]
    simp only [Option.getD_some, leafB, headP, leafT, headT]
    rw [hx]
  · intro n _; rfl
  · intro i l t ts _ _ h hr n hn
    rw [List.flatMap_cons, Tr.text.texts, h n (hn _ (List.mem_cons_self ..)), hr n (fun p hp => hn p (List.mem_cons_of_mem _ hp))]
theorem Rep.text {ns : List NodeP} {i : Nat} {t : Tr} (h : Rep ns i t) (N : Nat) (hN : i < N) : textP ns N i = t.text := Rep.texts2.1 t i h N hN
theorem Rep.Reps.text {ns : List NodeP} {l : List Nat} {ts : List Tr} (h : Rep.Reps ns l ts) (n : Nat) (hn : ∀ p ∈ l, p < n) : (l.flatMap fun p => 32 :: textP ns n p) = Tr.text.texts ts := Rep.texts2.2 ts l h n hn

/-- A node more stands for a tree of trees. -/
theorem Rep.node {is name : List UInt8} {parts : List Nat} {ts : List Tr} {s s' : RS} {r : Nat} (h : nodeP is name parts s = some (r, s')) (hr : Rep.Reps s.nodes parts ts) (hp : ∀ p ∈ parts, p < s.nodes.length) :
    Rep s'.nodes r (.mk is name ts) ∧ Ext s.nodes s'.nodes ∧ s'.pos = s.pos ∧ s'.bad = s.bad ∧ s'.mts = s.mts ∧ s'.nodes.length = s.nodes.length + 1 := by
  obtain ⟨_, h2, h3⟩ := nodeP_some h
  subst h2
  subst h3
  refine ⟨Rep.mk (mt := 0) (by simp) hp (hr.ext (Ext.push _ _)), Ext.push _ _, rfl, rfl, rfl, by simp⟩

theorem Rep.lts {ns : List NodeP} : (∀ t i, Rep ns i t → i < ns.length) ∧ ∀ ts l, Rep.Reps ns l ts → ∀ p ∈ l, p < ns.length := by
  refine Rep.both ?_ ?_ ?_
  · intro i is name parts mt ts h _ _ _
    by_cases hl : i < ns.length
    · exact hl
    · rw [List.getElem?_eq_none (by omega)] at h; cases h
  · intro p hp; cases hp
  · intro i l t ts _ _ h hr p hp
    rcases List.mem_cons.1 hp with rfl | hp
    · exact h
    · exact hr p hp
theorem Rep.lt {ns : List NodeP} {i : Nat} {t : Tr} (h : Rep ns i t) : i < ns.length := Rep.lts.1 t i h
theorem Rep.Reps.lt {ns : List NodeP} {l : List Nat} {ts : List Tr} (h : Rep.Reps ns l ts) : ∀ p ∈ l, p < ns.length := Rep.lts.2 ts l h

end Go.Proofs.YtnocnkblhjifjaaGreatDoor
/-
  Plain mathematics: the document's grammar as a reader of lists of tokens: the tree that is read and what is left, or none: it has not the form. (The number only says how deep it may go.)
-/
namespace Go.Proofs.YtnocnkblhjifjaaGreatDoor
open Go.RowKit

abbrev Toks := List (List UInt8)

namespace G

def kindOf (ts : Toks) : Int := tokKind (ts.headD [])
def isW (x : List UInt8) (ts : Toks) : Bool := tokKind (ts.headD []) == 119 && ts.headD [] == x

def want (x : List UInt8) (ts : Toks) : Option Toks := bif isW x ts then some ts.tail else none
def kind (k : Int) (ts : Toks) : Option (List UInt8 × Toks) := bif kindOf ts == k then some (ts.headD [], ts.tail) else none

def every (k : Int) : Toks → Toks × Toks
  | [] => ([], [])
  | t :: r => bif tokKind t == k then (t :: (every k r).1, (every k r).2) else ([], t :: r)

def curried : Toks → Tr → Tr
  | [], x => x
  | a :: r, x => .mk K.fun_ a [curried r x]

def apps : List Tr → Tr → Tr
  | [], f => f
  | a :: r, f => apps r (.mk K.app_ [] [f, a])

/-- What is the same in expressions and patterns; none: none comes. -/
def plain (ts : Toks) : Option (Tr × Toks) :=
  bif kindOf ts == 100 then some (.mk K.num_ (numberP (ts.headD [])) [], ts.tail)
  else bif kindOf ts == 110 then some (.mk K.var_ (ts.headD []) [], ts.tail)
  else bif kindOf ts == 99 then some (.mk K.con_ (ts.headD []) [], ts.tail)
  else bif isW K.true_ ts || isW K.false_ ts then some (.mk K.const_ (ts.headD []) [], ts.tail)
  else none

def atypes : Nat → Toks → Option (List Tr × Toks)
  | 0, _ => none
  | n + 1, ts =>
    bif kindOf ts == 108 then (atypes n ts.tail).bind fun l => some (.mk K.var_ (ts.headD []) [] :: l.1, l.2)
    else bif kindOf ts == 110 then (atypes n ts.tail).bind fun l => some (.mk K.named_ (ts.headD []) [] :: l.1, l.2)
    else bif isW K.open_ ts then (typ n ts.tail).bind fun q => (want K.shut_ q.2).bind fun r => (atypes n r).bind fun l => some (q.1 :: l.1, l.2)
    else some ([], ts)
 where
  typ1 : Nat → Toks → Option (Tr × Toks)
    | 0, _ => none
    | n + 1, ts =>
      bif kindOf ts == 110 then (atypes n ts.tail).bind fun l => some (.mk K.named_ (ts.headD []) l.1, l.2)
      else bif kindOf ts == 108 then some (.mk K.var_ (ts.headD []) [], ts.tail)
      else (want K.open_ ts).bind fun r => (typ n r).bind fun q => (want K.shut_ q.2).bind fun r => some (q.1, r)
  typ : Nat → Toks → Option (Tr × Toks)
    | 0, _ => none
    | n + 1, ts => (typ1 n ts).bind fun a => bif isW K.arrow_ a.2 then (typ n a.2.tail).bind fun b => some (.mk K.arrow_ [] [a.1, b.1], b.2) else some a

def pattern : Nat → Toks → Option (Tr × Toks)
  | 0, _ => none
  | n + 1, ts =>
    bif kindOf ts == 99 then (apatterns n ts.tail).bind fun l => some (.mk K.con_ (ts.headD []) l.1, l.2)
    else (apattern n ts).bind fun q => q.1.bind fun t => some (t, q.2)
 where
  apatterns : Nat → Toks → Option (List Tr × Toks)
    | 0, _ => none
    | n + 1, ts => (apattern n ts).bind fun q => match q.1 with
      | none => some ([], q.2)
      | some t => (apatterns n q.2).bind fun l => some (t :: l.1, l.2)
  apattern : Nat → Toks → Option (Option Tr × Toks)
    | 0, _ => none
    | n + 1, ts => match plain ts with
      | some q => some (some q.1, q.2)
      | none =>
        bif isW K.under_ ts then some (some (.mk K.const_ K.under_ []), ts.tail)
        else bif isW K.open_ ts then
          bif isW K.shut_ ts.tail then some (some (.mk K.const_ K.unit_ []), ts.tail.tail)
          else (pattern n ts.tail).bind fun q => (want K.shut_ q.2).bind fun r => some (some q.1, r)
        else some (none, ts)

def binding : Nat → Toks → Option (List UInt8 × List UInt8 × Tr × Toks)
  | 0, _ => none
  | n + 1, ts0 =>
    let r := isW K.rec_ ts0
    (kind 110 (bif r then ts0.tail else ts0)).bind fun nm =>
      bif r && (every 110 nm.2).1.isEmpty then none
      else (want K.eq_ (every 110 nm.2).2).bind fun ts => (expr n ts).bind fun x => some (bif r then K.rec_ else K.let_, nm.1, curried (every 110 nm.2).1 x.1, x.2)
 where
  expr : Nat → Toks → Option (Tr × Toks)
    | 0, _ => none
    | n + 1, ts =>
      bif isW K.let_ ts then (binding n ts.tail).bind fun b => (want K.in_ b.2.2.2).bind fun r => (expr n r).bind fun x => some (.mk b.1 b.2.1 [b.2.2.1, x.1], x.2)
      else bif isW K.fun_ ts then (kind 110 ts.tail).bind fun one => (want K.arrow_ (every 110 one.2).2).bind fun r => (expr n r).bind fun x => some (curried (one.1 :: (every 110 one.2).1) x.1, x.2)
      else bif isW K.if_ ts then (expr n ts.tail).bind fun a => (want K.then_ a.2).bind fun r => (expr n r).bind fun b => (want K.else_ b.2).bind fun r => (expr n r).bind fun c => some (.mk K.if_ [] [a.1, b.1, c.1], c.2)
      else (level n 0 ts).bind fun a => (set n a.1 a.2).bind fun a => bif isW K.semi_ a.2 then (expr n a.2.tail).bind fun b => some (.mk K.seq_ [] [a.1, b.1], b.2) else some a
  set : Nat → Tr → Toks → Option (Tr × Toks)
    | 0, _, _ => none
    | n + 1, a, ts => bif isW K.set_ ts then (level n 0 ts.tail).bind fun b => some (.mk K.setN_ [] [a, b.1], b.2) else some (a, ts)
  level : Nat → Nat → Toks → Option (Tr × Toks)
    | 0, _, _ => none
    | n + 1, k, ts => if k = 3 then app n ts else (level n (k + 1) ts).bind fun a => levels n k a.1 a.2
  levels : Nat → Nat → Tr → Toks → Option (Tr × Toks)
    | 0, _, _, _ => none
    | n + 1, k, a, ts =>
      bif kindOf ts == 119 && (ts.headD []).length == 1 && (signsAt k).contains ((ts.headD []).getD 0 0) then
        (level n (k + 1) ts.tail).bind fun b => if k = 0 then some (.mk (ts.headD []) [] [a, b.1], b.2) else levels n k (.mk (ts.headD []) [] [a, b.1]) b.2
      else some (a, ts)
  app : Nat → Toks → Option (Tr × Toks)
    | 0, _ => none
    | n + 1, ts =>
      bif kindOf ts == 99 then (atoms n ts.tail).bind fun l => some (.mk K.con_ (ts.headD []) l.1, l.2)
      else (atoms n ts).bind fun l => match l.1 with
        | [] => none
        | f :: r => some (apps r f, l.2)
  atoms : Nat → Toks → Option (List Tr × Toks)
    | 0, _ => none
    | n + 1, ts => (atom n ts).bind fun q => match q.1 with
      | none => some ([], q.2)
      | some t => (atoms n q.2).bind fun l => some (t :: l.1, l.2)
  atom : Nat → Toks → Option (Option Tr × Toks)
    | 0, _ => none
    | n + 1, ts => match plain ts with
      | some q => some (some q.1, q.2)
      | none =>
        bif isW K.open_ ts then
          bif isW K.shut_ ts.tail then some (some (.mk K.const_ K.unit_ []), ts.tail.tail)
          else (expr n ts.tail).bind fun q => (want K.shut_ q.2).bind fun r => some (some q.1, r)
        else bif isW K.bang_ ts then (atom n ts.tail).bind fun a => a.1.bind fun t => some (some (.mk K.bang_ [] [t]), a.2)
        else bif isW K.match_ ts then (matches_ n ts.tail).bind fun q => some (some q.1, q.2)
        else some (none, ts)
  matches_ : Nat → Toks → Option (Tr × Toks)
    | 0, _ => none
    | n + 1, ts => (expr n ts).bind fun x => (want K.with_ x.2).bind fun r => (rows n r).bind fun l => if 12 < l.1.length then none else some (.mk K.match_ [] (x.1 :: l.1), l.2)
  rows : Nat → Toks → Option (List Tr × Toks)
    | 0, _ => none
    | n + 1, ts => (want K.bar_ ts).bind fun r => (pattern n r).bind fun p => (want K.arrow_ p.2).bind fun r => (expr n r).bind fun a =>
        bif isW K.end_ a.2 then some ([.mk K.row_ [] [p.1, a.1]], a.2.tail) else (rows n a.2).bind fun l => some (.mk K.row_ [] [p.1, a.1] :: l.1, l.2)

def letters (l : Toks) : List Tr := l.map fun a => .mk K.var_ (a.drop 1) []

def variants : Nat → Toks → Option (List Tr × Toks)
  | 0, _ => none
  | n + 1, ts => (kind 99 ts).bind fun c => (atypes n c.2).bind fun l =>
      bif isW K.bar_ l.2 then (variants n l.2.tail).bind fun v => some (.mk K.named_ c.1 l.1 :: v.1, v.2) else some ([.mk K.named_ c.1 l.1], l.2)

/-- A declaration: all its tokens must be read. -/
def decl (n : Nat) (ts : Toks) : Option Tr :=
  (bif isW K.type_ ts then (kind 110 ts.tail).bind fun nm => (want K.eq_ (every 108 nm.2).2).bind fun r => (variants n r).bind fun v => some (Tr.mk K.type_ nm.1 (letters (every 108 nm.2).1 ++ v.1), v.2)
  else bif isW K.do_ ts then (binding.expr n ts.tail).bind fun x => some (.mk K.do_ [] [x.1], x.2)
  else (want K.let_ ts).bind fun r => (binding n r).bind fun b => some (.mk b.1 b.2.1 [b.2.2.1], b.2.2.2)).bind fun q => bif q.2.isEmpty then some q.1 else none

end G
end Go.Proofs.YtnocnkblhjifjaaGreatDoor
