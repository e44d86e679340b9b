import Derived.Test.YtnocnkblhjifjaaGreatDoorMPExpr
import Derived.Defers
import Derived.Recover
/-
  Declarations (package parse): declaration, readDeclaration (a panic that is recovered) by their contracts.
-/
namespace Go.Proofs.YtnocnkblhjifjaaGreatDoor
open Go.RowKit

/-- A declaration, all its tokens read or not. -/
def LFam.declE (L : LFam) (ts : Toks) : Option (Tr × Toks) :=
  bif G.isW K.type_ ts then L.typeD ts.tail
  else bif G.isW K.do_ ts then (L.expr ts.tail).bind fun x => some (.mk K.do_ [] [x.1], x.2)
  else (G.want K.let_ ts).bind fun r => (L.binding r).bind fun b => some (.mk b.1 b.2.1 [b.2.2.1], b.2.2.2)

theorem decl_prog (ts : Toks) : (Classical.choice lf).decl ts = ((Classical.choice lf).declE ts).bind fun q => bif q.2.isEmpty then some q.1 else none := (Classical.choice lf).decl_eq ts

theorem want_eq (x : List UInt8) (hx : tokKind x = 119) (t : List UInt8) (r : Toks) : G.want x (t :: r) = bif t == x then some r else none := by
  unfold G.want; rw [isW_eq hx]; rfl

set_option maxHeartbeats 4000000 in
theorem p_declaration {rb : Nat} (hF : FunOf) (ts : Toks) (w : World) (h : Rq rb ts w) : Calls Tryz.prog 79 #[ptrV rb] w (AnsN rb 4 w ((Classical.choice lf).declE ts)) := by
  have HTk := hide (take_any h)
  cases ts with
  | nil =>
    have HQ := hide (AnsN.no (c := 4) (o := (Classical.choice lf).declE []) (w' := w) (Kq.refl rb w) rfl)
    clear h
    go_enter Tryz.func79, Tryz.ntmps79
    go_wp2_with fail
    refine (HTk.out).mono ?_; rintro e w1 ⟨hk1, ⟨_, rfl⟩ | ⟨t1, r1, he, _⟩⟩
    · have HQ := hide (AnsN.no (c := 4) (o := (Classical.choice lf).declE []) hk1 rfl)
      unfold gaveUp noForm
      go_wp2
      exact ⟨rfl, HQ.out⟩
    · cases he
  | cons t r =>
    have HT := hide (take_one h)
    have HTD := hide (fun (w : World) (h : Rq rb r w) => p_typeDeclaration r w h)
    have HBd := hide (fun (w : World) (h : Rq rb r w) => p_binding (m := wt r + 1) hF (fun ts w _ h => p_expression hF ts w h) r w (by omega) h)
    have HEx := hide (fun (w : World) (h : Rq rb r w) => p_expression hF r w h)
    have hTy := isW_eq (x := K.type_) (by decide) (t :: r)
    have hDo := isW_eq (x := K.do_) (by decide) (t :: r)
    rw [show (t :: r).headD [] = t from rfl] at hTy hDo
    have hLt := want_eq K.let_ (by decide) t r
    clear h hF HTk
    cases k1 : (t == K.type_)
    · have e1 : ((bs t).toList == [116, 121, 112, 101]) = false := (bs_lit t K.type_).trans k1
      rw [k1] at hTy
      cases k2 : (t == K.let_)
      · have e2 : ((bs t).toList == [108, 101, 116]) = false := (bs_lit t K.let_).trans k2
        rw [k2] at hLt
        cases k3 : (t == K.do_)
        · have e3 : ((bs t).toList == [100, 111]) = false := (bs_lit t K.do_).trans k3
          rw [k3] at hDo
          have HE := hide (show (Classical.choice lf).declE (t :: r) = none by unfold LFam.declE; rw [hTy, hDo, hLt] <;> rfl)
          clear hTy hDo hLt k1 k2 k3
          generalize bs t = bx at *
          go_enter Tryz.func79, Tryz.ntmps79
          go_wp2_with fail
          refine (HT.out).mono ?_; rintro e w1 ⟨rfl, hT⟩
          have HQ := hide (AnsN.no (c := 4) (o := (Classical.choice lf).declE (t :: r)) hT.out.1 HE.out)
          unfold gaveUp noForm at HQ
          go_wp2
          exact ⟨rfl, HQ.out⟩
        · have e3 : ((bs t).toList == [100, 111]) = true := (bs_lit t K.do_).trans k3
          rw [k3] at hDo
          have HE := hide (show (Classical.choice lf).declE (t :: r) = ((Classical.choice lf).expr r).bind fun x => some (.mk K.do_ [] [x.1], x.2) by unfold LFam.declE; rw [hTy, hDo] <;> rfl)
          clear hTy hDo hLt k1 k2 k3
          generalize bs t = bx at *
          go_enter Tryz.func79, Tryz.ntmps79
          go_wp2_with fail
          refine (HT.out).mono ?_; rintro e w1 ⟨rfl, hT⟩
          have HC := hide (HEx.out w1 hT.out.2)
          go_wp2_with fail
          refine (HC.out).mono ?_; rintro e w2 ⟨hk2, ⟨ho2, rfl⟩ | ⟨t2, r2, b2, ho2, rfl, hm2, hr2⟩⟩
          · have HQ := hide (AnsN.no (c := 4) (o := (Classical.choice lf).declE (t :: r)) (hT.out.1.to hk2) (by rw [HE.out, ho2] <;> rfl))
            unfold gaveUp noForm
            go_wp2
            exact ⟨rfl, HQ.out⟩
          · have HQ := hide (node1 (o := (Classical.choice lf).declE (t :: r)) KindOf.do_ (hT.out.1.to hk2) (hm2.since hT.out.1) hr2 (by rw [HE.out, ho2] <;> rfl))
            have HN := hide (New1 w2 b2 17 ⟨#[]⟩)
            unfold ptrV at *
            go_wp2_with fail
            refine (HN.out).mono ?_; rintro e w9 ⟨rfl, rfl⟩
            go_wp2
            go_ret
            exact HQ.out
      · have e2 : ((bs t).toList == [108, 101, 116]) = true := (bs_lit t K.let_).trans k2
        have ht : t = K.let_ := by simpa using k2
        rw [k2] at hLt
        have hDo2 : G.isW K.do_ (t :: r) = false := by rw [hDo, ht]; rfl
        have HE := hide (show (Classical.choice lf).declE (t :: r) = ((Classical.choice lf).binding r).bind fun b => some (.mk b.1 b.2.1 [b.2.2.1], b.2.2.2) by unfold LFam.declE; rw [hTy, hDo2, hLt] <;> rfl)
        clear hTy hDo hDo2 hLt k1 k2 ht
        generalize bs t = bx at *
        go_enter Tryz.func79, Tryz.ntmps79
        go_wp2_with fail
        refine (HT.out).mono ?_; rintro e w1 ⟨rfl, hT⟩
        have HC := hide (HBd.out w1 hT.out.2)
        go_wp2_with fail
        refine (HC.out).mono ?_; rintro e w2 ⟨hk2, ⟨ho2, rfl⟩ | ⟨is2, x2, t2, r2, b2, k2, ho2, hi2, rfl, hm2, hr2⟩⟩
        · have HQ := hide (AnsN.no (c := 4) (o := (Classical.choice lf).declE (t :: r)) (hT.out.1.to hk2) (by rw [HE.out, ho2] <;> rfl))
          unfold gaveUp noForm
          go_wp2
          exact ⟨rfl, HQ.out⟩
        · have hkd : KindOf 4 is2 x2 k2 x2 [0] := by
            rcases hi2 with ⟨rfl, rfl⟩ | ⟨rfl, rfl⟩
            · exact KindOf.dlet x2
            · exact KindOf.drec x2
          have HQ := hide (node1 (o := (Classical.choice lf).declE (t :: r)) hkd (hT.out.1.to hk2) (hm2.since hT.out.1) hr2 (by rw [HE.out, ho2] <;> rfl))
          have HN := hide (New1 w2 b2 k2 (bs x2))
          clear hm2 hr2 ho2 hk2 hkd hi2
          unfold ptrV at *
          go_wp2_with fail
          refine (HN.out).mono ?_; rintro e w9 ⟨rfl, rfl⟩
          go_wp2
          go_ret
          exact HQ.out
    · have e1 : ((bs t).toList == [116, 121, 112, 101]) = true := (bs_lit t K.type_).trans k1
      rw [k1] at hTy
      have HE := hide (show (Classical.choice lf).declE (t :: r) = (Classical.choice lf).typeD r by unfold LFam.declE; rw [hTy] <;> rfl)
      clear hTy hDo hLt k1
      generalize bs t = bx at *
      go_enter Tryz.func79, Tryz.ntmps79
      go_wp2_with fail
      refine (HT.out).mono ?_; rintro e w1 ⟨rfl, hT⟩
      have HC := hide (HTD.out w1 hT.out.2)
      go_wp2_with fail
      refine (HC.out).mono ?_; intro e wz ha
      have HQ := hide (AnsN.as (o' := (Classical.choice lf).declE (t :: r)) hT.out.1 HE.out ha)
      rcases ha.ends with rfl | ⟨v, rfl⟩
      · unfold gaveUp noForm
        clear ha
        go_wp2
        exact ⟨rfl, HQ.out⟩
      · clear ha
        go_wp2
        go_ret
        exact HQ.out

/-- The deferred closure, in a frame that gave up: it is recovered. -/
theorem catch_up (w : World) : CallsD Tryz.prog 78 #[] (.panicking [{ v := noForm, recovered := false }]) w fun e u' w' =>
      e = .returned (.tuple #[]) ∧ u' = .panicking [{ v := noForm, recovered := true }] ∧ w' = w := by
  unfold noForm
  refine callsD_of_wpS Tryz.func78 rfl fun c₀ cs hu => ?_
  apply wpS_seq
  apply wpS_region
  simp [wpOpsS, go_sem, recoverD, hu, Tryz.ntmps78, Exit.thenS]
  have hne1 : ∀ w : World, (binOp BinOp.neq 20 (.iface 158 (.agg #[])) .nilIface).run Tryz.prog w = .ok (.bool true) w := fun _ => by kernel_rfl
  have hne2 : ∀ w : World, (binOp BinOp.neq 20 (.iface 158 (.agg #[])) (.iface 158 (.agg #[]))).run Tryz.prog w = .ok (.bool false) w := fun _ => by kernel_rfl
  refine wpS_of_wp ?_
  go_wp2

  cases c₀
  simp_all [bodyPostS, results, Tryz.results78]

theorem catch_idle (w : World) : CallsD Tryz.prog 78 #[] .returning w fun e u' w' => e = .returned (.tuple #[]) ∧ u' = .returning ∧ w' = w := by
  refine callsD_of_wpS Tryz.func78 rfl fun c₀ cs hu => ?_
  apply wpS_seq
  apply wpS_region
  simp [wpOpsS, go_sem, recoverD, hu, Tryz.ntmps78, Exit.thenS]
  have hne1 : ∀ w : World, (binOp BinOp.neq 20 .nilIface .nilIface).run Tryz.prog w = .ok (.bool false) w := fun _ => by kernel_rfl
  refine wpS_of_wp ?_
  go_wp2

  cases c₀
  simp_all [bodyPostS, results, Tryz.results78]

end Go.Proofs.YtnocnkblhjifjaaGreatDoor
/-
  A declaration read whole (parse.readDeclaration): what gives up is recovered.
-/
namespace Go.Proofs.YtnocnkblhjifjaaGreatDoor
open Go.RowKit

/-- Tokens in memory. -/
structure TokAt (tb o cap : Nat) (ts : Toks) (w : World) : Prop where
  len : ts.length ≤ 4000
  toks : ∀ t ∈ ts, Tok t ∧ t ≠ []
  own : ∃ cs, w.heap[tb]? = some (.cells cs tyStr (0, 0)) ∧ ts.length ≤ cap ∧ cap ≤ 9223372036854775807 ∧ ∀ i t, ts[i]? = some t → cs[o + i]? = some (strV t)

theorem TokAt.rq {tb o cap : Nat} {ts : Toks} {w : World} (h : TokAt tb o cap ts w) : Rq w.heap.size ts (w.alloc (.cells #[.slice (some ⟨tb, o, none⟩) ts.length cap] tyRdr)) := by
  obtain ⟨cs, h1, h2⟩ := h.own
  exact ⟨h.len, h.toks, tb, o, cap, cs, by simp only [World.alloc, Array.getElem?_push_size], by rw [Below.heap_alloc _ _ _ (lt_of_heap h1)]; exact h1, h2⟩

/-- The tree of a declaration, or nil. -/
def AnsR (w : World) (o : Option Tr) (e : Ending) (w' : World) : Prop := Below w.heap.size w w' ∧ ((o = none ∧ e = .returned (.pointer none)) ∨ ∃ t b, o = some t ∧ e = .returned (ptrV b) ∧ Mem (From w) w' 4 t b)

theorem kq_below {w w1 w2 : World} (h : Kq w.heap.size w1 w2) (h1 : Below w.heap.size w w1) : Below w.heap.size w w2 :=
  ⟨h.os.trans h1.os, h.tape.trans h1.tape, h.output.trans h1.output, Nat.le_trans h1.size h.size, fun k hk => by
    rw [h.block k (Nat.lt_of_lt_of_le hk h1.size) (by omega)]; exact h1.block k hk⟩

set_option maxRecDepth 100000 in
set_option maxHeartbeats 4000000 in
theorem p_readDeclaration (hF : FunOf) {tb o cap : Nat} (ts : Toks) (w : World) (h : TokAt tb o cap ts w) : Calls Tryz.prog 51 #[.slice (some ⟨tb, o, none⟩) ts.length cap] w (AnsR w ((Classical.choice lf).decl ts)) := by
  have HD := hide (p_declaration hF ts _ h.rq)
  have HE := hide (decl_prog ts)
  have HB := hide ((Below.refl w.heap.size w).alloc (Nat.le_refl _) (.cells #[.slice (some ⟨tb, o, none⟩) ts.length cap] tyRdr))
  have HEnd := hide (fun (r : Toks) (w1 : World) (h : Rq w.heap.size r w1) => end_any h)
  have hsz : w.heap.size ≤ (w.alloc (.cells #[.slice (some ⟨tb, o, none⟩) ts.length cap] tyRdr)).heap.size := by simp
  have HSZ := hide hsz
  clear h hF hsz
  unfold ptrV at *
  generalize ts.length = n at *
  go_enter_defers Tryz.func51, Tryz.ntmps51
  go_wp2_with fail
  refine (HD.out).mono ?_
  rintro e w2 ⟨hk2, ⟨ho2, rfl⟩ | ⟨t2, r2, b2, ho2, rfl, hm2, hr2⟩⟩
  · have HQ := hide (show AnsR w ((Classical.choice lf).decl ts) (.returned (.pointer none)) w2 from ⟨kq_below hk2 HB.out, Or.inl ⟨by rw [HE.out, ho2] <;> rfl, rfl⟩⟩)
    unfold gaveUp noForm
    go_wp2

    refine leaves_cons (f := 78) (args := #[]) (by simp) (by simp [go_sem]) ?_
    refine (catch_up _).mono ?_
    rintro e u' w'' ⟨rfl, rfl, rfl⟩
    simp [Leaves, settle, results, Tryz.results51, go_sem]

    exact HQ.out
  · have HC := hide (HEnd.out r2 w2 hr2)
    unfold ptrV at *
    go_wp2_with fail
    refine (HC.out).mono ?_
    rintro e w3 ⟨rfl, ⟨hne, rfl⟩ | ⟨rfl, rfl⟩⟩
    · have HQ := hide (show AnsR w ((Classical.choice lf).decl ts) (.returned (.pointer none)) w3 from ⟨kq_below hk2 HB.out, Or.inl ⟨by rw [HE.out, ho2]; cases r2 with
        | nil => exact absurd rfl hne
        | cons a b => rfl, rfl⟩⟩)
      unfold gaveUp noForm
      go_wp2
      refine leaves_cons (f := 78) (args := #[]) (by simp) (by simp [go_sem]) ?_
      refine (catch_up _).mono ?_
      rintro e u' w'' ⟨rfl, rfl, rfl⟩
      simp [Leaves, settle, results, Tryz.results51, go_sem]
      exact HQ.out
    · have HQ := hide (show AnsR w ((Classical.choice lf).decl ts) (.returned (ptrV b2)) w3 from ⟨kq_below hk2 HB.out, Or.inr ⟨t2, b2, by rw [HE.out, ho2] <;> rfl, rfl, hm2.wide fun k hf _ => Nat.le_trans HSZ.out hf⟩⟩)
      go_wp2
      refine leaves_cons (f := 78) (args := #[]) (by simp) (by simp [go_sem]) ?_
      refine (catch_idle _).mono ?_
      rintro e u' w'' ⟨rfl, rfl, rfl⟩
      simp [Leaves, settle, results, Tryz.results51, go_sem]

      exact HQ.out

end Go.Proofs.YtnocnkblhjifjaaGreatDoor
