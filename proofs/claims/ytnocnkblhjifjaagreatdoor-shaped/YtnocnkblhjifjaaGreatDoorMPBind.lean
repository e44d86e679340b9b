import Derived.Test.YtnocnkblhjifjaaGreatDoorMPNames
import Derived.Deep.AppendSrc
/-
  Expressions (package parse): binding, expression, declaration by their contracts, over that of functionOf.
-/
namespace Go.Proofs.YtnocnkblhjifjaaGreatDoor
open Go.RowKit

/-- What functionOf does: functions of functions, the last name the innermost. -/
def FunOf : Prop := ∀ (w0 w : World) (v : Value) (l : Toks) (t : Tr) (b : Nat), w0.heap.size ≤ w.heap.size → w.ownsRow 0 tyStr 1 v l.length (l.map strV) → l.length ≤ 4001 → Mem (From w0) w 0 t b →
  Calls Tryz.prog 205 #[v, ptrV b] w fun e w' => ∃ b', e = .returned (ptrV b') ∧ Hid (Mem (From w0) w' 0 (G.curried l t) b' ∧ Below w.heap.size w w')

/-- What a binding answers. -/
def AnsB (rb : Nat) (w : World) (o : Option (List UInt8 × List UInt8 × Tr × Toks)) (e : Ending) (w' : World) : Prop :=
  Kq rb w w' ∧ ((o = none ∧ e = gaveUp) ∨ ∃ is x t r b k, o = some (is, x, t, r) ∧ ((is = K.let_ ∧ k = 6) ∨ (is = K.rec_ ∧ k = 7)) ∧ e = .returned (.tuple #[.int .i64 k, .string (bs x), ptrV b]) ∧ Mem (From w) w' 0 t b ∧ Rq rb r w')

theorem AnsB.no {rb : Nat} {w w' : World} {o : Option (List UInt8 × List UInt8 × Tr × Toks)} (hk : Kq rb w w') (ho : o = none) : AnsB rb w o gaveUp w' := ⟨hk, Or.inl ⟨ho, rfl⟩⟩

/-- The value of a binding, behind its name, as the program goes. -/
def LFam.bindE (L : LFam) (rc : Bool) (x : List UInt8) (ts : Toks) : Option (List UInt8 × List UInt8 × Tr × Toks) :=
  bif rc && (G.every 110 ts).1.isEmpty then none else (G.want K.eq_ (G.every 110 ts).2).bind fun r => (L.expr r).bind fun z => some (bif rc then K.rec_ else K.let_, x, G.curried (G.every 110 ts).1 z.1, z.2)

theorem binding_prog (ts : Toks) : (Classical.choice lf).binding ts = (G.kind 110 (bif G.isW K.rec_ ts then ts.tail else ts)).bind fun nm => (Classical.choice lf).bindE (G.isW K.rec_ ts) nm.1 nm.2 := (Classical.choice lf).binding_eq ts

theorem every_wt (k : Int) (ts : Toks) : wt (G.every k ts).2 ≤ wt ts := by have := wt_every k ts; omega

theorem Rq.onto {rb : Nat} {ts : Toks} {w w' : World} (h : Rq rb ts w) (hb : Below w.heap.size w w') : Rq rb ts w' := h.kept fun k hk => hb.block k hk

set_option maxRecDepth 100000 in
set_option maxHeartbeats 4000000 in
theorem p_binding {rb m : Nat} (hF : FunOf) (hX : ∀ ts w, wt ts < m → Rq rb ts w → ExprAt rb ts w) (ts : Toks) (w : World) (hm : wt ts ≤ m) (h : Rq rb ts w) : Calls Tryz.prog 142 #[ptrV rb] w (AnsB rb w ((Classical.choice lf).binding ts)) := by
  have H1 := hide (accept_w (x := K.rec_) bsK_rec (by decide) h)
  have HNm := hide (fun (ts : Toks) (w : World) (h : Rq rb ts w) => name_any h)
  have HNs := hide (fun (ts : Toks) (w : World) (h : Rq rb ts w) => p_names ts w h)
  have HX := hide (fun (ts : Toks) (w : World) (h : Rq rb ts w) => expect_w (x := K.eq_) bsK_eq (by decide) h)
  have HE1 := hide hX
  unfold ExprAt at HE1
  have HE := hide (binding_prog ts)
  clear hX h
  go_enter Tryz.func142, Tryz.ntmps142
  go_wp2_with fail
  refine (H1.out).mono ?_; rintro e w2 ⟨hk2, ⟨ho2, rfl, hr2⟩ | ⟨ho2, rfl, hr2⟩⟩
  · rw [ho2, cond_false] at HE
    have HC := hide (HNm.out ts w2 hr2)
    go_wp2_with fail
    refine (HC.out).mono ?_; rintro e w3 ⟨hk3, ⟨ho3, rfl⟩ | ⟨x3, r3, ho3, rfl, hr3⟩⟩
    · have HQ := hide ((AnsB.no (o := (Classical.choice lf).binding ts) (hk2.to hk3) (by rw [HE.out, ho3] <;> rfl)))
      unfold gaveUp noForm
      go_wp2
      exact ⟨rfl, HQ.out⟩
    · have hw3 := wt_kindO (by decide) ho3
      have hw3 : wt ts = x3.length + 20 + wt r3 := hw3
      have hw4 := every_wt 110 r3
      have HB := hide (show (Classical.choice lf).binding ts = (Classical.choice lf).bindE false x3 r3 by rw [HE.out, ho3, Option.bind_some] <;> rfl)
      have HC := hide (HNs.out r3 w3 hr3)
      go_wp2_with fail
      refine (HC.out).mono ?_; rintro e w4 ⟨v4, rfl, hk4, hv4, hr4, hl4⟩
      have HD := hide (HX.out _ w4 hr4)
      go_wp2_with fail
      refine (HD.out).mono ?_; rintro e w5 ⟨hk5, ⟨ho5, rfl⟩ | ⟨r5, ho5, rfl, hr5⟩⟩
      · have HQ := hide ((AnsB.no (o := (Classical.choice lf).binding ts) (((hk2.to hk3).to hk4).to hk5) (by rw [HB.out]; unfold LFam.bindE; rw [Bool.false_and, cond_false, ho5] <;> rfl)))
        unfold gaveUp noForm
        go_wp2
        exact ⟨rfl, HQ.out⟩
      · have hw5 := wt_want ho5
        have HD := hide (HE1.out r5 w5 (by omega) hr5)
        have hv5 := ownsRow_kept (w' := w5) hv4 fun k c f _ he => kq_other (by decide) hr4.isR hk5 he
        go_wp2_with fail
        refine (HD.out).mono ?_; rintro e w6 ⟨hk6, ⟨ho6, rfl⟩ | ⟨t6, r6, b6, ho6, rfl, hm6, hr6⟩⟩
        · have HQ := hide ((AnsB.no (o := (Classical.choice lf).binding ts) ((((hk2.to hk3).to hk4).to hk5).to hk6) (by rw [HB.out]; unfold LFam.bindE; rw [Bool.false_and, cond_false, ho5, Option.bind_some, ho6] <;> rfl)))
          unfold gaveUp noForm
          go_wp2
          exact ⟨rfl, HQ.out⟩
        · have hv6 := ownsRow_kept (w' := w6) hv5 fun k c f _ he => kq_other (by decide) hr5.isR hk6 he
          have hq6 := (((hk2.to hk3).to hk4).to hk5).to hk6
          have HF := hide (hF w w6 v4 (G.every 110 r3).1 t6 b6 hq6.size (ownsRow_base hv6 (Nat.zero_le _)) (by omega) (hm6.since ((((hk2.to hk3).to hk4).to hk5))))
          have HFin := hide (show (Classical.choice lf).binding ts = some (K.let_, x3, G.curried (G.every 110 r3).1 t6, r6) by rw [HB.out]; unfold LFam.bindE; rw [Bool.false_and, cond_false, ho5, Option.bind_some, ho6] <;> rfl)
          have HR6 := hide hr6
          have HQ6 := hide hq6
          clear hv4 hv5 hv6 hr4 hr5 hr6 hm6 hq6 ho6 ho5 ho3 hk6 hk5 hk4 hk3 HB HD HC
          go_wp2_with fail
          refine (HF.out).mono ?_; rintro e w7 ⟨b7, rfl, h7⟩
          have HQ := hide (show AnsB rb w ((Classical.choice lf).binding ts) (.returned (.tuple #[.int .i64 6, .string (bs x3), ptrV b7])) w7 from ⟨HQ6.out.to (Kq.of_below h7.out.2), Or.inr ⟨_, _, _, _, b7, 6, HFin.out, Or.inl ⟨rfl, rfl⟩, rfl, h7.out.1, HR6.out.onto h7.out.2⟩⟩)
          clear h7 HF HFin HR6 HQ6
          unfold ptrV at *
          go_wp2
          go_ret3
          exact HQ.out
  · rw [ho2, cond_true] at HE
    have hw2 := wt_isW_lt ho2
    have HC := hide (HNm.out ts.tail w2 hr2)
    go_wp2_with fail
    refine (HC.out).mono ?_; rintro e w3 ⟨hk3, ⟨ho3, rfl⟩ | ⟨x3, r3, ho3, rfl, hr3⟩⟩
    · have HQ := hide ((AnsB.no (o := (Classical.choice lf).binding ts) (hk2.to hk3) (by rw [HE.out, ho3] <;> rfl)))
      unfold gaveUp noForm
      go_wp2
      exact ⟨rfl, HQ.out⟩
    · have hw3 := wt_kindO (by decide) ho3
      have hw3 : wt ts.tail = x3.length + 20 + wt r3 := hw3
      have hw4 := every_wt 110 r3
      have HB := hide (show (Classical.choice lf).binding ts = (Classical.choice lf).bindE true x3 r3 by rw [HE.out, ho3, Option.bind_some] <;> rfl)
      have HC := hide (HNs.out r3 w3 hr3)
      go_wp2_with fail
      refine (HC.out).mono ?_; rintro e w4 ⟨v4, rfl, hk4, hv4, hr4, hl4⟩
      rcases ownsRow_forms hv4 with ⟨rfl, hn0⟩ | ⟨g, cap, rfl⟩
      · have he0 : (G.every 110 r3).1.isEmpty = true := by rw [List.length_eq_zero_iff.1 hn0]; rfl
        have HQ := hide (AnsB.no (o := (Classical.choice lf).binding ts) ((hk2.to hk3).to hk4) (by rw [HB.out]; unfold LFam.bindE; rw [he0] <;> rfl))
        unfold gaveUp noForm at HQ
        clear hv4 hr4 hl4 he0
        go_wp2
        exact ⟨rfl, HQ.out⟩
      · by_cases hn0 : (G.every 110 r3).1.length = 0
        · have he0 : (G.every 110 r3).1.isEmpty = true := by rw [List.length_eq_zero_iff.1 hn0]; rfl
          have HQ := hide (AnsB.no (o := (Classical.choice lf).binding ts) ((hk2.to hk3).to hk4) (by rw [HB.out]; unfold LFam.bindE; rw [he0] <;> rfl))
          unfold gaveUp noForm at HQ
          clear hv4 hr4 hl4 he0
          generalize (G.every 110 r3).1.length = n at *
          subst hn0
          go_wp2
          exact ⟨rfl, HQ.out⟩
        · have hne : (true && (G.every 110 r3).1.isEmpty) = false := by
            cases h : (G.every 110 r3).1 with
            | nil => rw [h] at hn0; simp at hn0
            | cons a b => rfl
          have hn1 : ¬ ((G.every 110 r3).1.length : Int) = 0 := by omega
          have hn2 : (((G.every 110 r3).1.length : Int) == 0) = false := by simpa using hn1
          have HD := hide (HX.out _ w4 hr4)
          go_wp2_with fail
          refine (HD.out).mono ?_; rintro e w5 ⟨hk5, ⟨ho5, rfl⟩ | ⟨r5, ho5, rfl, hr5⟩⟩
          · have HQ := hide ((AnsB.no (o := (Classical.choice lf).binding ts) (((hk2.to hk3).to hk4).to hk5) (by rw [HB.out]; unfold LFam.bindE; rw [hne, ho5] <;> rfl)))
            unfold gaveUp noForm
            go_wp2
            exact ⟨rfl, HQ.out⟩
          · have hw5 := wt_want ho5
            have HD := hide (HE1.out r5 w5 (by omega) hr5)
            have hv5 := ownsRow_kept (w' := w5) hv4 fun k c f _ he => kq_other (by decide) hr4.isR hk5 he
            go_wp2_with fail
            refine (HD.out).mono ?_; rintro e w6 ⟨hk6, ⟨ho6, rfl⟩ | ⟨t6, r6, b6, ho6, rfl, hm6, hr6⟩⟩
            · have HQ := hide ((AnsB.no (o := (Classical.choice lf).binding ts) ((((hk2.to hk3).to hk4).to hk5).to hk6) (by rw [HB.out]; unfold LFam.bindE; rw [hne, cond_false, ho5, Option.bind_some, ho6] <;> rfl)))
              unfold gaveUp noForm
              go_wp2
              exact ⟨rfl, HQ.out⟩
            · have hv6 := ownsRow_kept (w' := w6) hv5 fun k c f _ he => kq_other (by decide) hr5.isR hk6 he
              have hq6 := (((hk2.to hk3).to hk4).to hk5).to hk6
              have HF := hide (hF w w6 (.slice (some ⟨g, 0, none⟩) (G.every 110 r3).1.length cap) (G.every 110 r3).1 t6 b6 hq6.size (ownsRow_base hv6 (Nat.zero_le _)) (by omega) (hm6.since ((((hk2.to hk3).to hk4).to hk5))))
              have HFin := hide (show (Classical.choice lf).binding ts = some (K.rec_, x3, G.curried (G.every 110 r3).1 t6, r6) by rw [HB.out]; unfold LFam.bindE; rw [hne, cond_false, ho5, Option.bind_some, ho6] <;> rfl)
              have HR6 := hide hr6
              have HQ6 := hide hq6
              clear hv4 hv5 hv6 hr4 hr5 hr6 hm6 hq6 ho6 ho5 ho3 hk6 hk5 hk4 hk3 HB HD HC
              go_wp2_with fail
              refine (HF.out).mono ?_; rintro e w7 ⟨b7, rfl, h7⟩
              have HQ := hide (show AnsB rb w ((Classical.choice lf).binding ts) (.returned (.tuple #[.int .i64 7, .string (bs x3), ptrV b7])) w7 from ⟨HQ6.out.to (Kq.of_below h7.out.2), Or.inr ⟨_, _, _, _, b7, 7, HFin.out, Or.inr ⟨rfl, rfl⟩, rfl, h7.out.1, HR6.out.onto h7.out.2⟩⟩)
              clear h7 HF HFin HR6 HQ6
              unfold ptrV at *
              go_wp2
              go_ret3
              exact HQ.out

end Go.Proofs.YtnocnkblhjifjaaGreatDoor
