import Derived.Test.YtnocnkblhjifjaaGreatDoorMPTypeDecl
import Derived.Test.YtnocnkblhjifjaaGreatDoorShelf
import Derived.Lib.TrimByte
/-
  What is one token (package parse): withoutNoughts, plain by their contracts; in brackets.
-/
namespace Go.Proofs.YtnocnkblhjifjaaGreatDoor
open Go.RowKit

theorem trim_no {a : UInt8} (h : a ≠ 48) (r : List UInt8) : Lib.trimLeftB (a :: r) 48 = a :: r := by
  have e : (a == 48) = false := by simpa using h
  unfold Lib.trimLeftB
  rw [List.dropWhile_cons, e]
  rfl

theorem trim_yes (r : List UInt8) : Lib.trimLeftB (48 :: r) 48 = Lib.trimLeftB r 48 := by
  unfold Lib.trimLeftB
  rw [List.dropWhile_cons]
  rfl

theorem trim_number : ∀ l : List UInt8, l ≠ [] → (if Lib.trimLeftB l 48 = [] then [48] else Lib.trimLeftB l 48) = numberP l := by
  intro l
  induction l with
  | nil => intro h; exact absurd rfl h
  | cons a r ih =>
    intro _
    cases r with
    | nil =>
      rw [numberP]
      by_cases ha : a = 48
      · subst ha; rfl
      · rw [trim_no ha, if_neg (by simp)]
    | cons b r =>
      rw [numberP]
      by_cases ha : a = 48
      · subst ha
        rw [if_pos rfl, ← ih (by simp), trim_yes]
      · rw [if_neg ha, trim_no ha, if_neg (by simp)]

set_option maxHeartbeats 1000000 in
theorem p_noughts (l : List UInt8) (hl : l ≠ []) (w : World) : Calls Tryz.prog 444 #[.string (bs l)] w fun e w' => e = .returned (.string (bs (numberP l))) ∧ w' = w := by
  have hT := Tryz.strings_TrimLeft_one (bs l) 48 (by decide) w
  rw [bs_data] at hT
  have hn := trim_number l hl
  have HT := hide hT
  by_cases h0 : Lib.trimLeftB l 48 = []
  · rw [if_pos h0] at hn
    rw [h0] at HT
    have hz : (bs (numberP l)) = ⟨#[48]⟩ := by rw [← hn]; rfl
    rw [hz]
    clear hT hn h0 hz
    go_enter Tryz.func444, Tryz.ntmps444
    go_wp2_with fail
    refine (HT.out).mono ?_; rintro e w1 ⟨rfl, rfl⟩
    go_wp2
    go_ret
    exact ⟨rfl, rfl⟩
  · rw [if_neg h0] at hn
    rw [hn] at HT h0
    have he : (bs (numberP l)).toList.isEmpty = false := by
      rw [ByteArray.toList_eq, bs_data]
      cases h : numberP l with
      | nil => exact absurd h h0
      | cons a r => rfl
    have HT2 : Hid (Calls Tryz.prog 446 #[.string (bs l), .string ⟨#[48]⟩] w fun e w' => e = .returned (.string (bs (numberP l))) ∧ w' = w) := HT
    clear hT hn h0 HT
    generalize bs (numberP l) = bn at *
    generalize bs l = bl at *
    go_enter Tryz.func444, Tryz.ntmps444
    go_wp2_with fail
    refine (HT2.out).mono ?_; rintro e w1 ⟨rfl, rfl⟩
    go_wp2
    go_ret
    exact ⟨rfl, rfl⟩

theorem plain_cons {t : List UInt8} {r : Toks} : G.plain (t :: r) = bif tokKind t == 100 then some (.mk K.num_ (numberP t) [], r) else bif tokKind t == 110 then some (.mk K.var_ t [], r) else bif tokKind t == 99 then some (.mk K.con_ t [], r) else bif G.isW K.true_ (t :: r) || G.isW K.false_ (t :: r) then some (.mk K.const_ t [], r) else none := rfl

theorem bs_lit (t x : List UInt8) : ((bs t).toList == x) = (t == x) := by rw [ByteArray.toList_eq, bs_data]

set_option maxHeartbeats 4000000 in
theorem p_plain {rb : Nat} (c : Nat) (hc : c ≤ 1) (ts : Toks) (w : World) (h : Rq rb ts w) : Calls Tryz.prog 440 #[ptrV rb] w (AnsO rb c w ((Classical.choice lf).plainO ts)) := by
  have HP := hide (peek_any h)
  have HI1 := hide (IsName_tok h.head w)
  have HI2 := hide (IsConstructor_tok h.head w)
  have HI3 := hide (IsNumber_tok h.head w)
  have htr := isW_eq (x := K.true_) (by decide) ts
  have hfa := isW_eq (x := K.false_) (by decide) ts
  cases k1 : (tokKind (ts.headD []) == 110)
  · rw [k1] at HI1
    cases k2 : (tokKind (ts.headD []) == 99)
    · rw [k2] at HI2
      cases k3 : (tokKind (ts.headD []) == 100)
      · rw [k3] at HI3
        cases k4 : (ts.headD [] == K.true_)
        · cases k5 : (ts.headD [] == K.false_)
          · have HQ := hide (AnsO.nil (c := c) (o := (Classical.choice lf).plainO ts) (Kq.refl rb w) (by unfold LFam.plainO G.plain G.kindOf; rw [k1, k2, k3, htr, hfa, k4, k5] <;> rfl) h)
            have e4 : ((bs (ts.headD [])).toList == [116, 114, 117, 101]) = false := (bs_lit (ts.headD []) K.true_).trans k4
            have e5 : ((bs (ts.headD [])).toList == [102, 97, 108, 115, 101]) = false := (bs_lit (ts.headD []) K.false_).trans k5
            clear h htr hfa k1 k2 k3 k4 k5
            generalize bs (ts.headD []) = bx at *
            go_enter Tryz.func440, Tryz.ntmps440
            go_wp2_with fail
            refine (HP.out).mono ?_; rintro e w1 ⟨rfl, rfl⟩
            go_wp2_with fail
            refine (HI1.out).mono ?_; rintro e w1 ⟨rfl, rfl⟩
            go_wp2_with fail
            refine (HI2.out).mono ?_; rintro e w1 ⟨rfl, rfl⟩
            go_wp2_with fail
            refine (HI3.out).mono ?_; rintro e w1 ⟨rfl, rfl⟩
            go_wp2_with fail
            go_ret
            exact HQ.out
          · obtain ⟨t, r, rfl⟩ : ∃ t r, ts = t :: r := by
              cases ts with
              | nil => exact absurd k5 (by decide)
              | cons t r => exact ⟨t, r, rfl⟩
            have HT := hide (take_one h)
            have HN := hide (fun (w1 : World) => New_any 1 (bs t) none 0 0 w1)
            have ek : (tokKind t == 110) = false := k1
            have ek2 : (tokKind t == 99) = false := k2
            have ek3 : (tokKind t == 100) = false := k3
            have ew : (G.isW K.true_ (t :: r) || G.isW K.false_ (t :: r)) = true := by rw [htr, hfa]; show ((t == K.true_) || (t == K.false_)) = true; rw [show (t == K.true_) = false from k4, show (t == K.false_) = true from k5] <;> rfl
            have e4 : ((bs t).toList == [116, 114, 117, 101]) = false := (bs_lit t K.true_).trans k4
            have e5 : ((bs t).toList == [102, 97, 108, 115, 101]) = true := (bs_lit t K.false_).trans k5
            have hx : t = K.false_ := by simpa using k5
            have HQ := hide (fun (w1 : World) (q1 : Kq rb w w1) (q2 : Rq rb r w1) => AnsO.yes (c := c) (o := (Classical.choice lf).plainO (t :: r)) (q1.alloc (.cells #[.int .i64 1, .string (bs t), .slice none 0 0] tyTree)) (by unfold LFam.plainO; rw [plain_cons, ek, ek2, ek3, ew] <;> rfl) (Mem.leaf (A := From w) (KindOf.bool c hc t (Or.inr hx)) w1) (q2.alloc _))
            rw [show (t :: r).headD [] = t from rfl] at *
            clear h htr hfa k1 k2 k3 k4 k5 ek ek2 ek3 ew hx
            generalize AnsO rb c w ((Classical.choice lf).plainO (t :: r)) = Q at *
            generalize bs t = bx at *
            go_enter Tryz.func440, Tryz.ntmps440
            go_wp2_with fail
            refine (HP.out).mono ?_; rintro e w1 ⟨rfl, rfl⟩
            go_wp2_with fail
            refine (HI1.out).mono ?_; rintro e w1 ⟨rfl, rfl⟩
            go_wp2_with fail
            refine (HI2.out).mono ?_; rintro e w1 ⟨rfl, rfl⟩
            go_wp2_with fail
            refine (HI3.out).mono ?_; rintro e w1 ⟨rfl, rfl⟩
            go_wp2_with fail
            refine (HT.out).mono ?_; rintro e w1 ⟨rfl, hT⟩
            go_wp2_with fail
            refine (HN.out _).mono ?_; rintro e w2 ⟨rfl, rfl⟩
            go_wp2
            exact HQ.out _ hT.out.1 hT.out.2
        · obtain ⟨t, r, rfl⟩ : ∃ t r, ts = t :: r := by
            cases ts with
            | nil => exact absurd k4 (by decide)
            | cons t r => exact ⟨t, r, rfl⟩
          have HT := hide (take_one h)
          have HN := hide (fun (w1 : World) => New_any 1 (bs t) none 0 0 w1)
          have ek : (tokKind t == 110) = false := k1
          have ek2 : (tokKind t == 99) = false := k2
          have ek3 : (tokKind t == 100) = false := k3
          have ew : (G.isW K.true_ (t :: r) || G.isW K.false_ (t :: r)) = true := by rw [htr, hfa]; show ((t == K.true_) || (t == K.false_)) = true; rw [show (t == K.true_) = true from k4] <;> rfl
          have e4 : ((bs t).toList == [116, 114, 117, 101]) = true := (bs_lit t K.true_).trans k4
          have hx : t = K.true_ := by simpa using k4
          have HQ := hide (fun (w1 : World) (q1 : Kq rb w w1) (q2 : Rq rb r w1) => AnsO.yes (c := c) (o := (Classical.choice lf).plainO (t :: r)) (q1.alloc (.cells #[.int .i64 1, .string (bs t), .slice none 0 0] tyTree)) (by unfold LFam.plainO; rw [plain_cons, ek, ek2, ek3, ew] <;> rfl) (Mem.leaf (A := From w) (KindOf.bool c hc t (Or.inl hx)) w1) (q2.alloc _))
          rw [show (t :: r).headD [] = t from rfl] at *
          clear h htr hfa k1 k2 k3 k4 ek ek2 ek3 ew hx
          generalize AnsO rb c w ((Classical.choice lf).plainO (t :: r)) = Q at *
          generalize bs t = bx at *
          go_enter Tryz.func440, Tryz.ntmps440
          go_wp2_with fail
          refine (HP.out).mono ?_; rintro e w1 ⟨rfl, rfl⟩
          go_wp2_with fail
          refine (HI1.out).mono ?_; rintro e w1 ⟨rfl, rfl⟩
          go_wp2_with fail
          refine (HI2.out).mono ?_; rintro e w1 ⟨rfl, rfl⟩
          go_wp2_with fail
          refine (HI3.out).mono ?_; rintro e w1 ⟨rfl, rfl⟩
          go_wp2_with fail
          refine (HT.out).mono ?_; rintro e w1 ⟨rfl, hT⟩
          go_wp2_with fail
          refine (HN.out _).mono ?_; rintro e w2 ⟨rfl, rfl⟩
          go_wp2
          exact HQ.out _ hT.out.1 hT.out.2
      · rw [k3] at HI3
        obtain ⟨t, r, rfl⟩ := kind_cons (ts := ts) (k := 100) (by decide) k3
        have HT := hide (take_one h)
        have HN := hide (fun (w1 : World) => New_any 0 (bs (numberP t)) none 0 0 w1)
        have ek3 : (tokKind t == 100) = true := k3
        have HNO := hide (fun (w1 : World) => p_noughts t (by rintro rfl; exact absurd (show (tokKind [] == 100) = true from k3) (by decide)) w1)
        have HQ := hide (fun (w1 : World) (q1 : Kq rb w w1) (q2 : Rq rb r w1) => AnsO.yes (c := c) (o := (Classical.choice lf).plainO (t :: r)) (q1.alloc (.cells #[.int .i64 0, .string (bs (numberP t)), .slice none 0 0] tyTree)) (by unfold LFam.plainO; rw [plain_cons, ek3] <;> rfl) (Mem.leaf (A := From w) (KindOf.num c hc (numberP t)) w1) (q2.alloc _))
        rw [show (t :: r).headD [] = t from rfl] at *
        clear h htr hfa k1 k2 k3 ek3
        generalize AnsO rb c w ((Classical.choice lf).plainO (t :: r)) = Q at *
        generalize bs (numberP t) = bn at *
        generalize bs t = bx at *
        go_enter Tryz.func440, Tryz.ntmps440
        go_wp2_with fail
        refine (HP.out).mono ?_; rintro e w1 ⟨rfl, rfl⟩
        go_wp2_with fail
        refine (HI1.out).mono ?_; rintro e w1 ⟨rfl, rfl⟩
        go_wp2_with fail
        refine (HI2.out).mono ?_; rintro e w1 ⟨rfl, rfl⟩
        go_wp2_with fail
        refine (HI3.out).mono ?_; rintro e w1 ⟨rfl, rfl⟩
        go_wp2_with fail
        refine (HT.out).mono ?_; rintro e w1 ⟨rfl, hT⟩
        go_wp2_with fail
        refine (HNO.out w1).mono ?_; rintro e w2 ⟨rfl, rfl⟩
        go_wp2_with fail
        refine (HN.out _).mono ?_; rintro e w2 ⟨rfl, rfl⟩
        go_wp2
        exact HQ.out _ hT.out.1 hT.out.2
    · rw [k2] at HI2
      obtain ⟨t, r, rfl⟩ := kind_cons (ts := ts) (k := 99) (by decide) k2
      have HT := hide (take_one h)
      have HN := hide (fun (w1 : World) => New_any 14 (bs t) none 0 0 w1)
      have ek : (tokKind t == 110) = false := k1
      have ek2 : (tokKind t == 99) = true := k2
      have ek3 : (tokKind t == 100) = false := kind_not (ts := t :: r) (k := 99) (j := 100) (by decide) k2
      have HQ := hide (fun (w1 : World) (q1 : Kq rb w w1) (q2 : Rq rb r w1) => AnsO.yes (c := c) (o := (Classical.choice lf).plainO (t :: r)) (q1.alloc (.cells #[.int .i64 14, .string (bs t), .slice none 0 0] tyTree)) (by unfold LFam.plainO; rw [plain_cons, ek, ek2, ek3] <;> rfl) (Mem.leaf (A := From w) (KindOf.con c hc t 0) w1) (q2.alloc _))
      rw [show (t :: r).headD [] = t from rfl] at *
      clear h htr hfa k1 k2 ek ek2 ek3
      generalize AnsO rb c w ((Classical.choice lf).plainO (t :: r)) = Q at *
      generalize bs t = bx at *
      go_enter Tryz.func440, Tryz.ntmps440
      go_wp2_with fail
      refine (HP.out).mono ?_; rintro e w1 ⟨rfl, rfl⟩
      go_wp2_with fail
      refine (HI1.out).mono ?_; rintro e w1 ⟨rfl, rfl⟩
      go_wp2_with fail
      refine (HI2.out).mono ?_; rintro e w1 ⟨rfl, rfl⟩
      go_wp2_with fail
      refine (HT.out).mono ?_; rintro e w1 ⟨rfl, hT⟩
      go_wp2_with fail
      refine (HN.out _).mono ?_; rintro e w2 ⟨rfl, rfl⟩
      go_wp2
      exact HQ.out _ hT.out.1 hT.out.2
  · rw [k1] at HI1
    obtain ⟨t, r, rfl⟩ := kind_cons (ts := ts) (k := 110) (by decide) k1
    have HT := hide (take_one h)
    have HN := hide (fun (w1 : World) => New_any 3 (bs t) none 0 0 w1)
    have ek : (tokKind t == 110) = true := k1
    have ek3 : (tokKind t == 100) = false := kind_not (ts := t :: r) (k := 110) (j := 100) (by decide) k1
    have HQ := hide (fun (w1 : World) (q1 : Kq rb w w1) (q2 : Rq rb r w1) => AnsO.yes (c := c) (o := (Classical.choice lf).plainO (t :: r)) (q1.alloc (.cells #[.int .i64 3, .string (bs t), .slice none 0 0] tyTree)) (by unfold LFam.plainO; rw [plain_cons, ek, ek3] <;> rfl) (Mem.leaf (A := From w) (KindOf.var c hc t) w1) (q2.alloc _))
    rw [show (t :: r).headD [] = t from rfl] at *
    clear h htr hfa k1 ek ek3
    generalize AnsO rb c w ((Classical.choice lf).plainO (t :: r)) = Q at *
    generalize bs t = bx at *
    go_enter Tryz.func440, Tryz.ntmps440
    go_wp2_with fail
    refine (HP.out).mono ?_; rintro e w1 ⟨rfl, rfl⟩
    go_wp2_with fail
    refine (HI1.out).mono ?_; rintro e w1 ⟨rfl, rfl⟩
    go_wp2_with fail
    refine (HT.out).mono ?_; rintro e w1 ⟨rfl, hT⟩
    go_wp2_with fail
    refine (HN.out _).mono ?_; rintro e w2 ⟨rfl, rfl⟩
    go_wp2
    exact HQ.out _ hT.out.1 hT.out.2

end Go.Proofs.YtnocnkblhjifjaaGreatDoor
/-
  In brackets; patterns (package parse): inBrackets, partPattern, pattern by their contracts.
-/
namespace Go.Proofs.YtnocnkblhjifjaaGreatDoor
open Go.RowKit

set_option maxHeartbeats 2000000 in
theorem p_inBrackets {rb c fk M : Nat} (hc : c ≤ 1) {fr : Toks → Option (Tr × Toks)} (HE : Enters fk) (HK : ∀ ts w, wt ts ≤ M → Rq rb ts w → Calls Tryz.prog fk #[ptrV rb] w (AnsN rb c w (fr ts))) (ts : Toks) (w : World) (hM : wt ts ≤ M) (h : Rq rb ts w) :
    Calls Tryz.prog 438 #[ptrV rb, .func (.func fk) #[ptrV rb] #[]] w (AnsN rb c w ((Classical.choice lf).inB fr ts)) := by
  have hE := fun (args : Array Value) (w : World) => HE args w
  have H1 := hide (accept_w (x := K.shut_) bsK_shut (by decide) h)
  have HX := hide (fun (ts : Toks) (w : World) (h : Rq rb ts w) => expect_w (x := K.shut_) bsK_shut (by decide) h)
  have HR := hide (fun (w : World) (h : Rq rb ts w) => HK ts w hM h)
  clear HK h HE
  go_enter Tryz.func438, Tryz.ntmps438
  go_wp2_with fail
  refine (H1.out).mono ?_; rintro e w1 ⟨hk1, ⟨ho1, rfl, hr1⟩ | ⟨ho1, rfl, hr1⟩⟩
  · have HC := hide (HR.out w1 hr1)
    go_wp2_with fail
    refine (HC.out).mono ?_; rintro e w2 ⟨hk2, ⟨ho2, rfl⟩ | ⟨t2, r2, b2, ho2, rfl, hm2, hr2⟩⟩
    · have HQ := hide (AnsN.no (c := c) (o := (Classical.choice lf).inB fr ts) (hk1.to hk2) (by unfold LFam.inB; rw [ho1, cond_false, ho2] <;> rfl))
      unfold gaveUp noForm
      go_wp2
      exact ⟨rfl, HQ.out⟩
    · have HD := hide (HX.out r2 w2 hr2)
      go_wp2_with fail
      refine (HD.out).mono ?_; rintro e w3 ⟨hk3, ⟨ho3, rfl⟩ | ⟨r3, ho3, rfl, hr3⟩⟩
      · have HQ := hide (AnsN.no (c := c) (o := (Classical.choice lf).inB fr ts) ((hk1.to hk2).to hk3) (by unfold LFam.inB; rw [ho1, cond_false, ho2, Option.bind_some, ho3] <;> rfl))
        unfold gaveUp noForm
        go_wp2
        exact ⟨rfl, HQ.out⟩
      · have HQ := hide (AnsN.yes (c := c) (o := (Classical.choice lf).inB fr ts) ((hk1.to hk2).to hk3) (by unfold LFam.inB; rw [ho1, cond_false, ho2, Option.bind_some, ho3] <;> rfl) ((hm2.since hk1).kq hr2 hk3) hr3)
        unfold ptrV at *
        go_wp2
        go_ret
        exact HQ.out
  · have HQ := hide (AnsN.yes (c := c) (o := (Classical.choice lf).inB fr ts) (hk1.alloc (.cells #[.int .i64 2, .string (bs K.unit_), .slice none 0 0] tyTree)) (by unfold LFam.inB; rw [ho1] <;> rfl) (Mem.leaf (A := From w) (KindOf.unit c hc) w1) (hr1.alloc _))
    have HN := hide (New_any 2 (bs K.unit_) none 0 0 w1)
    rw [bsK_unit] at HQ HN
    go_wp2_with fail
    refine (HN.out).mono ?_; rintro e w2 ⟨rfl, rfl⟩
    go_wp2
    go_ret
    exact HQ.out

/-- What a contract of pattern says. -/
def PatternAt (rb : Nat) (ts : Toks) (w : World) : Prop := Calls Tryz.prog 445 #[ptrV rb] w (AnsN rb 1 w ((Classical.choice lf).pattern ts))

theorem Enters.pattern : Enters 445 := enters Tryz.func445 (by kernel_rfl) rfl
theorem Enters.partPattern : Enters 447 := enters Tryz.func447 (by kernel_rfl) rfl
theorem Enters.expression : Enters 144 := enters Tryz.func144 (by kernel_rfl) rfl
theorem Enters.atom : Enters 428 := enters Tryz.func428 (by kernel_rfl) rfl
theorem Enters.product : Enters 397 := enters Tryz.func397 (by kernel_rfl) rfl
theorem Enters.application : Enters 413 := enters Tryz.func413 (by kernel_rfl) rfl

set_option maxHeartbeats 2000000 in
theorem p_partPattern {rb m : Nat} (hP : ∀ ts w, wt ts < m → Rq rb ts w → PatternAt rb ts w) (ts : Toks) (w : World) (hm : wt ts ≤ m) (h : Rq rb ts w) : Calls Tryz.prog 447 #[ptrV rb] w (AnsO rb 1 w ((Classical.choice lf).apattern ts)) := by
  have H1 := hide (accept_w (x := K.open_) bsK_open (by decide) h)
  have HA := hide (fun (ts : Toks) (w : World) (h : Rq rb ts w) => accept_w (x := K.under_) bsK_under (by decide) h)
  have HL := hide (fun (w : World) (h : Rq rb ts w) => p_plain 1 (Nat.le_refl _) ts w h)
  have HB := hide (fun (hlt : wt ts.tail < m) (w : World) (h : Rq rb ts.tail w) => p_inBrackets (M := wt ts.tail) (Nat.le_refl 1) Enters.pattern (fun ts2 w2 h1 h2 => hP ts2 w2 (by omega) h2) ts.tail w (Nat.le_refl _) h)
  have HE := hide (apattern_prog ts)
  have hmf : ∀ (fn : Fn) (first cap : Array Value) (w : World), (Instr.makeFunc fn first cap).run Tryz.prog w = .ok (.func fn first cap) w := fun _ _ _ _ => rfl
  clear hP h
  go_enter Tryz.func447, Tryz.ntmps447
  go_wp2_with fail
  refine (H1.out).mono ?_; rintro e w1 ⟨hk1, ⟨ho1, rfl, hr1⟩ | ⟨ho1, rfl, hr1⟩⟩
  · have HC := hide (HA.out ts w1 hr1)
    go_wp2_with fail
    refine (HC.out).mono ?_; rintro e w2 ⟨hk2, ⟨ho2, rfl, hr2⟩ | ⟨ho2, rfl, hr2⟩⟩
    · have HD := hide (HL.out w2 hr2)
      go_wp2_with fail
      refine (HD.out).mono ?_; intro e wz ha
      have HQ := hide (AnsO.as (o' := (Classical.choice lf).apattern ts) (hk1.to hk2) (by rw [HE.out, ho1, ho2] <;> rfl) ha)
      rcases ha.ends with rfl | ⟨v, rfl⟩
      · unfold gaveUp noForm
        clear ha
        go_wp2
        exact ⟨rfl, HQ.out⟩
      · clear ha
        go_wp2
        go_ret
        exact HQ.out
    · have HQ := hide (AnsO.yes (c := 1) (o := (Classical.choice lf).apattern ts) ((hk1.to hk2).alloc (.cells #[.int .i64 4, .string (bs K.under_), .slice none 0 0] tyTree)) (by rw [HE.out, ho1, ho2] <;> rfl) (Mem.leaf (A := From w) KindOf.wild w2) (hr2.alloc _))
      have HN := hide (New_any 4 (bs K.under_) none 0 0 w2)
      rw [bsK_under] at HQ HN
      go_wp2_with fail
      refine (HN.out).mono ?_; rintro e w3 ⟨rfl, rfl⟩
      go_wp2
      go_ret
      exact HQ.out
  · have hlt := wt_isW_lt ho1
    have HC := hide (HB.out (by omega) w1 hr1)
    go_wp2_with fail
    refine (HC.out).mono ?_; intro e wz ha
    have HQ := hide ((fun (z : AnsN rb 1 w1 ((Classical.choice lf).inB (Classical.choice lf).pattern ts.tail) _ _) => AnsO.as (o' := (Classical.choice lf).apattern ts) hk1 (by rw [HE.out, ho1] <;> rfl) z.there) ha)
    rcases ha.ends with rfl | ⟨v, rfl⟩
    · unfold gaveUp noForm
      clear ha
      go_wp2
      exact ⟨rfl, HQ.out⟩
    · clear ha
      go_wp2
      go_ret
      exact HQ.out

theorem apattern_wt (ts : Toks) (t : Tr) (r : Toks) (h : (Classical.choice lf).apattern ts = some (some t, r)) : wt r < wt ts := by
  have := (Classical.choice lf).apattern_w h
  have h2 : mu t + 9 + wt r ≤ wt ts := this
  omega
theorem atom_wt (ts : Toks) (t : Tr) (r : Toks) (h : (Classical.choice lf).atom ts = some (some t, r)) : wt r < wt ts := by
  have := (Classical.choice lf).atom_w h
  have h2 : mu t + 9 + wt r ≤ wt ts := this
  omega

theorem p_apatterns {rb m : Nat} (hP : ∀ ts w, wt ts < m → Rq rb ts w → PatternAt rb ts w) (ts : Toks) (w : World) (hm : wt ts ≤ m) (h : Rq rb ts w) : Calls Tryz.prog 199 #[.func (.func 447) #[ptrV rb] #[]] w (AnsS rb 1 w ((Classical.choice lf).apatterns ts)) :=
  several_any (Classical.choice lf).apatterns_eq apattern_wt Enters.partPattern (fun ts w h1 h2 => p_partPattern hP ts w h1 h2) ts w hm h

set_option maxHeartbeats 2000000 in
theorem p_pattern_step {rb m : Nat} (hP : ∀ ts w, wt ts < m → Rq rb ts w → PatternAt rb ts w) (ts : Toks) (w : World) (hm : wt ts ≤ m) (h : Rq rb ts w) : PatternAt rb ts w := by
  unfold PatternAt
  have HP := hide (peek_any h)
  have HI := hide (IsConstructor_tok h.head w)
  have hmf : ∀ (fn : Fn) (first cap : Array Value) (w : World), (Instr.makeFunc fn first cap).run Tryz.prog w = .ok (.func fn first cap) w := fun _ _ _ _ => rfl
  cases hk : (tokKind (ts.headD []) == 99)
  · rw [hk] at HI
    have HC := hide (p_partPattern hP ts w hm h)
    have hT : (Classical.choice lf).pattern ts = (Classical.choice lf).need ((Classical.choice lf).apattern ts) := by rw [pattern_prog]; unfold G.kindOf; rw [hk] <;> rfl
    have HT := hide hT
    clear hP h hT hk
    generalize bs (ts.headD []) = bx at *
    go_enter Tryz.func445, Tryz.ntmps445
    go_wp2_with fail
    refine (HP.out).mono ?_; rintro e w1 ⟨rfl, rfl⟩
    go_wp2_with fail
    refine (HI.out).mono ?_; rintro e w1 ⟨rfl, rfl⟩
    go_wp2_with fail
    refine (HC.out).mono ?_; rintro e w2 ⟨hk2, ⟨ho2, rfl⟩ | ⟨r2, ho2, rfl, hr2⟩ | ⟨t2, r2, b2, ho2, rfl, hm2, hr2⟩⟩
    · have HQ := hide (AnsN.no (c := 1) (o := (Classical.choice lf).pattern ts) hk2 (by rw [HT.out, ho2] <;> rfl))
      unfold gaveUp noForm
      go_wp2
      exact ⟨rfl, HQ.out⟩
    · have HQ := hide (AnsN.no (c := 1) (o := (Classical.choice lf).pattern ts) hk2 (by rw [HT.out, ho2] <;> rfl))
      have HN := hide (need_nil w2)
      go_wp2_with fail
      refine (HN.out).mono ?_; rintro e w3 ⟨rfl, rfl⟩
      unfold gaveUp noForm
      go_wp2
      exact ⟨rfl, HQ.out⟩
    · have HQ := hide (AnsN.yes (c := 1) (o := (Classical.choice lf).pattern ts) hk2 (by rw [HT.out, ho2] <;> rfl) hm2 hr2)
      have HN := hide (need_node b2 w2)
      go_wp2_with fail
      refine (HN.out).mono ?_; rintro e w3 ⟨rfl, rfl⟩
      unfold ptrV at *
      go_wp2
      go_ret
      exact HQ.out
  · obtain ⟨t, r, rfl⟩ := kind_cons (ts := ts) (k := 99) (by decide) hk
    have hlt := wt_kind_lt (ts := t :: r) (k := 99) (by decide) hk
    have HT := hide (take_one h)
    have HS := hide (fun (w1 : World) (h1 : Rq rb r w1) => p_apatterns hP r w1 (by have : (t :: r).tail = r := rfl; rw [this] at hlt; omega) h1)
    have hE : (Classical.choice lf).pattern (t :: r) = ((Classical.choice lf).apatterns r).bind fun l => some (.mk K.con_ t l.1, l.2) := by rw [pattern_prog]; unfold G.kindOf; rw [hk] <;> rfl
    have HE := hide hE
    rw [hk] at HI
    rw [show (t :: r).headD [] = t from rfl] at HP HI
    clear hP h hk hE hlt
    go_enter Tryz.func445, Tryz.ntmps445
    go_wp2_with fail
    refine (HP.out).mono ?_; rintro e w1 ⟨rfl, rfl⟩
    go_wp2_with fail
    refine (HI.out).mono ?_; rintro e w1 ⟨rfl, rfl⟩
    go_wp2_with fail
    refine (HT.out).mono ?_; rintro e w1 ⟨rfl, hT⟩
    have hk1 := hT.out.1
    have HC := hide (HS.out w1 hT.out.2)
    go_wp2_with fail
    refine (HC.out).mono ?_; rintro e w2 ⟨hk2, ⟨ho2, rfl⟩ | ⟨l2, r2, v2, ps2, ho2, rfl, hv2, hm2, hr2⟩⟩
    · have HQ := hide (AnsN.no (c := 1) (o := (Classical.choice lf).pattern (t :: r)) (hk1.to hk2) (by rw [HE.out, ho2] <;> rfl))
      unfold gaveUp noForm
      go_wp2
      exact ⟨rfl, HQ.out⟩
    · have HQ := hide (nodeRow (o := (Classical.choice lf).pattern (t :: r)) (KindOf.con 1 (by decide) t ps2.length) hk1 hk2 hv2 hm2 hr2 (by rw [HE.out, ho2] <;> rfl))
      have HN := hide (NewRow hv2 14 (bs t))
      clear hv2 hm2
      go_wp2_with fail
      refine (HN.out).mono ?_; rintro e w3 ⟨rfl, rfl⟩
      go_wp2
      go_ret
      exact HQ.out

theorem p_pattern_all {rb : Nat} : ∀ (m : Nat) (ts : Toks) (w : World), wt ts ≤ m → Rq rb ts w → PatternAt rb ts w := by
  intro m
  induction m with
  | zero => intro ts w hm h; exact p_pattern_step (m := 0) (fun _ _ h => absurd h (Nat.not_lt_zero _)) ts w hm h
  | succ m ih => intro ts w hm h; exact p_pattern_step (m := m + 1) (fun ts w h => ih ts w (by omega)) ts w hm h

theorem p_pattern {rb : Nat} (ts : Toks) (w : World) (h : Rq rb ts w) : Calls Tryz.prog 445 #[ptrV rb] w (AnsN rb 1 w ((Classical.choice lf).pattern ts)) := p_pattern_all (wt ts) ts w (Nat.le_refl _) h

end Go.Proofs.YtnocnkblhjifjaaGreatDoor
