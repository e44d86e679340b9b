import Derived.Test.YtnocnkblhjifjaaGreatDoorMPMatch
import Derived.Lib.SlicesS
/-
  Expressions (package parse): fromTheLeft, product, sum, comparison, set, sequence, choice by their contracts.
-/
namespace Go.Proofs.YtnocnkblhjifjaaGreatDoor
open Go.RowKit

theorem bs_inj {a b : List UInt8} (h : bs a = bs b) : a = b := by
  have := congrArg (fun s : ByteArray => s.data.toList) h
  simpa [bs_data] using this

theorem contains_two (a b : UInt8) (x : List UInt8) : Lib.containsS [bs [a], bs [b]] (bs x) = (x == [a] || x == [b]) := by
  cases h : (x == [a] || x == [b])
  · cases h2 : Lib.containsS [bs [a], bs [b]] (bs x)
    · rfl
    · rw [Lib.containsS_iff] at h2
      simp only [List.mem_cons, List.not_mem_nil, or_false] at h2
      simp only [Bool.or_eq_false_iff, beq_eq_false_iff_ne] at h
      rcases h2 with h2 | h2
      · exact absurd (bs_inj h2) h.1
      · exact absurd (bs_inj h2) h.2
  · rw [Lib.containsS_iff]
    simp only [List.mem_cons, List.not_mem_nil, or_false]
    rcases Bool.or_eq_true_iff.1 h with h | h
    · left; congr 1; simpa using h
    · right; congr 1; simpa using h

/-- What the loop of fromTheLeft holds at its head. -/
def LeftAt (rb : Nat) (w : World) (k : Nat) (ts : Toks) (gk : Nat) (v : Value) (wr : World) : Prop :=
  ∃ t b ts1, v = ptrV b ∧ Mem (From w) wr 0 t b ∧ Rq rb ts1 wr ∧ Kq rb w wr ∧ gk = wt ts1 ∧ wt ts1 ≤ wt ts ∧ (Classical.choice lf).level k ts = (Classical.choice lf).levels k t ts1

theorem sign_kindof {k : Nat} {a b : UInt8} (hab : signsAt k = [a, b]) {x : List UInt8} (hx : (x == [a] || x == [b]) = true) : KindOf 0 x [] 11 x [0, 0] := by
  refine KindOf.calc_ x ?_
  have h2 : x = [a] ∨ x = [b] := by simpa using hx
  unfold signsAt at hab
  by_cases h0 : k = 0
  · rw [if_pos h0] at hab
    simp only [List.cons.injEq, and_true] at hab
    obtain ⟨rfl, rfl⟩ := hab
    rcases h2 with rfl | rfl <;> decide
  · rw [if_neg h0] at hab
    by_cases h1 : k = 1
    · rw [if_pos h1] at hab
      simp only [List.cons.injEq, and_true] at hab
      obtain ⟨rfl, rfl⟩ := hab
      rcases h2 with rfl | rfl <;> decide
    · rw [if_neg h1] at hab
      simp only [List.cons.injEq, and_true] at hab
      obtain ⟨rfl, rfl⟩ := hab
      rcases h2 with rfl | rfl <;> decide

theorem sign_cons {ts : Toks} {a b : UInt8} (h : (ts.headD [] == [a] || ts.headD [] == [b]) = true) : ∃ t r, ts = t :: r := by
  cases ts with
  | nil => simp at h
  | cons t r => exact ⟨t, r, rfl⟩

set_option maxRecDepth 100000 in
set_option maxHeartbeats 4000000 in
theorem p_fromTheLeft {rb fk M k sb : Nat} {a b : UInt8} (hk1 : k = 1 ∨ k = 2) (hab : signsAt k = [a, b]) (ha : tokKind [a] = 119) (hb : tokKind [b] = 119) (HE : Enters fk) (HK : ∀ ts w, wt ts ≤ M → Rq rb ts w → Calls Tryz.prog fk #[ptrV rb] w (AnsN rb 0 w ((Classical.choice lf).level (k + 1) ts))) (ts : Toks) (w : World)
    (hM : wt ts ≤ M) (h : Rq rb ts w) (hsb : w.heap[sb]? = some (.cells #[.string (bs [a]), .string (bs [b])] tyStr (0, 0))) :
    Calls Tryz.prog 396 #[ptrV rb, .func (.func fk) #[ptrV rb] #[], .slice (some ⟨sb, 0, none⟩) 2 2] w (AnsN rb 0 w ((Classical.choice lf).level k ts)) := by
  have hE := fun (args : Array Value) (w : World) => HE args w
  have H1 := hide (HK ts w hM h)
  have HR := hide HK
  have HP := hide (fun (ts : Toks) (w : World) (h : Rq rb ts w) => peek_any h)
  have HT := hide (fun (t : List UInt8) (r : Toks) (w : World) (h : Rq rb (t :: r) w) => take_one h)
  have hL : (Classical.choice lf).level k ts = ((Classical.choice lf).level (k + 1) ts).bind fun a => (Classical.choice lf).levels k a.1 a.2 := by rw [(Classical.choice lf).level_eq, if_neg (by omega)]
  have hLs : ∀ t ts1, (Classical.choice lf).levels k t ts1 = bif (ts1.headD [] == [a] || ts1.headD [] == [b]) then ((Classical.choice lf).level (k + 1) ts1.tail).bind fun q => (Classical.choice lf).levels k (.mk (ts1.headD []) [] [t, q.1]) q.2 else some (t, ts1) := by
    intro t ts1
    rw [(Classical.choice lf).levels_eq, sign_level k a b hab ha hb]
    congr 1
    congr 1
    funext q
    rw [if_neg (by omega)]
  have HCon := hide (fun (x : List UInt8) (wr : World) (hz : wr.heap[sb]? = some (.cells #[.string (bs [a]), .string (bs [b])] tyStr (0, 0))) => by
    have := Tryz.slices_Contains_string sb 0 2 2 [bs [a], bs [b]] (bs x) wr (Nat.le_refl _) (by omega) (by
      intro j hj
      match j, hj with
      | 0, _ => simp [World.cell?, hz]
      | 1, _ => simp [World.cell?, hz])
    rw [show [bs [a], bs [b]].take 2 = [bs [a], bs [b]] from rfl, contains_two] at this
    exact this)
  have HSB := hide (fun (wr : World) (hq : Kq rb w wr) => (kq_other (T := tyStr) (by decide) h.isR hq hsb).trans hsb)
  have HL := hide hL
  have HLs := hide hLs
  have HKO := hide (fun (x : List UInt8) (hx : (x == [a] || x == [b]) = true) => sign_kindof hab hx)
  clear HK HE h hsb hL hLs hab ha hb
  go_enter Tryz.func396, Tryz.ntmps396
  go_wp2_with fail
  refine (H1.out).mono ?_; rintro e w1 ⟨hq1, ⟨ho1, rfl⟩ | ⟨t1, r1, b1, ho1, rfl, hm1, hr1⟩⟩
  · have HQ := hide (AnsN.no (c := 0) (o := (Classical.choice lf).level k ts) hq1 (by rw [HL.out, ho1] <;> rfl))
    unfold gaveUp noForm
    go_wp2
    exact ⟨rfl, HQ.out⟩
  · have hlt : mu t1 + wt r1 ≤ wt ts := (Classical.choice lf).level_w ho1
    have HAt : Hid (LeftAt rb w k ts (wt r1) (ptrV b1) w1) := ⟨t1, b1, r1, rfl, hm1, hr1, hq1, rfl, by omega, by rw [HL.out, ho1] <;> rfl⟩
    clear hm1 hr1 ho1 hq1 H1 hlt HL
    go_wp2_with fail
    go_loopg [7] (wt r1) (fun gk v wr => Hid (LeftAt rb w k ts gk v wr))
    case atStart => exact HAt
    case round =>
      clear HAt
      obtain ⟨t, b0, ts1, rfl, hm2, hr2, hq2, rfl, hle, hE2⟩ := hrel.out
      have HP2 := hide (HP.out ts1 wr hr2)
      have HC2 := hide (HCon.out (ts1.headD []) wr (HSB.out wr hq2))
      have hLt := HLs.out t ts1
      cases hs : (ts1.headD [] == [a] || ts1.headD [] == [b])
      · rw [hs] at HC2 hLt
        have HQ := hide (AnsN.yes (c := 0) (o := (Classical.choice lf).level k ts) hq2 (by rw [hE2, hLt] <;> rfl) hm2 hr2)
        clear hrel hm2 hr2 hq2 hE2 hLt hs HLs HKO HSB HCon HT HR
        unfold ptrV at *
        generalize bs (ts1.headD []) = bx at *
        go_wp2_with fail
        refine (HP2.out).mono ?_; rintro e wp ⟨rfl, hw⟩
        rw [hw]; clear hw wp
        go_wp2_with fail
        refine (HC2.out).mono ?_; rintro e wp ⟨rfl, hw⟩
        rw [hw]; clear hw wp
        go_wp2
        go_ret
        exact HQ.out
      · rw [hs] at HC2 hLt
        obtain ⟨tk, r2, rfl⟩ := sign_cons hs
        have hkd := HKO.out _ hs
        rw [show (tk :: r2).headD [] = tk from rfl] at HP2 HC2 hLt hkd hs
        rw [show (tk :: r2).tail = r2 from rfl, cond_true] at hLt
        have hwt2 : wt r2 < wt (tk :: r2) := by rw [wt]; omega
        have HT2 := hide (HT.out tk r2 wr hr2)
        have HM2 := hide hm2
        have HR2 := hide hr2
        have HQ2 := hide hq2
        have HLt := hide (hE2.trans hLt)
        have HKD := hide hkd
        clear hrel hm2 hr2 hq2 hE2 hLt hs HLs HKO HCon hkd
        go_wp2_with fail
        refine (HP2.out).mono ?_; rintro e wp ⟨rfl, hw⟩
        rw [hw]; clear hw wp
        go_wp2_with fail
        refine (HC2.out).mono ?_; rintro e wp ⟨rfl, hw⟩
        rw [hw]; clear hw wp
        go_wp2_with fail
        refine (HT2.out).mono ?_; rintro e w3 ⟨rfl, hT⟩
        have hq3 := hT.out.1
        have HC3 := hide (HR.out r2 w3 (by omega) hT.out.2)
        go_wp2_with fail
        refine (HC3.out).mono ?_; rintro e w4 ⟨hk4, ⟨ho4, rfl⟩ | ⟨t4, r4, b4, ho4, rfl, hm4, hr4⟩⟩
        · have HQ := hide (AnsN.no (c := 0) (o := (Classical.choice lf).level k ts) ((HQ2.out.to hq3).to hk4) (by rw [HLt.out, ho4] <;> rfl))
          unfold gaveUp noForm
          go_wp2
          exact ⟨rfl, HQ.out⟩
        · have hlt4 : mu t4 + wt r4 ≤ wt r2 := (Classical.choice lf).level_w ho4
          have hm3 := (HM2.out.kq HR2.out hq3).kq hT.out.2 hk4
          have hnode := node2 (o := some (Tr.mk tk [] [t, t4], r4)) HKD.out ((HQ2.out.to hq3).to hk4) hm3 (hm4.since (HQ2.out.to hq3)) hr4 rfl
          have hLe : (Classical.choice lf).level k ts = (Classical.choice lf).levels k (.mk tk [] [t, t4]) r4 := by rw [HLt.out, ho4, Option.bind_some]
          have HAt : Hid (LeftAt rb w k ts (wt r4) (ptrV (w4.heap.size + 1)) (w2P w4 b0 b4 11 (bs tk))) := by
            obtain ⟨hq9, ⟨hno, _⟩ | ⟨t9, r9, b9, ho9, he9, hm9, hr9⟩⟩ := hnode
            · cases hno
            · have hz := Option.some.inj ho9
              have hz1 : t9 = .mk tk [] [t, t4] := (congrArg Prod.fst hz).symm
              have hz2 : r9 = r4 := (congrArg Prod.snd hz).symm
              have hz3 : w4.heap.size + 1 = b9 := by simpa [ptrV] using he9
              subst hz1
              subst hz2
              subst hz3
              exact ⟨_, _, _, rfl, hm9, hr9, hq9, rfl, by omega, hLe⟩
          have HN := hide (New2 w4 b0 b4 11 (bs tk))
          clear hm3 hm4 hr4 ho4 hk4 hnode hLe HLt HKD HM2 HR2 HQ2 HP2 HC2 HT2 HC3 hT hq3
          unfold ptrV at *
          generalize bs tk = bx at *
          go_wp2_with fail
          refine (HN.out).mono ?_; rintro e w9 ⟨rfl, rfl⟩
          go_wp2_with fail
          go_roundg (wt r4)
          case rel => exact HAt
          case measure => omega

set_option maxHeartbeats 2000000 in
theorem p_product {rb m : Nat} (hX : Below_ rb m) (ts : Toks) (w : World) (hm : wt ts ≤ m) (h : Rq rb ts w) : Calls Tryz.prog 397 #[ptrV rb] w (AnsN rb 0 w ((Classical.choice lf).level 2 ts)) := by
  have HC := hide (p_fromTheLeft (rb := rb) (fk := 413) (M := m) (k := 2) (sb := w.heap.size) (a := 42) (b := 47) (by decide) rfl (by decide) (by decide) Enters.application (fun ts w h1 h2 => (by rw [(Classical.choice lf).level_eq, if_pos rfl]; exact p_application hX ts w h1 h2)) ts (w.alloc (.cells #[.string ⟨#[42]⟩, .string ⟨#[47]⟩] tyStr)) hm (h.alloc _) (by simp only [World.alloc, Array.getElem?_push_size]; rfl))
  have HF := hide (fun (e : Ending) (wz : World) (z : AnsN rb 0 (w.alloc (.cells #[.string ⟨#[42]⟩, .string ⟨#[47]⟩] tyStr)) ((Classical.choice lf).level 2 ts) e wz) => AnsN.later ((Kq.refl rb w).alloc _) z)
  have hmf : ∀ (fn : Fn) (first cap : Array Value) (w : World), (Instr.makeFunc fn first cap).run Tryz.prog w = .ok (.func fn first cap) w := fun _ _ _ _ => rfl
  clear hX h
  go_enter Tryz.func397, Tryz.ntmps397
  go_wp2_with fail
  refine (HC.out).mono ?_; intro e wz ha
  have HQ := hide (HF.out _ _ ha)
  rcases ha.ends with rfl | ⟨v, rfl⟩
  · unfold gaveUp noForm
    clear ha
    go_wp2
    exact ⟨rfl, HQ.out⟩
  · clear ha
    go_wp2
    go_ret
    exact HQ.out

set_option maxHeartbeats 2000000 in
theorem p_sum {rb m : Nat} (hX : Below_ rb m) (ts : Toks) (w : World) (hm : wt ts ≤ m) (h : Rq rb ts w) : Calls Tryz.prog 368 #[ptrV rb] w (AnsN rb 0 w ((Classical.choice lf).level 1 ts)) := by
  have HC := hide (p_fromTheLeft (rb := rb) (fk := 397) (M := m) (k := 1) (sb := w.heap.size) (a := 43) (b := 45) (by decide) rfl (by decide) (by decide) Enters.product (fun ts w h1 h2 => p_product hX ts w h1 h2) ts (w.alloc (.cells #[.string ⟨#[43]⟩, .string ⟨#[45]⟩] tyStr)) hm (h.alloc _) (by simp only [World.alloc, Array.getElem?_push_size]; rfl))
  have HF := hide (fun (e : Ending) (wz : World) (z : AnsN rb 0 (w.alloc (.cells #[.string ⟨#[43]⟩, .string ⟨#[45]⟩] tyStr)) ((Classical.choice lf).level 1 ts) e wz) => AnsN.later ((Kq.refl rb w).alloc _) z)
  have hmf : ∀ (fn : Fn) (first cap : Array Value) (w : World), (Instr.makeFunc fn first cap).run Tryz.prog w = .ok (.func fn first cap) w := fun _ _ _ _ => rfl
  clear hX h
  go_enter Tryz.func368, Tryz.ntmps368
  go_wp2_with fail
  refine (HC.out).mono ?_; intro e wz ha
  have HQ := hide (HF.out _ _ ha)
  rcases ha.ends with rfl | ⟨v, rfl⟩
  · unfold gaveUp noForm
    clear ha
    go_wp2
    exact ⟨rfl, HQ.out⟩
  · clear ha
    go_wp2
    go_ret
    exact HQ.out

set_option maxHeartbeats 2000000 in
theorem p_comparison {rb m : Nat} (hX : Below_ rb m) (ts : Toks) (w : World) (hm : wt ts ≤ m) (h : Rq rb ts w) : Calls Tryz.prog 314 #[ptrV rb] w (AnsN rb 0 w ((Classical.choice lf).level 0 ts)) := by
  have H1 := hide (p_sum hX ts w hm h)
  have HS := hide (fun (ts : Toks) (w : World) (hm : wt ts ≤ m) (h : Rq rb ts w) => p_sum hX ts w hm h)
  have HP := hide (fun (ts : Toks) (w : World) (h : Rq rb ts w) => peek_any h)
  have HT := hide (fun (t : List UInt8) (r : Toks) (w : World) (h : Rq rb (t :: r) w) => take_one h)
  have HL := hide (show (Classical.choice lf).level 0 ts = ((Classical.choice lf).level 1 ts).bind fun a => (Classical.choice lf).levels 0 a.1 a.2 by rw [(Classical.choice lf).level_eq, if_neg (by decide)])
  have HLs := hide (fun (t : Tr) (ts1 : Toks) => show (Classical.choice lf).levels 0 t ts1 = bif (ts1.headD [] == [61] || ts1.headD [] == [60]) then ((Classical.choice lf).level 1 ts1.tail).bind fun q => some (.mk (ts1.headD []) [] [t, q.1], q.2) else some (t, ts1) by
    rw [(Classical.choice lf).levels_eq, sign_level 0 61 60 rfl (by decide) (by decide)]
    rfl)
  clear hX h
  go_enter Tryz.func314, Tryz.ntmps314
  go_wp2_with fail
  refine (H1.out).mono ?_; rintro e w1 ⟨hk1, ⟨ho1, rfl⟩ | ⟨t1, r1, b1, ho1, rfl, hm1, hr1⟩⟩
  · have HQ := hide (AnsN.no (c := 0) (o := (Classical.choice lf).level 0 ts) hk1 (by rw [HL.out, ho1] <;> rfl))
    unfold gaveUp noForm
    go_wp2
    exact ⟨rfl, HQ.out⟩
  · have hlt : mu t1 + wt r1 ≤ wt ts := (Classical.choice lf).level_w ho1
    have HP1 := hide (HP.out r1 w1 hr1)
    have hLt := HLs.out t1 r1
    have hE : (Classical.choice lf).level 0 ts = (Classical.choice lf).levels 0 t1 r1 := by rw [HL.out, ho1] <;> rfl
    cases h61 : (r1.headD [] == [61])
    · have e61 : ((bs (r1.headD [])).toList == [61]) = false := (bs_lit (r1.headD []) [61]).trans h61
      cases h60 : (r1.headD [] == [60])
      · have e60 : ((bs (r1.headD [])).toList == [60]) = false := (bs_lit (r1.headD []) [60]).trans h60
        have HQ := hide (AnsN.yes (c := 0) (o := (Classical.choice lf).level 0 ts) hk1 (by rw [hE, hLt, h61, h60] <;> rfl) hm1 hr1)
        clear hm1 hr1 hk1 ho1 hLt hE h61 h60 HLs HL HT HS H1 HP
        unfold ptrV at *
        generalize bs (r1.headD []) = bx at *
        go_wp2_with fail
        refine (HP1.out).mono ?_; rintro e wp ⟨rfl, hw⟩
        rw [hw]; clear hw wp
        go_wp2
        go_ret
        exact HQ.out
      · have e60 : ((bs (r1.headD [])).toList == [60]) = true := (bs_lit (r1.headD []) [60]).trans h60
        obtain ⟨tk, r2, rfl⟩ : ∃ t r, r1 = t :: r := by
          cases r1 with
          | nil => exact absurd h60 (by decide)
          | cons t r => exact ⟨t, r, rfl⟩
        rw [show (tk :: r2).headD [] = tk from rfl] at *
        rw [show (tk :: r2).tail = r2 from rfl] at hLt
        have hwt2 : wt r2 < wt (tk :: r2) := by rw [wt]; omega
        have hsign : (tk == [61] || tk == [60]) = true := by rw [h61, h60] <;> rfl
        rw [hsign, cond_true] at hLt
        have hkd := sign_kindof (k := 0) rfl hsign
        have HT2 := hide (HT.out tk r2 w1 hr1)
        have HE := hide (hE.trans hLt)
        have HKD := hide hkd
        clear hLt hE h61 h60 hsign hkd HLs HL HT
        go_wp2_with fail
        refine (HP1.out).mono ?_; rintro e wp ⟨rfl, hw⟩
        rw [hw]; clear hw wp
        go_wp2_with fail
        refine (HT2.out).mono ?_; rintro e w3 ⟨rfl, hT⟩
        have hq3 := hT.out.1
        have HC3 := hide (HS.out r2 w3 (by omega) hT.out.2)
        go_wp2_with fail
        refine (HC3.out).mono ?_; rintro e w4 ⟨hk4, ⟨ho4, rfl⟩ | ⟨t4, r4, b4, ho4, rfl, hm4, hr4⟩⟩
        · have HQ := hide (AnsN.no (c := 0) (o := (Classical.choice lf).level 0 ts) ((hk1.to hq3).to hk4) (by rw [HE.out, ho4] <;> rfl))
          unfold gaveUp noForm
          go_wp2
          exact ⟨rfl, HQ.out⟩
        · have HQ := hide (node2 (o := (Classical.choice lf).level 0 ts) HKD.out ((hk1.to hq3).to hk4) ((hm1.kq hr1 hq3).kq hT.out.2 hk4) (hm4.since (hk1.to hq3)) hr4 (by rw [HE.out, ho4] <;> rfl))
          have HN := hide (New2 w4 b1 b4 11 (bs tk))
          clear hm4 hr4 ho4 hk4 HE HKD HP1 HT2 HC3 hT hq3 hm1 hr1 hk1
          unfold ptrV at *
          go_wp2_with fail
          refine (HN.out).mono ?_; rintro e w9 ⟨rfl, rfl⟩
          go_wp2
          go_ret
          exact HQ.out
    · have e61 : ((bs (r1.headD [])).toList == [61]) = true := (bs_lit (r1.headD []) [61]).trans h61
      obtain ⟨tk, r2, rfl⟩ : ∃ t r, r1 = t :: r := by
        cases r1 with
        | nil => exact absurd h61 (by decide)
        | cons t r => exact ⟨t, r, rfl⟩
      rw [show (tk :: r2).headD [] = tk from rfl] at *
      rw [show (tk :: r2).tail = r2 from rfl] at hLt
      have hwt2 : wt r2 < wt (tk :: r2) := by rw [wt]; omega
      have hsign : (tk == [61] || tk == [60]) = true := by rw [h61] <;> rfl
      rw [hsign, cond_true] at hLt
      have hkd := sign_kindof (k := 0) rfl hsign
      have HT2 := hide (HT.out tk r2 w1 hr1)
      have HE := hide (hE.trans hLt)
      have HKD := hide hkd
      clear hLt hE h61 hsign hkd HLs HL HT
      go_wp2_with fail
      refine (HP1.out).mono ?_; rintro e wp ⟨rfl, hw⟩
      rw [hw]; clear hw wp
      go_wp2_with fail
      refine (HT2.out).mono ?_; rintro e w3 ⟨rfl, hT⟩
      have hq3 := hT.out.1
      have HC3 := hide (HS.out r2 w3 (by omega) hT.out.2)
      go_wp2_with fail
      refine (HC3.out).mono ?_; rintro e w4 ⟨hk4, ⟨ho4, rfl⟩ | ⟨t4, r4, b4, ho4, rfl, hm4, hr4⟩⟩
      · have HQ := hide (AnsN.no (c := 0) (o := (Classical.choice lf).level 0 ts) ((hk1.to hq3).to hk4) (by rw [HE.out, ho4] <;> rfl))
        unfold gaveUp noForm
        go_wp2
        exact ⟨rfl, HQ.out⟩
      · have HQ := hide (node2 (o := (Classical.choice lf).level 0 ts) HKD.out ((hk1.to hq3).to hk4) ((hm1.kq hr1 hq3).kq hT.out.2 hk4) (hm4.since (hk1.to hq3)) hr4 (by rw [HE.out, ho4] <;> rfl))
        have HN := hide (New2 w4 b1 b4 11 (bs tk))
        clear hm4 hr4 ho4 hk4 HE HKD HP1 HT2 HC3 hT hq3 hm1 hr1 hk1
        unfold ptrV at *
        go_wp2_with fail
        refine (HN.out).mono ?_; rintro e w9 ⟨rfl, rfl⟩
        go_wp2
        go_ret
        exact HQ.out

/-- Both sides of `:=`, as the program goes. -/
def LFam.setE (L : LFam) (ts : Toks) : Option (Tr × Toks) := (L.level 0 ts).bind fun a => L.set a.1 a.2

theorem setE_w {ts : Toks} {q : Tr × Toks} (h : (Classical.choice lf).setE ts = some q) : mu q.1 + wt q.2 ≤ wt ts := by
  unfold LFam.setE at h
  rw [Option.bind_eq_some_iff] at h
  obtain ⟨a, ha, h⟩ := h
  have h1 := (Classical.choice lf).level_w ha
  have h2 := (Classical.choice lf).set_w h
  omega

set_option maxHeartbeats 2000000 in
theorem p_set {rb m : Nat} (hX : Below_ rb m) (ts : Toks) (w : World) (hm : wt ts ≤ m) (h : Rq rb ts w) : Calls Tryz.prog 266 #[ptrV rb] w (AnsN rb 0 w ((Classical.choice lf).setE ts)) := by
  have H1 := hide (p_comparison hX ts w hm h)
  have HS := hide (fun (ts : Toks) (w : World) (hm : wt ts ≤ m) (h : Rq rb ts w) => p_comparison hX ts w hm h)
  have HA := hide (fun (ts : Toks) (w : World) (h : Rq rb ts w) => accept_w (x := K.set_) bsK_set (by decide) h)
  clear hX h
  go_enter Tryz.func266, Tryz.ntmps266
  go_wp2_with fail
  refine (H1.out).mono ?_; rintro e w1 ⟨hk1, ⟨ho1, rfl⟩ | ⟨t1, r1, b1, ho1, rfl, hm1, hr1⟩⟩
  · have HQ := hide (AnsN.no (c := 0) (o := (Classical.choice lf).setE ts) hk1 (by unfold LFam.setE; rw [ho1] <;> rfl))
    unfold gaveUp noForm
    go_wp2
    exact ⟨rfl, HQ.out⟩
  · have hlt : mu t1 + wt r1 ≤ wt ts := (Classical.choice lf).level_w ho1
    have HB := hide (HA.out r1 w1 hr1)
    go_wp2_with fail
    refine (HB.out).mono ?_; rintro e w2 ⟨hk2, ⟨ho2, rfl, hr2⟩ | ⟨ho2, rfl, hr2⟩⟩
    · have HQ := hide (AnsN.yes (c := 0) (o := (Classical.choice lf).setE ts) (hk1.to hk2) (by unfold LFam.setE; rw [ho1, Option.bind_some, (Classical.choice lf).set_eq, ho2] <;> rfl) (hm1.kq hr1 hk2) hr2)
      unfold ptrV at *
      go_wp2
      go_ret
      exact HQ.out
    · have hlt2 := wt_isW_lt ho2
      have HC := hide (HS.out r1.tail w2 (by omega) hr2)
      go_wp2_with fail
      refine (HC.out).mono ?_; rintro e w3 ⟨hk3, ⟨ho3, rfl⟩ | ⟨t3, r3, b3, ho3, rfl, hm3, hr3⟩⟩
      · have HQ := hide (AnsN.no (c := 0) (o := (Classical.choice lf).setE ts) ((hk1.to hk2).to hk3) (by unfold LFam.setE; rw [ho1, Option.bind_some, (Classical.choice lf).set_eq, ho2, cond_true, ho3] <;> rfl))
        unfold gaveUp noForm
        go_wp2
        exact ⟨rfl, HQ.out⟩
      · have HQ := hide (node2 (o := (Classical.choice lf).setE ts) KindOf.set ((hk1.to hk2).to hk3) ((hm1.kq hr1 hk2).kq hr2 hk3) (hm3.since (hk1.to hk2)) hr3 (by unfold LFam.setE; rw [ho1, Option.bind_some, (Classical.choice lf).set_eq, ho2, cond_true, ho3] <;> rfl))
        have HN := hide (New2 w3 b1 b3 10 ⟨#[]⟩)
        unfold ptrV at *
        go_wp2_with fail
        refine (HN.out).mono ?_; rintro e w4 ⟨rfl, rfl⟩
        go_wp2
        go_ret
        exact HQ.out

/-- A sequence, as the program goes. -/
def LFam.seqE (L : LFam) (ts : Toks) : Option (Tr × Toks) := (L.setE ts).bind fun a => bif G.isW K.semi_ a.2 then (L.expr a.2.tail).bind fun b => some (.mk K.seq_ [] [a.1, b.1], b.2) else some a

set_option maxHeartbeats 2000000 in
theorem p_sequence {rb m : Nat} (hX : Below_ rb m) (ts : Toks) (w : World) (hm : wt ts ≤ m) (h : Rq rb ts w) : Calls Tryz.prog 207 #[ptrV rb] w (AnsN rb 0 w ((Classical.choice lf).seqE ts)) := by
  have H1 := hide (p_set hX ts w hm h)
  have HS := hide (fun (ts : Toks) (w : World) (hm : wt ts < m) (h : Rq rb ts w) => (hX ts w hm h).1)
  have HA := hide (fun (ts : Toks) (w : World) (h : Rq rb ts w) => accept_w (x := K.semi_) bsK_semi (by decide) h)
  unfold ExprAt at HS
  clear hX h
  go_enter Tryz.func207, Tryz.ntmps207
  go_wp2_with fail
  refine (H1.out).mono ?_; rintro e w1 ⟨hk1, ⟨ho1, rfl⟩ | ⟨t1, r1, b1, ho1, rfl, hm1, hr1⟩⟩
  · have HQ := hide (AnsN.no (c := 0) (o := (Classical.choice lf).seqE ts) hk1 (by unfold LFam.seqE; rw [ho1] <;> rfl))
    unfold gaveUp noForm
    go_wp2
    exact ⟨rfl, HQ.out⟩
  · have hlt : mu t1 + wt r1 ≤ wt ts := setE_w ho1
    have HB := hide (HA.out r1 w1 hr1)
    go_wp2_with fail
    refine (HB.out).mono ?_; rintro e w2 ⟨hk2, ⟨ho2, rfl, hr2⟩ | ⟨ho2, rfl, hr2⟩⟩
    · have HQ := hide (AnsN.yes (c := 0) (o := (Classical.choice lf).seqE ts) (hk1.to hk2) (by unfold LFam.seqE; rw [ho1, Option.bind_some, ho2] <;> rfl) (hm1.kq hr1 hk2) hr2)
      unfold ptrV at *
      go_wp2
      go_ret
      exact HQ.out
    · have hlt2 := wt_isW_lt ho2
      have HC := hide (HS.out r1.tail w2 (by omega) hr2)
      go_wp2_with fail
      refine (HC.out).mono ?_; rintro e w3 ⟨hk3, ⟨ho3, rfl⟩ | ⟨t3, r3, b3, ho3, rfl, hm3, hr3⟩⟩
      · have HQ := hide (AnsN.no (c := 0) (o := (Classical.choice lf).seqE ts) ((hk1.to hk2).to hk3) (by unfold LFam.seqE; rw [ho1, Option.bind_some, ho2, cond_true, ho3] <;> rfl))
        unfold gaveUp noForm
        go_wp2
        exact ⟨rfl, HQ.out⟩
      · have HQ := hide (node2 (o := (Classical.choice lf).seqE ts) KindOf.seq ((hk1.to hk2).to hk3) ((hm1.kq hr1 hk2).kq hr2 hk3) (hm3.since (hk1.to hk2)) hr3 (by unfold LFam.seqE; rw [ho1, Option.bind_some, ho2, cond_true, ho3] <;> rfl))
        have HN := hide (New2 w3 b1 b3 9 ⟨#[]⟩)
        unfold ptrV at *
        go_wp2_with fail
        refine (HN.out).mono ?_; rintro e w4 ⟨rfl, rfl⟩
        go_wp2
        go_ret
        exact HQ.out

/-- A choice, behind its `if`. -/
def LFam.ifE (L : LFam) (ts : Toks) : Option (Tr × Toks) := (L.expr ts).bind fun a => (G.want K.then_ a.2).bind fun r => (L.expr r).bind fun b => (G.want K.else_ b.2).bind fun r => (L.expr r).bind fun c => some (.mk K.if_ [] [a.1, b.1, c.1], c.2)

set_option maxHeartbeats 2000000 in
theorem p_choice {rb m : Nat} (hX : Below_ rb m) (ts : Toks) (w : World) (hm : wt ts < m) (h : Rq rb ts w) : Calls Tryz.prog 206 #[ptrV rb] w (AnsN rb 0 w ((Classical.choice lf).ifE ts)) := by
  have H1 := hide ((hX ts w hm h).1)
  have HS := hide (fun (ts : Toks) (w : World) (hm : wt ts < m) (h : Rq rb ts w) => (hX ts w hm h).1)
  have HA := hide (fun (ts : Toks) (w : World) (h : Rq rb ts w) => expect_w (x := K.then_) bsK_then (by decide) h)
  have HB := hide (fun (ts : Toks) (w : World) (h : Rq rb ts w) => expect_w (x := K.else_) bsK_else (by decide) h)
  unfold ExprAt at HS H1
  clear hX h
  go_enter Tryz.func206, Tryz.ntmps206
  go_wp2_with fail
  refine (H1.out).mono ?_; rintro e w1 ⟨hk1, ⟨ho1, rfl⟩ | ⟨t1, r1, b1, ho1, rfl, hm1, hr1⟩⟩
  · have HQ := hide (AnsN.no (c := 0) (o := (Classical.choice lf).ifE ts) hk1 (by unfold LFam.ifE; rw [ho1] <;> rfl))
    unfold gaveUp noForm
    go_wp2
    exact ⟨rfl, HQ.out⟩
  · have hlt1 : mu t1 + wt r1 ≤ wt ts := (Classical.choice lf).expr_w ho1
    have HC := hide (HA.out r1 w1 hr1)
    go_wp2_with fail
    refine (HC.out).mono ?_; rintro e w2 ⟨hk2, ⟨ho2, rfl⟩ | ⟨r2, ho2, rfl, hr2⟩⟩
    · have HQ := hide (AnsN.no (c := 0) (o := (Classical.choice lf).ifE ts) (hk1.to hk2) (by unfold LFam.ifE; rw [ho1, Option.bind_some, ho2] <;> rfl))
      unfold gaveUp noForm
      go_wp2
      exact ⟨rfl, HQ.out⟩
    · have hlt2 := wt_want ho2
      have HC := hide (HS.out r2 w2 (by omega) hr2)
      go_wp2_with fail
      refine (HC.out).mono ?_; rintro e w3 ⟨hk3, ⟨ho3, rfl⟩ | ⟨t3, r3, b3, ho3, rfl, hm3, hr3⟩⟩
      · have HQ := hide (AnsN.no (c := 0) (o := (Classical.choice lf).ifE ts) ((hk1.to hk2).to hk3) (by unfold LFam.ifE; rw [ho1, Option.bind_some, ho2, Option.bind_some, ho3] <;> rfl))
        unfold gaveUp noForm
        go_wp2
        exact ⟨rfl, HQ.out⟩
      · have hlt3 : mu t3 + wt r3 ≤ wt r2 := (Classical.choice lf).expr_w ho3
        have HC := hide (HB.out r3 w3 hr3)
        go_wp2_with fail
        refine (HC.out).mono ?_; rintro e w4 ⟨hk4, ⟨ho4, rfl⟩ | ⟨r4, ho4, rfl, hr4⟩⟩
        · have HQ := hide (AnsN.no (c := 0) (o := (Classical.choice lf).ifE ts) (((hk1.to hk2).to hk3).to hk4) (by unfold LFam.ifE; rw [ho1, Option.bind_some, ho2, Option.bind_some, ho3, Option.bind_some, ho4] <;> rfl))
          unfold gaveUp noForm
          go_wp2
          exact ⟨rfl, HQ.out⟩
        · have hlt4 := wt_want ho4
          have HC := hide (HS.out r4 w4 (by omega) hr4)
          go_wp2_with fail
          refine (HC.out).mono ?_; rintro e w5 ⟨hk5, ⟨ho5, rfl⟩ | ⟨t5, r5, b5, ho5, rfl, hm5, hr5⟩⟩
          · have HQ := hide (AnsN.no (c := 0) (o := (Classical.choice lf).ifE ts) ((((hk1.to hk2).to hk3).to hk4).to hk5) (by unfold LFam.ifE; rw [ho1, Option.bind_some, ho2, Option.bind_some, ho3, Option.bind_some, ho4, Option.bind_some, ho5] <;> rfl))
            unfold gaveUp noForm
            go_wp2
            exact ⟨rfl, HQ.out⟩
          · have HQ := hide (node3 (o := (Classical.choice lf).ifE ts) KindOf.if_ ((((hk1.to hk2).to hk3).to hk4).to hk5) ((((hm1.kq hr1 hk2).kq hr2 hk3).kq hr3 hk4).kq hr4 hk5) (((hm3.since (hk1.to hk2)).kq hr3 hk4).kq hr4 hk5) (hm5.since (((hk1.to hk2).to hk3).to hk4)) hr5 (by unfold LFam.ifE; rw [ho1, Option.bind_some, ho2, Option.bind_some, ho3, Option.bind_some, ho4, Option.bind_some, ho5] <;> rfl))
            have HN := hide (New3 w5 b1 b3 b5 8 ⟨#[]⟩)
            unfold ptrV at *
            go_wp2_with fail
            refine (HN.out).mono ?_; rintro e w9 ⟨rfl, rfl⟩
            go_wp2
            go_ret
            exact HQ.out

end Go.Proofs.YtnocnkblhjifjaaGreatDoor
