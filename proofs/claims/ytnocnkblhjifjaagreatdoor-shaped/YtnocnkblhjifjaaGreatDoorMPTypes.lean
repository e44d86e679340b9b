import Derived.Test.YtnocnkblhjifjaaGreatDoorMPNode
/-
  Types (package parse): closedType, partType, argumentType, wholeType by their contracts.
-/
namespace Go.Proofs.YtnocnkblhjifjaaGreatDoor
open Go.RowKit

theorem AnsN.ends {rb c : Nat} {w w' : World} {o : Option (Tr × Toks)} {e : Ending} (h : AnsN rb c w o e w') : e = gaveUp ∨ ∃ v, e = .returned v := by
  rcases h.2 with ⟨_, h⟩ | ⟨t, r, b, _, h, _⟩
  · exact Or.inl h
  · exact Or.inr ⟨_, h⟩
theorem AnsO.ends {rb c : Nat} {w w' : World} {o : Option (Option Tr × Toks)} {e : Ending} (h : AnsO rb c w o e w') : e = gaveUp ∨ ∃ v, e = .returned v := by
  rcases h.2 with ⟨_, h⟩ | ⟨r, _, h, _⟩ | ⟨t, r, b, _, h, _⟩
  · exact Or.inl h
  · exact Or.inr ⟨_, h⟩
  · exact Or.inr ⟨_, h⟩

theorem Kq.to {rb : Nat} {a b c : World} (h : Kq rb a b) (k : Kq rb b c) : Kq rb a c := h.trans k

theorem AnsN.as {rb c : Nat} {w0 w w' : World} {o o' : Option (Tr × Toks)} {e : Ending} (hk : Kq rb w0 w) (ho : o' = o) (h : AnsN rb c w o e w') : AnsN rb c w0 o' e w' := by rw [ho]; exact h.later hk
theorem AnsO.as {rb c : Nat} {w0 w w' : World} {o o' : Option (Option Tr × Toks)} {e : Ending} (hk : Kq rb w0 w) (ho : o' = o) (h : AnsO rb c w o e w') : AnsO rb c w0 o' e w' := by rw [ho]; exact h.later hk

/-- A node more, at the end of a reading. -/
theorem made_from {c : Nat} {w w1 : World} {is name : List UInt8} {ts : List Tr} {k : Int} {txt : List UInt8} {cs : List Nat} {pv : Value} {ps : List Nat} (hk : KindOf c is name k txt cs) (hr : w1.ownsRow w.heap.size tyTreeP 1 pv ps.length (ps.map ptrV)) (hm : Mem.Mems (From w) w1 cs ts ps) :
    Mem (From w) (w1.alloc (.cells #[.int .i64 k, .string (bs txt), pv] tyTree)) c (.mk is name ts) w1.heap.size :=
  Mem.made hk (ownsRow_base hr (Nat.zero_le _)) (fun g hg => (hr.lt g hg).1) hm

theorem Mem.since {rb c : Nat} {w0 w : World} {t : Tr} {b : Nat} (hk : Kq rb w0 w) {w' : World} (h : Mem (From w) w' c t b) : Mem (From w0) w' c t b := h.wide fun _ hf _ => Nat.le_trans hk.size hf
theorem Mem.Mems.since {rb : Nat} {w0 w : World} {cs : List Nat} {l : List Tr} {ps : List Nat} {v : Value} (hk : Kq rb w0 w) {w' : World} (h : Mem.Mems (fun g => w.heap.size ≤ g ∧ v.ownBlock ≠ some g) w' cs l ps) : Mem.Mems (From w0) w' cs l ps := h.wide fun _ hf _ => Nat.le_trans hk.size hf.1

theorem wt_isW_lt {x : List UInt8} {ts : Toks} (h : G.isW x ts = true) : wt ts.tail < wt ts := by have := wt_isW h; omega
theorem wt_kind_lt {k : Int} {ts : Toks} (h0 : k ≠ 0) (h : (G.kindOf ts == k) = true) : wt ts.tail < wt ts := by have := wt_kind h0 h; omega

/-- What a contract of wholeType says. -/
def WholeAt (rb : Nat) (ts : Toks) (w : World) : Prop := Calls Tryz.prog 367 #[ptrV rb] w (AnsN rb 2 w ((Classical.choice lf).typ ts))

set_option maxHeartbeats 2000000 in
theorem p_closed {rb m : Nat} (hW : ∀ ts w, wt ts < m → Rq rb ts w → WholeAt rb ts w) (ts : Toks) (w : World) (hm : wt ts ≤ m) (h : Rq rb ts w) : Calls Tryz.prog 312 #[ptrV rb] w (AnsO rb 2 w ((Classical.choice lf).closedO ts)) := by
  have H1 := hide (accept_w (x := K.open_) bsK_open (by decide) h)
  have HW := hide hW
  have HX := hide (fun (ts : Toks) (w : World) (h : Rq rb ts w) => expect_w (x := K.shut_) bsK_shut (by decide) h)
  have HL := hide (fun (w : World) (h : Rq rb ts w) => letter_any 2 21 (Or.inl ⟨rfl, rfl⟩) h)
  clear hW h
  go_enter Tryz.func312, Tryz.ntmps312
  go_wp2_with fail
  refine (H1.out).mono ?_; rintro e w1 ⟨hk1, ⟨ho1, rfl, hr1⟩ | ⟨ho1, rfl, hr1⟩⟩
  · have HC := hide (HL.out w1 hr1)
    go_wp2_with fail
    refine (HC.out).mono ?_; intro e wz ha
    have HQ := hide (AnsO.as (o' := (Classical.choice lf).closedO ts) hk1 (by unfold LFam.closedO; rw [ho1] <;> rfl) ha)
    rcases ha.ends with rfl | ⟨v, rfl⟩
    · unfold gaveUp noForm
      clear ha
      go_wp2
      exact ⟨rfl, HQ.out⟩
    · clear ha
      go_wp2
      go_ret
      exact HQ.out
  · have hlt := wt_isW_lt ho1
    have HC := hide (HW.out ts.tail w1 (by omega) hr1)
    unfold WholeAt at HC
    go_wp2_with fail
    refine (HC.out).mono ?_; rintro e w2 ⟨hk2, ⟨ho2, rfl⟩ | ⟨t2, r2, b2, ho2, rfl, hm2, hr2⟩⟩
    · have HQ := hide (AnsO.no (c := 2) (o := (Classical.choice lf).closedO ts) (hk1.to hk2) (by unfold LFam.closedO; rw [ho1, cond_true, ho2] <;> rfl))
      unfold gaveUp noForm
      go_wp2
      exact ⟨rfl, HQ.out⟩
    · have HD := hide (HX.out r2 w2 hr2)
      go_wp2_with fail
      refine (HD.out).mono ?_; rintro e w3 ⟨hk3, ⟨ho3, rfl⟩ | ⟨r3, ho3, rfl, hr3⟩⟩
      · have HQ := hide (AnsO.no (c := 2) (o := (Classical.choice lf).closedO ts) ((hk1.to hk2).to hk3) (by unfold LFam.closedO; rw [ho1, cond_true, ho2, Option.bind_some, ho3] <;> rfl))
        unfold gaveUp noForm
        go_wp2
        exact ⟨rfl, HQ.out⟩
      · have HQ := hide (AnsO.yes (c := 2) (o := (Classical.choice lf).closedO ts) ((hk1.to hk2).to hk3) (by unfold LFam.closedO; rw [ho1, cond_true, ho2, Option.bind_some, ho3] <;> rfl) ((hm2.since hk1).kq hr2 hk3) hr3)
        unfold ptrV at *
        go_wp2
        go_ret
        exact HQ.out

theorem closed_w (ts : Toks) (t : Tr) (r : Toks) (h : (Classical.choice lf).closedO ts = some (some t, r)) : wt r < wt ts := by
  unfold LFam.closedO at h
  cases k : G.isW K.open_ ts
  · rw [k, cond_false] at h
    unfold LFam.letterO at h
    cases k2 : (G.kindOf ts == 108)
    · rw [k2] at h; cases h
    · rw [k2, cond_true] at h
      have := Option.some.inj h
      have h2 : r = ts.tail := (congrArg Prod.snd this).symm
      rw [h2]; exact wt_kind_lt (by decide) k2
  · rw [k, cond_true] at h
    simp only [Option.bind_eq_some_iff] at h
    obtain ⟨q, hq, r2, hr2, h⟩ := h
    have h2 : r = r2 := (congrArg Prod.snd (Option.some.inj h)).symm
    have h3 := (Classical.choice lf).typ_w hq
    have h4 := wt_want hr2
    have h5 := wt_isW_lt k
    rw [h2]; omega

theorem part_w (ts : Toks) (t : Tr) (r : Toks) (h : (Classical.choice lf).partO ts = some (some t, r)) : wt r < wt ts := by
  unfold LFam.partO at h
  cases k : (G.kindOf ts == 110)
  · rw [k, cond_false] at h; exact closed_w ts t r h
  · rw [k, cond_true] at h
    have h2 : r = ts.tail := (congrArg Prod.snd (Option.some.inj h)).symm
    rw [h2]; exact wt_kind_lt (by decide) k

/-- The token that was looked at is taken. -/
theorem take_one {rb : Nat} {t : List UInt8} {r : Toks} {w : World} (h : Rq rb (t :: r) w) : Calls Tryz.prog 140 #[ptrV rb] w fun e w' => e = .returned (.string (bs t)) ∧ Hid (Kq rb w w' ∧ Rq rb r w') := by
  refine (take_any h).mono ?_
  rintro e w' ⟨hk, ⟨he, _⟩ | ⟨t2, r2, he, rfl, hr⟩⟩
  · cases he
  · injection he with he1 he2
    subst he1
    subst he2
    exact ⟨rfl, hk, hr⟩

set_option maxHeartbeats 2000000 in
theorem p_part {rb m : Nat} (hW : ∀ ts w, wt ts < m → Rq rb ts w → WholeAt rb ts w) (ts : Toks) (w : World) (hm : wt ts ≤ m) (h : Rq rb ts w) : Calls Tryz.prog 264 #[ptrV rb] w (AnsO rb 2 w ((Classical.choice lf).partO ts)) := by
  have HP := hide (peek_any h)
  have HI := hide (IsName_tok h.head w)
  have HC := hide (p_closed hW ts w hm h)
  cases hk : (tokKind (ts.headD []) == 110)
  · rw [hk] at HI
    clear hW h
    have hT : (Classical.choice lf).partO ts = (Classical.choice lf).closedO ts := by unfold LFam.partO G.kindOf; rw [hk]; rfl
    have HT := hide hT
    clear hT hk
    generalize bs (ts.headD []) = bx at *
    go_enter Tryz.func264, Tryz.ntmps264
    go_wp2_with fail
    refine (HP.out).mono ?_; rintro e w1 ⟨rfl, rfl⟩
    go_wp2_with fail
    refine (HI.out).mono ?_; rintro e w1 ⟨rfl, rfl⟩
    go_wp2_with fail
    refine (HC.out).mono ?_; intro e wz ha
    have HQ := hide (AnsO.as (o' := (Classical.choice lf).partO ts) (Kq.refl _ _) HT.out ha)
    rcases ha.ends with rfl | ⟨v, rfl⟩
    · unfold gaveUp noForm
      clear ha
      go_wp2
      exact ⟨rfl, HQ.out⟩
    · clear ha
      go_wp2
      go_ret
      exact HQ.out
  · obtain ⟨t, r, rfl⟩ := kind_cons (ts := ts) (k := 110) (by decide) hk
    have HT := hide (take_one h)
    have HN := hide (fun (w1 : World) => New_any 22 (bs t) none 0 0 w1)
    have HQ := hide (fun (w1 : World) (k1 : Kq rb w w1) (k2 : Rq rb r w1) => AnsO.yes (c := 2) (o := (Classical.choice lf).partO (t :: r)) (k1.alloc (.cells #[.int .i64 22, .string (bs t), .slice none 0 0] tyTree)) (by unfold LFam.partO G.kindOf; rw [hk] <;> rfl) (Mem.leaf (A := From w) (KindOf.named t 0) w1) (k2.alloc _))
    rw [hk] at HI
    rw [show (t :: r).headD [] = t from rfl] at HP HI
    clear hW h hk HC
    generalize AnsO rb 2 w ((Classical.choice lf).partO (t :: r)) = Q at *
    generalize bs t = bx at *
    go_enter Tryz.func264, Tryz.ntmps264
    go_wp2_with fail
    refine (HP.out).mono ?_; rintro e w1 ⟨rfl, rfl⟩
    go_wp2_with fail
    refine (HI.out).mono ?_; rintro e w1 ⟨rfl, rfl⟩
    go_wp2_with fail
    refine (HT.out).mono ?_; rintro e w1 ⟨rfl, hT⟩
    go_wp2_with fail
    refine (HN.out _).mono ?_; rintro e w2 ⟨rfl, rfl⟩
    go_wp2
    exact HQ.out _ hT.out.1 hT.out.2

theorem Enters.part : Enters 264 := enters Tryz.func264 (by kernel_rfl) rfl

theorem p_atypes {rb m : Nat} (hW : ∀ ts w, wt ts < m → Rq rb ts w → WholeAt rb ts w) (ts : Toks) (w : World) (hm : wt ts ≤ m) (h : Rq rb ts w) : Calls Tryz.prog 199 #[.func (.func 264) #[ptrV rb] #[]] w (AnsS rb 2 w ((Classical.choice lf).atypes ts)) :=
  several_any atypes_sev part_w Enters.part (fun ts w h1 h2 => p_part hW ts w h1 h2) ts w hm h

set_option maxHeartbeats 2000000 in
theorem p_argument {rb m : Nat} (hW : ∀ ts w, wt ts < m → Rq rb ts w → WholeAt rb ts w) (ts : Toks) (w : World) (hm : wt ts ≤ m) (h : Rq rb ts w) : Calls Tryz.prog 395 #[ptrV rb] w (AnsN rb 2 w ((Classical.choice lf).typ1 ts)) := by
  have HP := hide (peek_any h)
  have HI := hide (IsName_tok h.head w)
  cases hk : (tokKind (ts.headD []) == 110)
  · rw [hk] at HI
    have HC := hide (p_closed hW ts w hm h)
    have hT : (Classical.choice lf).typ1 ts = (Classical.choice lf).need ((Classical.choice lf).closedO ts) := by rw [typ1_need]; unfold G.kindOf; rw [hk]; rfl
    have HT := hide hT
    clear hW h hT hk
    generalize bs (ts.headD []) = bx at *
    go_enter Tryz.func395, Tryz.ntmps395
    go_wp2_with fail
    refine (HP.out).mono ?_; rintro e w1 ⟨rfl, rfl⟩
    go_wp2_with fail
    refine (HI.out).mono ?_; rintro e w1 ⟨rfl, rfl⟩
    go_wp2_with fail
    refine (HC.out).mono ?_; rintro e w2 ⟨hk2, ⟨ho2, rfl⟩ | ⟨r2, ho2, rfl, hr2⟩ | ⟨t2, r2, b2, ho2, rfl, hm2, hr2⟩⟩
    · have HQ := hide (AnsN.no (c := 2) (o := (Classical.choice lf).typ1 ts) hk2 (by rw [HT.out, ho2] <;> rfl))
      unfold gaveUp noForm
      go_wp2
      exact ⟨rfl, HQ.out⟩
    · have HQ := hide (AnsN.no (c := 2) (o := (Classical.choice lf).typ1 ts) hk2 (by rw [HT.out, ho2] <;> rfl))
      have HN := hide (need_nil w2)
      go_wp2_with fail
      refine (HN.out).mono ?_; rintro e w3 ⟨rfl, rfl⟩
      unfold gaveUp noForm
      go_wp2
      exact ⟨rfl, HQ.out⟩
    · have HQ := hide (AnsN.yes (c := 2) (o := (Classical.choice lf).typ1 ts) hk2 (by rw [HT.out, ho2] <;> rfl) hm2 hr2)
      have HN := hide (need_node b2 w2)
      go_wp2_with fail
      refine (HN.out).mono ?_; rintro e w3 ⟨rfl, rfl⟩
      unfold ptrV at *
      go_wp2
      go_ret
      exact HQ.out
  · obtain ⟨t, r, rfl⟩ := kind_cons (ts := ts) (k := 110) (by decide) hk
    have hlt := wt_kind_lt (ts := t :: r) (k := 110) (by decide) hk
    have HT := hide (take_one h)
    have HS := hide (fun (w1 : World) (h1 : Rq rb r w1) => p_atypes hW r w1 (by have : (t :: r).tail = r := rfl; rw [this] at hlt; omega) h1)
    have hE : (Classical.choice lf).typ1 (t :: r) = ((Classical.choice lf).atypes r).bind fun l => some (.mk K.named_ t l.1, l.2) := by rw [typ1_need]; unfold G.kindOf; rw [hk]; rfl
    have HE := hide hE
    rw [hk] at HI
    rw [show (t :: r).headD [] = t from rfl] at HP HI
    clear hW h hk hE hlt
    go_enter Tryz.func395, Tryz.ntmps395
    go_wp2_with fail
    refine (HP.out).mono ?_; rintro e w1 ⟨rfl, rfl⟩
    go_wp2_with fail
    refine (HI.out).mono ?_; rintro e w1 ⟨rfl, rfl⟩
    go_wp2_with fail
    refine (HT.out).mono ?_; rintro e w1 ⟨rfl, hT⟩
    have hk1 := hT.out.1
    have HC := hide (HS.out w1 hT.out.2)
    go_wp2_with fail
    refine (HC.out).mono ?_; rintro e w2 ⟨hk2, ⟨ho2, rfl⟩ | ⟨l2, r2, v2, ps2, ho2, rfl, hv2, hm2, hr2⟩⟩
    · have HQ := hide (AnsN.no (c := 2) (o := (Classical.choice lf).typ1 (t :: r)) (hk1.to hk2) (by rw [HE.out, ho2] <;> rfl))
      unfold gaveUp noForm
      go_wp2
      exact ⟨rfl, HQ.out⟩
    · have HQ := hide (AnsN.yes (c := 2) (o := (Classical.choice lf).typ1 (t :: r)) ((hk1.to hk2).alloc (.cells #[.int .i64 22, .string (bs t), v2] tyTree)) (by rw [HE.out, ho2] <;> rfl) (made_from (KindOf.named t ps2.length) (ownsRow_base hv2 hk1.size) (hm2.since hk1)) (hr2.alloc _))
      rcases ownsRow_forms hv2 with ⟨rfl, hn0⟩ | ⟨g, cap, rfl⟩
      · have HN := hide (New_any 22 (bs t) none 0 0 w2)
        clear hv2 hm2
        go_wp2_with fail
        refine (HN.out).mono ?_; rintro e w3 ⟨rfl, rfl⟩
        go_wp2
        go_ret
        exact HQ.out
      · have HN := hide (New_any 22 (bs t) (some ⟨g, 0, none⟩) ps2.length cap w2)
        clear hv2 hm2
        go_wp2_with fail
        refine (HN.out).mono ?_; rintro e w3 ⟨rfl, rfl⟩
        go_wp2
        go_ret
        exact HQ.out

end Go.Proofs.YtnocnkblhjifjaaGreatDoor
/-
  Types and type declarations (package parse): wholeType, variant, typeDeclaration by their contracts; nodes of one, two, three parts.
-/
namespace Go.Proofs.YtnocnkblhjifjaaGreatDoor
open Go.RowKit

/-- The world behind a node of 1 parts. -/
def w1P (w : World) (b1 : Nat) (k : Int) (s : ByteArray) : World := (w.alloc (.cells #[.pointer (some ⟨b1, 0, none⟩)] tyTreeP)).alloc (.cells #[.int .i64 k, .string s, .slice (some ⟨w.heap.size, 0, none⟩) 1 1] tyTree)

theorem node1 {rb c : Nat} {w w1 : World} {is name txt : List UInt8} {k : Int} {c1 b1 : Nat} {t1 : Tr} {r : Toks} {o : Option (Tr × Toks)} (hk : KindOf c is name k txt [c1]) (h1 : Kq rb w w1) (m1 : Mem (From w) w1 c1 t1 b1) (hr : Rq rb r w1) (ho : o = some (.mk is name [t1], r)) :
    AnsN rb c w o (.returned (ptrV (w1.heap.size + 1))) (w1P w1 b1 k (bs txt)) := by
  have hp := ptr1 w1 b1
  have hm := made_from (w := w) (w1 := w1.alloc (.cells #[.pointer (some ⟨b1, 0, none⟩)] tyTreeP)) hk (ownsRow_base hp h1.size) (.cons (m1.alloc _) .nil)
  have hz : (w1.alloc (.cells #[.pointer (some ⟨b1, 0, none⟩)] tyTreeP)).heap.size = w1.heap.size + 1 := by simp
  rw [hz] at hm
  exact AnsN.yes ((h1.alloc _).alloc _) ho hm ((hr.alloc _).alloc _)

theorem New1 (w : World) (b1 : Nat) (k : Int) (s : ByteArray) : Calls Tryz.prog 143 #[.int .i64 k, .string s, .slice (some ⟨w.heap.size, 0, none⟩) 1 1] (w.alloc (.cells #[.pointer (some ⟨b1, 0, none⟩)] tyTreeP)) fun e w' => e = .returned (ptrV (w.heap.size + 1)) ∧ w' = w1P w b1 k s := by
  have h := New_any k s (some ⟨w.heap.size, 0, none⟩) 1 1 (w.alloc (.cells #[.pointer (some ⟨b1, 0, none⟩)] tyTreeP))
  have hz : (w.alloc (.cells #[.pointer (some ⟨b1, 0, none⟩)] tyTreeP)).heap.size = w.heap.size + 1 := by simp
  rw [hz] at h
  exact h

/-- The world behind a node of 2 parts. -/
def w2P (w : World) (b1 b2 : Nat) (k : Int) (s : ByteArray) : World := (w.alloc (.cells #[.pointer (some ⟨b1, 0, none⟩), .pointer (some ⟨b2, 0, none⟩)] tyTreeP)).alloc (.cells #[.int .i64 k, .string s, .slice (some ⟨w.heap.size, 0, none⟩) 2 2] tyTree)

theorem node2 {rb c : Nat} {w w1 : World} {is name txt : List UInt8} {k : Int} {c1 c2 b1 b2 : Nat} {t1 t2 : Tr} {r : Toks} {o : Option (Tr × Toks)} (hk : KindOf c is name k txt [c1, c2]) (h1 : Kq rb w w1) (m1 : Mem (From w) w1 c1 t1 b1) (m2 : Mem (From w) w1 c2 t2 b2) (hr : Rq rb r w1) (ho : o = some (.mk is name [t1, t2], r)) :
    AnsN rb c w o (.returned (ptrV (w1.heap.size + 1))) (w2P w1 b1 b2 k (bs txt)) := by
  have hp := ptr2 w1 b1 b2
  have hm := made_from (w := w) (w1 := w1.alloc (.cells #[.pointer (some ⟨b1, 0, none⟩), .pointer (some ⟨b2, 0, none⟩)] tyTreeP)) hk (ownsRow_base hp h1.size) (.cons (m1.alloc _) (.cons (m2.alloc _) .nil))
  have hz : (w1.alloc (.cells #[.pointer (some ⟨b1, 0, none⟩), .pointer (some ⟨b2, 0, none⟩)] tyTreeP)).heap.size = w1.heap.size + 1 := by simp
  rw [hz] at hm
  exact AnsN.yes ((h1.alloc _).alloc _) ho hm ((hr.alloc _).alloc _)

theorem New2 (w : World) (b1 b2 : Nat) (k : Int) (s : ByteArray) : Calls Tryz.prog 143 #[.int .i64 k, .string s, .slice (some ⟨w.heap.size, 0, none⟩) 2 2] (w.alloc (.cells #[.pointer (some ⟨b1, 0, none⟩), .pointer (some ⟨b2, 0, none⟩)] tyTreeP)) fun e w' => e = .returned (ptrV (w.heap.size + 1)) ∧ w' = w2P w b1 b2 k s := by
  have h := New_any k s (some ⟨w.heap.size, 0, none⟩) 2 2 (w.alloc (.cells #[.pointer (some ⟨b1, 0, none⟩), .pointer (some ⟨b2, 0, none⟩)] tyTreeP))
  have hz : (w.alloc (.cells #[.pointer (some ⟨b1, 0, none⟩), .pointer (some ⟨b2, 0, none⟩)] tyTreeP)).heap.size = w.heap.size + 1 := by simp
  rw [hz] at h
  exact h

/-- The world behind a node of 3 parts. -/
def w3P (w : World) (b1 b2 b3 : Nat) (k : Int) (s : ByteArray) : World := (w.alloc (.cells #[.pointer (some ⟨b1, 0, none⟩), .pointer (some ⟨b2, 0, none⟩), .pointer (some ⟨b3, 0, none⟩)] tyTreeP)).alloc (.cells #[.int .i64 k, .string s, .slice (some ⟨w.heap.size, 0, none⟩) 3 3] tyTree)

theorem node3 {rb c : Nat} {w w1 : World} {is name txt : List UInt8} {k : Int} {c1 c2 c3 b1 b2 b3 : Nat} {t1 t2 t3 : Tr} {r : Toks} {o : Option (Tr × Toks)} (hk : KindOf c is name k txt [c1, c2, c3]) (h1 : Kq rb w w1) (m1 : Mem (From w) w1 c1 t1 b1) (m2 : Mem (From w) w1 c2 t2 b2) (m3 : Mem (From w) w1 c3 t3 b3) (hr : Rq rb r w1) (ho : o = some (.mk is name [t1, t2, t3], r)) :
    AnsN rb c w o (.returned (ptrV (w1.heap.size + 1))) (w3P w1 b1 b2 b3 k (bs txt)) := by
  have hp := ptr3 w1 b1 b2 b3
  have hm := made_from (w := w) (w1 := w1.alloc (.cells #[.pointer (some ⟨b1, 0, none⟩), .pointer (some ⟨b2, 0, none⟩), .pointer (some ⟨b3, 0, none⟩)] tyTreeP)) hk (ownsRow_base hp h1.size) (.cons (m1.alloc _) (.cons (m2.alloc _) (.cons (m3.alloc _) .nil)))
  have hz : (w1.alloc (.cells #[.pointer (some ⟨b1, 0, none⟩), .pointer (some ⟨b2, 0, none⟩), .pointer (some ⟨b3, 0, none⟩)] tyTreeP)).heap.size = w1.heap.size + 1 := by simp
  rw [hz] at hm
  exact AnsN.yes ((h1.alloc _).alloc _) ho hm ((hr.alloc _).alloc _)

theorem New3 (w : World) (b1 b2 b3 : Nat) (k : Int) (s : ByteArray) : Calls Tryz.prog 143 #[.int .i64 k, .string s, .slice (some ⟨w.heap.size, 0, none⟩) 3 3] (w.alloc (.cells #[.pointer (some ⟨b1, 0, none⟩), .pointer (some ⟨b2, 0, none⟩), .pointer (some ⟨b3, 0, none⟩)] tyTreeP)) fun e w' => e = .returned (ptrV (w.heap.size + 1)) ∧ w' = w3P w b1 b2 b3 k s := by
  have h := New_any k s (some ⟨w.heap.size, 0, none⟩) 3 3 (w.alloc (.cells #[.pointer (some ⟨b1, 0, none⟩), .pointer (some ⟨b2, 0, none⟩), .pointer (some ⟨b3, 0, none⟩)] tyTreeP))
  have hz : (w.alloc (.cells #[.pointer (some ⟨b1, 0, none⟩), .pointer (some ⟨b2, 0, none⟩), .pointer (some ⟨b3, 0, none⟩)] tyTreeP)).heap.size = w.heap.size + 1 := by simp
  rw [hz] at h
  exact h

theorem NewRow {w : World} {base n : Nat} {v : Value} {xs : List Value} (hv : w.ownsRow base tyTreeP 1 v n xs) (k : Int) (s : ByteArray) : Calls Tryz.prog 143 #[.int .i64 k, .string s, v] w fun e w' => e = .returned (ptrV w.heap.size) ∧ w' = w.alloc (.cells #[.int .i64 k, .string s, v] tyTree) := by
  rcases ownsRow_forms hv with ⟨rfl, _⟩ | ⟨g, cap, rfl⟩
  · exact New_any k s none 0 0 w
  · exact New_any k s _ _ _ w

/-- A node whose parts are a row that has been read. -/
theorem nodeRow {rb c c2 : Nat} {w w1 w2 : World} {is name txt : List UInt8} {k : Int} {l : List Tr} {ps : List Nat} {v : Value} {r : Toks} {o : Option (Tr × Toks)} (hk : KindOf c is name k txt (List.replicate ps.length c2)) (h1 : Kq rb w w1) (h2 : Kq rb w1 w2)
    (hv : w2.ownsRow w1.heap.size tyTreeP 1 v ps.length (ps.map ptrV)) (hm : Mem.Mems (fun g => w1.heap.size ≤ g ∧ v.ownBlock ≠ some g) w2 (List.replicate ps.length c2) l ps) (hr : Rq rb r w2) (ho : o = some (.mk is name l, r)) :
    AnsN rb c w o (.returned (ptrV w2.heap.size)) (w2.alloc (.cells #[.int .i64 k, .string (bs txt), v] tyTree)) :=
  AnsN.yes ((h1.to h2).alloc _) ho (made_from hk (ownsRow_base hv h1.size) (hm.since h1)) (hr.alloc _)

set_option maxHeartbeats 2000000 in
theorem p_whole_step {rb m : Nat} (hW : ∀ ts w, wt ts < m → Rq rb ts w → WholeAt rb ts w) (ts : Toks) (w : World) (hm : wt ts ≤ m) (h : Rq rb ts w) : WholeAt rb ts w := by
  unfold WholeAt
  have H1 := hide (p_argument hW ts w hm h)
  have HA := hide (fun (ts : Toks) (w : World) (h : Rq rb ts w) => accept_w (x := K.arrow_) bsK_arrow (by decide) h)
  have HW := hide hW
  have HE := hide ((Classical.choice lf).typ_eq ts)
  clear hW h
  go_enter Tryz.func367, Tryz.ntmps367
  go_wp2_with fail
  refine (H1.out).mono ?_; rintro e w1 ⟨hk1, ⟨ho1, rfl⟩ | ⟨t1, r1, b1, ho1, rfl, hm1, hr1⟩⟩
  · have HQ := hide (AnsN.no (c := 2) (o := (Classical.choice lf).typ ts) hk1 (by rw [HE.out, ho1] <;> rfl))
    unfold gaveUp noForm
    go_wp2
    exact ⟨rfl, HQ.out⟩
  · have hlt := (Classical.choice lf).typ1_w ho1
    have hlt : mu t1 + wt r1 ≤ wt ts := hlt
    have HB := hide (HA.out r1 w1 hr1)
    go_wp2_with fail
    refine (HB.out).mono ?_; rintro e w2 ⟨hk2, ⟨ho2, rfl, hr2⟩ | ⟨ho2, rfl, hr2⟩⟩
    · have HQ := hide (AnsN.yes (c := 2) (o := (Classical.choice lf).typ ts) (hk1.to hk2) (by rw [HE.out, ho1, Option.bind_some]; show (bif G.isW K.arrow_ r1 then _ else _) = _; rw [ho2] <;> rfl) (hm1.kq hr1 hk2) hr2)
      unfold ptrV at *
      go_wp2
      go_ret
      exact HQ.out
    · have hlt2 := wt_isW_lt ho2
      have HC := hide (HW.out r1.tail w2 (by omega) hr2)
      unfold WholeAt at HC
      go_wp2_with fail
      refine (HC.out).mono ?_; rintro e w3 ⟨hk3, ⟨ho3, rfl⟩ | ⟨t3, r3, b3, ho3, rfl, hm3, hr3⟩⟩
      · have HQ := hide (AnsN.no (c := 2) (o := (Classical.choice lf).typ ts) ((hk1.to hk2).to hk3) (by rw [HE.out, ho1, Option.bind_some]; show (bif G.isW K.arrow_ r1 then _ else _) = _; rw [ho2, cond_true, ho3] <;> rfl))
        unfold gaveUp noForm
        go_wp2
        exact ⟨rfl, HQ.out⟩
      · have HQ := hide (node2 (o := (Classical.choice lf).typ ts) KindOf.arrow ((hk1.to hk2).to hk3) ((hm1.kq hr1 hk2).kq hr2 hk3) (hm3.since (hk1.to hk2)) hr3 (by rw [HE.out, ho1, Option.bind_some]; show (bif G.isW K.arrow_ r1 then _ else _) = _; rw [ho2, cond_true, ho3] <;> rfl))
        have HN := hide (New2 w3 b1 b3 23 ⟨#[]⟩)
        unfold ptrV at *
        go_wp2_with fail
        refine (HN.out).mono ?_; rintro e w4 ⟨rfl, rfl⟩
        go_wp2
        go_ret
        exact HQ.out

theorem p_whole {rb : Nat} : ∀ (m : Nat) (ts : Toks) (w : World), wt ts ≤ m → Rq rb ts w → WholeAt rb ts w := by
  intro m
  induction m with
  | zero => intro ts w hm h; exact p_whole_step (m := 0) (fun _ _ h => absurd h (Nat.not_lt_zero _)) ts w hm h
  | succ m ih => intro ts w hm h; exact p_whole_step (m := m + 1) (fun ts w h => ih ts w (by omega)) ts w hm h

theorem p_atypes_all {rb : Nat} (ts : Toks) (w : World) (h : Rq rb ts w) : Calls Tryz.prog 199 #[.func (.func 264) #[ptrV rb] #[]] w (AnsS rb 2 w ((Classical.choice lf).atypes ts)) :=
  p_atypes (m := wt ts) (fun ts w _ h => p_whole (wt ts) ts w (Nat.le_refl _) h) ts w (Nat.le_refl _) h

set_option maxHeartbeats 2000000 in
theorem p_variant {rb : Nat} (ts : Toks) (w : World) (h : Rq rb ts w) : Calls Tryz.prog 202 #[ptrV rb] w (AnsN rb 3 w ((Classical.choice lf).variant ts)) := by
  have HP := hide (peek_any h)
  have HI := hide (IsConstructor_tok h.head w)
  cases hk : (tokKind (ts.headD []) == 99)
  · have HQ := hide (AnsN.no (c := 3) (o := (Classical.choice lf).variant ts) (Kq.refl rb w) (by unfold LFam.variant G.kind G.kindOf; rw [hk] <;> rfl))
    rw [hk] at HI
    clear h hk
    generalize bs (ts.headD []) = bx at *
    go_enter Tryz.func202, Tryz.ntmps202
    go_wp2_with fail
    refine (HP.out).mono ?_; rintro e w1 ⟨rfl, rfl⟩
    go_wp2_with fail
    refine (HI.out).mono ?_; rintro e w1 ⟨rfl, rfl⟩
    go_wp2
    exact ⟨rfl, HQ.out⟩
  · obtain ⟨t, r, rfl⟩ := kind_cons (ts := ts) (k := 99) (by decide) hk
    have HT := hide (take_one h)
    have HS := hide (fun (w1 : World) (h1 : Rq rb r w1) => p_atypes_all r w1 h1)
    have hE : (Classical.choice lf).variant (t :: r) = ((Classical.choice lf).atypes r).bind fun l => some (.mk K.named_ t l.1, l.2) := by unfold LFam.variant G.kind G.kindOf; rw [hk] <;> rfl
    have HE := hide hE
    rw [hk] at HI
    rw [show (t :: r).headD [] = t from rfl] at HP HI
    clear h hk hE
    go_enter Tryz.func202, Tryz.ntmps202
    go_wp2_with fail
    refine (HP.out).mono ?_; rintro e w1 ⟨rfl, rfl⟩
    go_wp2_with fail
    refine (HI.out).mono ?_; rintro e w1 ⟨rfl, rfl⟩
    go_wp2_with fail
    refine (HT.out).mono ?_; rintro e w1 ⟨rfl, hT⟩
    have hk1 := hT.out.1
    have HC := hide (HS.out w1 hT.out.2)
    go_wp2_with fail
    refine (HC.out).mono ?_; rintro e w2 ⟨hk2, ⟨ho2, rfl⟩ | ⟨l2, r2, v2, ps2, ho2, rfl, hv2, hm2, hr2⟩⟩
    · have HQ := hide (AnsN.no (c := 3) (o := (Classical.choice lf).variant (t :: r)) (hk1.to hk2) (by rw [HE.out, ho2] <;> rfl))
      unfold gaveUp noForm
      go_wp2
      exact ⟨rfl, HQ.out⟩
    · have HQ := hide (nodeRow (o := (Classical.choice lf).variant (t :: r)) (KindOf.variant t ps2.length) hk1 hk2 hv2 hm2 hr2 (by rw [HE.out, ho2] <;> rfl))
      have HN := hide (NewRow hv2 20 (bs t))
      clear hv2 hm2
      go_wp2_with fail
      refine (HN.out).mono ?_; rintro e w3 ⟨rfl, rfl⟩
      go_wp2
      go_ret
      exact HQ.out

set_option maxHeartbeats 2000000 in
theorem p_ownLetter {rb : Nat} (ts : Toks) (w : World) (h : Rq rb ts w) : Calls Tryz.prog 200 #[ptrV rb] w (AnsO rb 5 w ((Classical.choice lf).letterO 5 ts)) := by
  have HC := hide (letter_any 5 19 (Or.inr ⟨rfl, rfl⟩) h)
  clear h
  go_enter Tryz.func200, Tryz.ntmps200
  go_wp2_with fail
  refine (HC.out).mono ?_; intro e wz ha
  have HQ := hide (id ha)
  rcases ha.ends with rfl | ⟨v, rfl⟩
  · unfold gaveUp noForm
    clear ha
    go_wp2
    exact ⟨rfl, HQ.out⟩
  · clear ha
    go_wp2
    go_ret
    exact HQ.out

theorem letterO_w (ts : Toks) (t : Tr) (r : Toks) (h : (Classical.choice lf).letterO 5 ts = some (some t, r)) : wt r < wt ts := by
  unfold LFam.letterO at h
  cases k2 : (G.kindOf ts == 108)
  · rw [k2] at h; cases h
  · rw [k2, cond_true] at h
    have h2 : r = ts.tail := (congrArg Prod.snd (Option.some.inj h)).symm
    rw [h2]; exact wt_kind_lt (by decide) k2

theorem p_letters {rb : Nat} (ts : Toks) (w : World) (h : Rq rb ts w) : Calls Tryz.prog 199 #[.func (.func 200) #[ptrV rb] #[]] w (AnsS rb 5 w (some (G.letters (G.every 108 ts).1, (G.every 108 ts).2))) :=
  several_any (M := wt ts) letters_sev letterO_w (enters Tryz.func200 (by kernel_rfl) rfl) (fun ts w _ h2 => p_ownLetter ts w h2) ts w (Nat.le_refl _) h

end Go.Proofs.YtnocnkblhjifjaaGreatDoor
