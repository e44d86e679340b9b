import Derived.Test.YtnocnkblhjifjaaGreatDoorMPTypes
/-
  A row of nodes that grows while one reads on; type declarations (package parse).
-/
namespace Go.Proofs.YtnocnkblhjifjaaGreatDoor
open Go.RowKit

/-- A row of nodes of one's own, made since w, and the reader beside it. -/
structure RowAt (rb : Nat) (w : World) (v : Value) (cs : List Nat) (acc : List Tr) (ps : List Nat) (ts : Toks) (wr : World) : Prop where
  own : wr.ownsRow w.heap.size tyTreeP 1 v ps.length (ps.map ptrV)
  kq : Kq rb w wr
  rq : Rq rb ts wr
  mems : Mem.Mems (fun g => w.heap.size ≤ g ∧ v.ownBlock ≠ some g) wr cs acc ps

section
variable {rb c : Nat} {w wr w1 w2 : World} {v v' : Value} {cs : List Nat} {acc : List Tr} {ps : List Nat} {ts r : Toks}

/-- Behind a call. -/
theorem RowAt.behind (h : RowAt rb w v cs acc ps ts wr) (hk : Kq rb wr w1) (hr : Rq rb r w1) : RowAt rb w v cs acc ps r w1 :=
  ⟨ownsRow_kept h.own fun _ _ _ _ he => kq_other (by decide) h.rq.isR hk he, h.kq.to hk, hr, h.mems.kq h.rq hk⟩

theorem RowAt.apart (h : RowAt rb w v cs acc ps ts wr) {t : Tr} {b : Nat} (hm : Mem (From wr) w1 c t b) : Mem (fun g => w.heap.size ≤ g ∧ v.ownBlock ≠ some g) w1 c t b :=
  hm.wide fun k hf _ => ⟨Nat.le_trans h.kq.size hf, fun e => by have := (h.own.lt k e).2; have hf : wr.heap.size ≤ k := hf; omega⟩

/-- One more behind the row. -/
theorem RowAt.put (h : RowAt rb w v cs acc ps ts wr) {t : Tr} {b : Nat} (hm : Mem (fun g => w.heap.size ≤ g ∧ v.ownBlock ≠ some g) wr c t b) {o : Obj} (hown : w2.ownsRow w.heap.size tyTreeP 1 v' (ps ++ [b]).length ((ps ++ [b]).map ptrV)) (hg : (wr.alloc o).grownBy w2 v.ownBlock)
    (hl : ∀ g, v'.ownBlock = some g → v.ownBlock = some g ∨ wr.heap.size < g) : RowAt rb w v' (cs ++ [c]) (acc ++ [t]) (ps ++ [b]) ts w2 := by
  have hv3 : ∀ g, v.ownBlock = some g → w.heap.size ≤ g ∧ g < wr.heap.size := fun g hg => h.own.lt g hg
  have hkg := (h.kq.alloc o).grownOwn hg (fun g hgg => (hv3 g hgg).1)
  have hother : ∀ {k : Nat} {c : Array Value} {T : TypeId} {f : Nat × Nat}, T ≠ tyTreeP → wr.heap[k]? = some (.cells c T f) → w2.heap[k]? = some (.cells c T f) := by
    intro k c T f hT he
    have hlt := lt_of_heap he
    rw [hg.block k (by simp; omega) (fun e => ?_), Below.heap_alloc _ _ _ hlt]
    · exact he
    · rcases h.own.2 with ⟨rfl, _⟩ | ⟨g2, cap, cur, rfl, _, hgg, _⟩
      · simp [Value.ownBlock] at e
      · have e : k = g2 := by simpa [Value.ownBlock] using e
        subst e
        rw [he] at hgg; simp at hgg
        exact hT hgg.2.1
  refine ⟨hown, hkg, ?_, ?_⟩
  · obtain ⟨tb, o1, cap, cs1, hb, ht, r1⟩ := h.rq.own
    exact ⟨h.rq.len, h.rq.toks, tb, o1, cap, cs1, hother (by decide) hb, hother (by decide) ht, r1⟩
  · have hA2 := ((h.mems.append (.cons hm .nil)).wide (A' := fun g => w.heap.size ≤ g ∧ v.ownBlock ≠ some g ∧ g < wr.heap.size) (fun k hk hlt => ⟨hk.1, hk.2, hlt⟩)).alloc o
    have hA3 := Mem.Mems.grown (h.own.alloc o) hg (fun g hA => hA.2.1) hA2
    refine hA3.wide (fun k hk _ => ⟨hk.1, fun e => ?_⟩)
    rcases hl k e with h | h
    · exact hk.2.1 h
    · have := hk.2.2; omega

/-- The node of the row. -/
theorem RowAt.node (h : RowAt rb w v cs acc ps ts wr) {is name txt : List UInt8} {k : Int} {o : Option (Tr × Toks)} (hk : KindOf c is name k txt cs) (ho : o = some (.mk is name acc, ts)) :
    AnsN rb c w o (.returned (ptrV wr.heap.size)) (wr.alloc (.cells #[.int .i64 k, .string (bs txt), v] tyTree)) :=
  AnsN.yes (h.kq.alloc _) ho (made_from hk h.own (h.mems.wide fun _ hf _ => hf.1)) (h.rq.alloc _)
end

/-- The variants behind the first one. -/
def LFam.restV (L : LFam) (ts : Toks) : Option (List Tr × Toks) := bif G.isW K.bar_ ts then L.variants ts.tail else some ([], ts)

theorem variants_rest (ts : Toks) : (Classical.choice lf).variants ts = ((Classical.choice lf).variant ts).bind fun q => ((Classical.choice lf).restV q.2).bind fun v => some (q.1 :: v.1, v.2) := by
  rw [(Classical.choice lf).variants_eq]
  congr 1
  funext q
  unfold LFam.restV
  cases G.isW K.bar_ q.2 <;> rfl

/-- A type declaration, behind its `type`. -/
def LFam.typeD (L : LFam) (ts : Toks) : Option (Tr × Toks) := (G.kind 110 ts).bind fun nm => (G.want K.eq_ (G.every 108 nm.2).2).bind fun r => (L.variants r).bind fun v => some (Tr.mk K.type_ nm.1 (G.letters (G.every 108 nm.2).1 ++ v.1), v.2)

theorem len_wt : ∀ l : Toks, l.length ≤ wt l := by
  intro l
  induction l with
  | nil => exact Nat.le_refl _
  | cons a r ih => rw [wt, List.length_cons]; omega

theorem variant_wt {ts : Toks} {q : Tr × Toks} (h : (Classical.choice lf).variant ts = some q) : wt q.2 < wt ts := by
  unfold LFam.variant at h
  simp only [Option.bind_eq_some_iff] at h
  obtain ⟨c, hc, l, hl, h⟩ := h
  rw [← Option.some.inj h]
  have h1 := wt_kindO (by decide) hc
  have h2 := (Classical.choice lf).atypes_w hl
  show wt l.2 < _
  omega

/-- What the loop holds at its head. -/
def TypeAt (rb : Nat) (w : World) (ts : Toks) (x : List UInt8) (n : Nat) (gk : Nat) (v : Value) (wr : World) : Prop :=
  ∃ k acc ps ts1, RowAt rb w v (List.replicate n 5 ++ List.replicate k 3) acc ps ts1 wr ∧ gk = wt ts1 ∧ ps.length + wt ts1 ≤ wt ts ∧ (Classical.choice lf).typeD ts = ((Classical.choice lf).restV ts1).bind fun v => some (.mk K.type_ x (acc ++ v.1), v.2)

set_option maxRecDepth 100000 in
set_option maxHeartbeats 4000000 in
theorem p_typeDeclaration {rb : Nat} (ts : Toks) (w : World) (h : Rq rb ts w) : Calls Tryz.prog 141 #[ptrV rb] w (AnsN rb 4 w ((Classical.choice lf).typeD ts)) := by
  have hwt := h.wt_le
  have H1 := hide (name_any h)
  have HL := hide (fun (ts : Toks) (w : World) (h : Rq rb ts w) => p_letters ts w h)
  have HX := hide (fun (ts : Toks) (w : World) (h : Rq rb ts w) => expect_w (x := K.eq_) bsK_eq (by decide) h)
  have HA := hide (fun (ts : Toks) (w : World) (h : Rq rb ts w) => accept_w (x := K.bar_) bsK_bar (by decide) h)
  have HV := hide (fun (ts : Toks) (w : World) (h : Rq rb ts w) => p_variant ts w h)
  clear h
  go_enter Tryz.func141, Tryz.ntmps141
  go_wp2_with fail
  refine (H1.out).mono ?_; rintro e w1 ⟨hk1, ⟨ho1, rfl⟩ | ⟨x1, r1, ho1, rfl, hr1⟩⟩
  · have HQ := hide (AnsN.no (c := 4) (o := (Classical.choice lf).typeD ts) hk1 (by unfold LFam.typeD; rw [ho1] <;> rfl))
    unfold gaveUp noForm
    go_wp2
    exact ⟨rfl, HQ.out⟩
  · have hq1 := wt_kindO (by decide) ho1
    have hq1 : wt ts = x1.length + 20 + wt r1 := hq1
    have hq2 := wt_every 108 r1
    have hq3 := len_wt (G.every 108 r1).1
    have HC := hide (HL.out r1 w1 hr1)
    go_wp2_with fail
    refine (HC.out).mono ?_; rintro e w2 ⟨hk2, ⟨ho2, _⟩ | ⟨l2, r2, v2, ps2, ho2, rfl, hv2, hm2, hr2⟩⟩
    · cases ho2
    · have hl2 : G.letters (G.every 108 r1).1 = l2 := congrArg Prod.fst (Option.some.inj ho2)
      have hr2e : (G.every 108 r1).2 = r2 := congrArg Prod.snd (Option.some.inj ho2)
      have hlen := hm2.length.2
      have hlen2 : ps2.length = (G.every 108 r1).1.length := by rw [hlen, ← hl2]; simp [G.letters]
      have hle2 : ps2.length ≤ wt (G.every 108 r1).1 := by omega
      clear hlen hlen2
      have hRow : RowAt rb w v2 (List.replicate ps2.length 5) l2 ps2 r2 w2 := ⟨ownsRow_base hv2 hk1.size, hk1.to hk2, hr2, hm2.wide fun k hf _ => ⟨Nat.le_trans hk1.size hf.1, hf.2⟩⟩
      rw [hr2e] at hq2
      have HC := hide (HX.out r2 w2 hr2)
      have HRow := hide hRow
      clear hv2 hm2 hr2 hRow
      go_wp2_with fail
      refine (HC.out).mono ?_; rintro e w3 ⟨hk3, ⟨ho3, rfl⟩ | ⟨r3, ho3, rfl, hr3⟩⟩
      · have HQ := hide (AnsN.no (c := 4) (o := (Classical.choice lf).typeD ts) ((hk1.to hk2).to hk3) (by unfold LFam.typeD; rw [ho1, Option.bind_some, hr2e, ho3] <;> rfl))
        unfold gaveUp noForm
        go_wp2
        exact ⟨rfl, HQ.out⟩
      · have hq4 := wt_want ho3
        have hRow3 := HRow.out.behind hk3 hr3
        have HC := hide (HV.out r3 w3 hr3)
        go_wp2_with fail
        refine (HC.out).mono ?_; rintro e w4 ⟨hk4, ⟨ho4, rfl⟩ | ⟨t4, r4, b4, ho4, rfl, hm4, hr4⟩⟩
        · have HQ := hide (AnsN.no (c := 4) (o := (Classical.choice lf).typeD ts) (((hk1.to hk2).to hk3).to hk4) (by unfold LFam.typeD; rw [ho1, Option.bind_some, hr2e, ho3, Option.bind_some, variants_rest, ho4] <;> rfl))
          unfold gaveUp noForm
          go_wp2
          exact ⟨rfl, HQ.out⟩
        · have hq5 : wt r4 < wt r3 := variant_wt ho4
          have hRow4 := hRow3.behind hk4 hr4
          have hm4' := hRow3.apart hm4
          have hps : ps2.length ≤ 100000000 := by omega
          have hbs : w.heap.size ≤ w4.heap.size := hRow4.kq.size
          have hE : (Classical.choice lf).typeD ts = ((Classical.choice lf).restV r4).bind fun v => some (.mk K.type_ x1 ((l2 ++ [t4]) ++ v.1), v.2) := by
            unfold LFam.typeD
            rw [ho1, Option.bind_some, hr2e, ho3, Option.bind_some, variants_rest, ho4, Option.bind_some, hl2, Option.bind_assoc]
            congr 1
            funext z
            simp
          have HE := hide hE
          have HM := hide hm4'
          have HR4 := hide hRow4
          have hown := hRow4.own
          clear hRow3 hRow4 hm4 hm4' hE HRow hr3 hr4 ho1 ho2 ho3 ho4 hk1 hk2 hk3 hk4 hl2 hr2e
          unfold ptrV at *
          go_wp2_with (at_builtin; refine append_ptr rfl _ _ rfl b4 hown hps hbs rfl rfl ?_)
          intro v5 w5 hown5 hgr HLt
          have hown6 : w5.ownsRow w.heap.size tyTreeP 1 v5 (ps2 ++ [b4]).length ((ps2 ++ [b4]).map ptrV) := by
            rw [List.length_append, List.map_append]; exact hown5
          have hRow5 := HR4.out.put HM.out hown6 hgr HLt.out
          have hAt : TypeAt rb w ts x1 ps2.length (wt r4) v5 w5 := ⟨1, _, _, r4, hRow5, rfl, by simp; omega, HE.out⟩
          have HAt := hide hAt
          clear hown hown5 hown6 hgr HLt hRow5 HR4 HM HE hAt hq1 hq2 hq3 hq4 hq5 hle2 hps
          generalize ps2.length = n at *
          go_wp2_with fail
          go_loopg [4] (wt r4) (fun gk v wr => Hid (TypeAt rb w ts x1 n gk v wr))
          case atStart => exact HAt
          case round =>
            clear HAt
            obtain ⟨k, acc, ps, ts1, hRow, rfl, hle, hE⟩ := hrel.out
            have HC := hide (HA.out ts1 wr hRow.rq)
            have HRow := hide hRow
            have HE := hide hE
            have hbs2 : w.heap.size ≤ wr.heap.size := hRow.kq.size
            clear hrel hRow hE
            go_wp2_with fail
            refine (HC.out).mono ?_; rintro e w7 ⟨hk7, ⟨ho7, rfl, hr7⟩ | ⟨ho7, rfl, hr7⟩⟩
            · have hRow7 := HRow.out.behind hk7 hr7
              have HQ := hide (hRow7.node (o := (Classical.choice lf).typeD ts) (KindOf.type_ x1 n k) (by rw [HE.out]; unfold LFam.restV; rw [ho7, cond_false, Option.bind_some, List.append_nil]))
              have HN := hide (NewRow hRow7.own 18 (bs x1))
              clear hRow7 HRow HE hr7 hk7 ho7
              go_wp2_with fail
              refine (HN.out).mono ?_; rintro e w8 ⟨rfl, rfl⟩
              go_wp2
              go_ret
              exact HQ.out
            · have hRow7 := HRow.out.behind hk7 hr7
              have hq7 := wt_isW_lt ho7
              have HC := hide (HV.out ts1.tail w7 hr7)
              have HRow7 := hide hRow7
              clear hRow7 HRow
              go_wp2_with fail
              refine (HC.out).mono ?_; rintro e w8 ⟨hk8, ⟨ho8, rfl⟩ | ⟨t8, r8, b8, ho8, rfl, hm8, hr8⟩⟩
              · have HQ := hide (AnsN.no (c := 4) (o := (Classical.choice lf).typeD ts) (HRow7.out.kq.to hk8) (by rw [HE.out]; unfold LFam.restV; rw [ho7, cond_true, variants_rest, ho8] <;> rfl))
                unfold gaveUp noForm
                go_wp2
                exact ⟨rfl, HQ.out⟩
              · have hq8 : wt r8 < wt ts1.tail := variant_wt ho8
                have hRow8 := HRow7.out.behind hk8 hr8
                have hm8' := HRow7.out.apart hm8
                have hps8 : ps.length ≤ 100000000 := by omega
                have hbs8 : w.heap.size ≤ w8.heap.size := hRow8.kq.size
                have hE8 : (Classical.choice lf).typeD ts = ((Classical.choice lf).restV r8).bind fun v => some (.mk K.type_ x1 ((acc ++ [t8]) ++ v.1), v.2) := by
                  rw [HE.out]
                  unfold LFam.restV
                  rw [ho7, cond_true, variants_rest, ho8, Option.bind_some, Option.bind_assoc]
                  congr 1
                  funext z
                  simp
                have hcs : (List.replicate n 5 ++ List.replicate k 3) ++ [3] = List.replicate n 5 ++ List.replicate (k + 1) 3 := by rw [List.append_assoc, List.replicate_succ']
                have HE8 := hide hE8
                have HM8 := hide hm8'
                have HR8 := hide hRow8
                have hown8 := hRow8.own
                clear hRow8 hm8 hm8' hE8 HRow7 HE hr7 hr8 ho7 ho8 hk7 hk8
                unfold ptrV at *
                go_wp2_with (at_builtin; refine append_ptr rfl _ _ rfl b8 hown8 hps8 hbs8 rfl rfl ?_)
                intro v9 w9 hown9 hgr9 HLt9
                have hown10 : w9.ownsRow w.heap.size tyTreeP 1 v9 (ps ++ [b8]).length ((ps ++ [b8]).map ptrV) := by
                  rw [List.length_append, List.map_append]; exact hown9
                have hRow9 := HR8.out.put HM8.out hown10 hgr9 HLt9.out
                rw [hcs] at hRow9
                have hAt : TypeAt rb w ts x1 n (wt r8) v9 w9 := ⟨k + 1, _, _, r8, hRow9, rfl, by simp; omega, HE8.out⟩
                have HAt := hide hAt
                clear hown8 hown9 hown10 hgr9 HLt9 hRow9 HR8 HM8 HE8 hAt hcs
                go_wp2_with fail
                go_roundg (wt r8)
                case rel => exact HAt
                case measure => omega

end Go.Proofs.YtnocnkblhjifjaaGreatDoor
