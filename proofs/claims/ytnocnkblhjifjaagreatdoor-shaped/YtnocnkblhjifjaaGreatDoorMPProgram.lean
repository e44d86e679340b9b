import Derived.Test.YtnocnkblhjifjaaGreatDoorMPDecl
import Derived.Test.YtnocnkblhjifjaaGreatDoorMParseP
import Derived.Test.YtnocnkblhjifjaaGreatDoorMLens
import Derived.Test.YtnocnkblhjifjaaGreatDoorMPlain
import Derived.Lib.SlicesS
/-
  All declarations of a text (parse.Program) by its contract.
-/
namespace Go.Proofs.YtnocnkblhjifjaaGreatDoor
open Go.RowKit

theorem idx_stop : ∀ (ts : Toks) (i : Nat), Lib.idxFromS (ts.map bs) (bs K.dot_) i = if stopAt ts = ts.length then -1 else ((i + stopAt ts : Nat) : Int) := by
  intro ts
  induction ts with
  | nil => intro i; rfl
  | cons t r ih =>
    intro i
    rw [List.map_cons, Lib.idxFromS, stopAt]
    by_cases h : t = K.dot_
    · rw [if_pos h, if_pos (by rw [h]), if_neg (by simp)]; rfl
    · rw [if_neg h, if_neg (fun e => h (bs_inj e)), ih, List.length_cons]
      by_cases h2 : stopAt r = r.length
      · rw [if_pos h2, if_pos (by omega)]
      · rw [if_neg h2, if_neg (by omega)]; congr 1; omega

theorem decl_L {ts : Toks} {F : Nat} (hl : ts.length ≤ 4000) (hF : 10 * ts.length + 13 ≤ F) : (Classical.choice lf).decl ts = G.decl F ts := by
  cases h : (Classical.choice lf).decl ts with
  | some t =>
    obtain ⟨n, hn⟩ := ((Classical.choice lf).decl_Lim ts).gets h
    exact (decl_settled hn hl hF).symm
  | none =>
    cases h2 : G.decl F ts with
    | none => rfl
    | some t => rw [(((Classical.choice lf).decl_Lim ts).iff t).2 ⟨F, h2⟩] at h; cases h

theorem TokAt.take {tb o cap : Nat} {ts : Toks} {w : World} (h : TokAt tb o cap ts w) (k : Nat) (hk : k ≤ ts.length) : TokAt tb o cap (ts.take k) w := by
  obtain ⟨cs, h1, h2, h3, h4⟩ := h.own
  refine ⟨by have := h.len; simp; omega, fun t ht => h.toks t (List.mem_of_mem_take ht), cs, h1, by simp; omega, h3, fun i t hi => h4 i t ?_⟩
  rw [List.getElem?_take] at hi
  split at hi
  · exact hi
  · cases hi

theorem TokAt.drop {tb o cap : Nat} {ts : Toks} {w : World} (h : TokAt tb o cap ts w) (k : Nat) (hk : k ≤ ts.length) (o2 : Nat) (ho : cap = k ∨ o2 = o + k) : TokAt tb o2 (cap - k) (ts.drop k) w := by
  obtain ⟨cs, h1, h2, h3, h4⟩ := h.own
  refine ⟨by have := h.len; simp; omega, fun t ht => h.toks t (List.mem_of_mem_drop ht), cs, h1, by simp; omega, by omega, fun i t hi => ?_⟩
  rw [List.getElem?_drop] at hi
  rcases ho with ho | rfl
  · exfalso
    rw [List.getElem?_eq_none (by omega)] at hi; cases hi
  · have := h4 (k + i) t hi
    rw [← this]; congr 1; omega

theorem TokAt.kept {tb o cap : Nat} {ts : Toks} {w w' : World} (h : TokAt tb o cap ts w) (hk : ∀ (k : Nat) (c : Array Value) (f : Nat × Nat), w.heap[k]? = some (.cells c tyStr f) → w'.heap[k]? = w.heap[k]?) : TokAt tb o cap ts w' := by
  obtain ⟨cs, h1, h2⟩ := h.own
  exact ⟨h.len, h.toks, cs, by rw [hk _ _ _ h1]; exact h1, h2⟩

/-- What the loop holds at its head: the tokens that are still to come, the declarations that have been read. -/
def ProgAt (w : World) (T : Toks) (gk : Nat) (v5 v8 : Value) (wr : World) : Prop :=
  ∃ ts1 acc ps n, gk = ts1.length ∧ ts1.length ≤ T.length ∧ ts1.length < n ∧ ps.length + ts1.length ≤ T.length ∧ T.length ≤ 4000 ∧ ((v5 = .slice none 0 0 ∧ ts1 = []) ∨ ∃ tb o cap, v5 = .slice (some ⟨tb, o, none⟩) ts1.length cap ∧ TokAt tb o cap ts1 wr) ∧
    wr.ownsRow w.heap.size tyTreeP 1 v8 ps.length (ps.map ptrV) ∧ Below w.heap.size w wr ∧ Mem.Mems (fun g => w.heap.size ≤ g ∧ v8.ownBlock ≠ some g) wr (List.replicate ps.length 4) acc ps ∧ progL T = progF (10 * T.length + 13) n ts1 acc

theorem cutL_zero (l : List UInt8) (h : (cutL l).2.2 = 0) : (cutL l).2.1 = 0 := by
  rcases cutL_err l with h1 | ⟨_, ⟨h1, _⟩ | ⟨h1, _⟩⟩
  · exact h1.2
  · omega
  · omega

theorem row_put {A : World → Value → Nat → Prop} {w wr w2 : World} {v v' : Value} {cs : List Nat} {acc : List Tr} {ps : List Nat} {c : Nat} {t : Tr} {b : Nat} {o : Obj} (hA : A = fun w v g => w.heap.size ≤ g ∧ v.ownBlock ≠ some g) (hown : wr.ownsRow w.heap.size tyTreeP 1 v ps.length (ps.map ptrV)) (hms : Mem.Mems (A w v) wr cs acc ps) (hm : Mem (A w v) wr c t b)
    (hg : (wr.alloc o).grownBy w2 v.ownBlock) (hl : ∀ g, v'.ownBlock = some g → v.ownBlock = some g ∨ wr.heap.size < g) : Mem.Mems (A w v') w2 (cs ++ [c]) (acc ++ [t]) (ps ++ [b]) := by
  subst hA
  have hA2 := ((hms.append (.cons hm .nil)).wide (A' := fun g => w.heap.size ≤ g ∧ v.ownBlock ≠ some g ∧ g < wr.heap.size) (fun k hk hlt => ⟨hk.1, hk.2, hlt⟩)).alloc o
  have hA3 := Mem.Mems.grown (hown.alloc o) hg (fun g hA => hA.2.1) hA2
  refine hA3.wide (fun k hk _ => ⟨hk.1, fun e => ?_⟩)
  rcases hl k e with h | h
  · exact hk.2.1 h
  · have := hk.2.2; omega

def AnsP (w : World) (o : List Tr × Nat × Nat) (e : Ending) (w' : World) : Prop :=
  ∃ v ps, e = .returned (.tuple #[v, .int .i64 o.2.1, .int .i64 o.2.2]) ∧ w'.ownsRow w.heap.size tyTreeP 1 v ps.length (ps.map ptrV) ∧ Mem.Mems (From w) w' (List.replicate ps.length 4) o.1 ps ∧ Below w.heap.size w w'

/-- What Trees is to answer before the texts. -/
def progA (l : List UInt8) : List Tr × Nat × Nat := if (cutL l).2.2 = 0 then progL (cutL l).1 else ([], (cutL l).2.1, (cutL l).2.2)

theorem tup3 {v : Value} {a b c d : Int} (h1 : a = c) (h2 : b = d) : Ending.returned (.tuple #[v, .int .i64 a, .int .i64 b]) = .returned (.tuple #[v, .int .i64 c, .int .i64 d]) := by rw [h1, h2]

set_option maxRecDepth 100000 in
set_option maxHeartbeats 8000000 in
theorem p_Program (hF : FunOf) (txt : ByteArray) (w : World) (hs : txt.size ≤ maxLen) : Calls Tryz.prog 28 #[.string txt] w (AnsP w (progA txt.data.toList)) := by
  have hc := Cut_any txt w hs
  have hlen := cutL_len txt.data.toList
  have hgood := fun (h0 : (cutL txt.data.toList).2.1 = 0) (h : (cutL txt.data.toList).2.2 = 0) => cutL_good txt.data.toList (cutL txt.data.toList).1 (Prod.ext rfl (Prod.ext h0 h))
  have hz := fun (h : (cutL txt.data.toList).2.2 = 0) => cutL_zero txt.data.toList h
  unfold progA
  generalize cutL txt.data.toList = R at *
  obtain ⟨T, at_, er⟩ := R
  simp only at hc hlen hgood hz ⊢
  have HC := hide hc
  have HF := hide hF
  clear hc hF
  by_cases her : er = 0
  · subst her
    have h0 := hz rfl
    subst h0
    have HG := hide (hgood rfl rfl)
    rw [if_pos rfl]
    clear hgood hz
    go_enter Tryz.func28, Tryz.ntmps28
    go_wp2_with fail
    refine (HC.out).mono ?_; rintro e w1 ⟨v1, rfl, hv1, hb1⟩
    have HAt : Hid (ProgAt w T T.length v1 (.slice none 0 0) w1) := by
      refine ⟨T, [], [], T.length + 1, rfl, Nat.le_refl _, by omega, by simp, hlen, ?_, World.ownsRow_nil _ _ _ _, hb1, .nil, rfl⟩
      rcases hv1.2 with ⟨rfl, hn0⟩ | ⟨g, cap, cur, rfl, hbg, hgg, hnc, hcm, hcs, htake⟩
      · exact Or.inl ⟨rfl, List.length_eq_zero_iff.1 hn0⟩
      · refine Or.inr ⟨g, 0, cap, rfl, hlen, fun t ht => ⟨⟨?_, (HG.out t ht).2⟩, (HG.out t ht).1.1⟩, cur, hgg, hnc, hcm, fun i t hi => ?_⟩
        · have := ((HG.out t ht).1.2 [] (Or.inl rfl)).1
          rw [List.append_nil] at this; exact this
        · have hil : i < T.length := by
            by_cases hil : i < T.length
            · exact hil
            · rw [List.getElem?_eq_none (by omega)] at hi; cases hi
          have h1 : (T.map strV)[i]? = some (strV t) := by rw [List.getElem?_map, hi]; rfl
          rw [← htake, List.getElem?_take, if_pos (by omega)] at h1
          rw [Nat.zero_add, ← Array.getElem?_toList]; exact h1
    clear HC HG hv1 hb1
    go_wp2_with fail
    go_loopg [5, 8] T.length (fun gk v5 v8 wr => Hid (ProgAt w T gk v5 v8 wr))
    case atStart => exact HAt
    case round =>
      clear HAt
      obtain ⟨ts1, acc, ps, n, rfl, h1, h2, h3, h4, h5, h6, h7, h8, h9⟩ := hrel.out
      clear hrel
      have hdone : ts1 = [] → AnsP w (progL T) (.returned (.tuple #[u8, .int .i64 0, .int .i64 0])) wr := by
        rintro rfl
        obtain ⟨m, rfl⟩ : ∃ m, n = m + 1 := ⟨n - 1, by omega⟩
        have he : progL T = (acc, 0, 0) := by rw [h9, progF, if_pos (show ([] : Toks).length = 0 from rfl)]
        rw [he]
        exact ⟨_, ps, rfl, h6, h8.wide fun _ hf _ => hf.1, h7⟩
      have HDone := hide hdone
      clear hdone
      rcases h5 with ⟨rfl, rfl⟩ | ⟨tb, o, cap, rfl, h5⟩
      · have HQ := hide (HDone.out rfl)
        clear h6 h7 h8 h9 HDone
        go_wp2
        go_ret3
        exact HQ.out
      · by_cases hz : ts1.length = 0
        · have HQ := hide (HDone.out (List.length_eq_zero_iff.1 hz))
          clear h5 h6 h7 h8 h9 HDone
          generalize ts1.length = n1 at *
          subst hz
          go_wp2
          go_ret3
          exact HQ.out
        · obtain ⟨m, rfl⟩ : ∃ m, n = m + 1 := ⟨n - 1, by omega⟩
          have hle := stopAt_le ts1
          have hidx : Calls Tryz.prog 50 #[.slice (some ⟨tb, o, none⟩) ts1.length cap, .string ⟨#[46]⟩] wr fun e w' => e = .returned (.int .i64 (if stopAt ts1 = ts1.length then -1 else (stopAt ts1 : Int))) ∧ w' = wr := by
            have hI := Tryz.slices_Index_string tb o ts1.length cap (ts1.map bs) (bs K.dot_) wr (by simp) (by omega) (by
              intro j hj
              obtain ⟨cs, e1, e2, e3, e4⟩ := h5.own
              have hj' : j < ts1.length := by simpa using hj
              have := e4 j ts1[j] (List.getElem?_eq_getElem hj')
              simp [World.cell?, e1, hj']
              exact this)
            rw [List.take_of_length_le (by simp), Lib.idxOfS, idx_stop, Nat.zero_add] at hI
            exact hI
          have hpos : (0 : Int) < (ts1.length : Int) := by omega
          have hpsl : ps.length ≤ 100000000 := by omega
          have HI := hide hidx
          clear hidx
          have hforms := ownsRow_forms h6
          by_cases hst : stopAt ts1 = ts1.length
          · have he : progL T = ([], acc.length, 3) := by rw [h9, progF, if_neg hz, if_pos hst]
            have hpl := h8.length.2
            have HQ := hide (show AnsP w (progL T) (.returned (.tuple #[.slice none 0 0, .int .i64 (ps.length : Nat), .int .i64 3])) wr by
              rw [he, hpl]; exact ⟨_, [], rfl, World.ownsRow_nil _ _ _ _, .nil, h7⟩)
            rw [if_pos hst] at HI
            clear h5 h6 h7 h8 h9 HDone he hst hle hpl
            generalize ts1.length = n1 at *
            generalize ps.length = pn at *
            rcases hforms with ⟨rfl, rfl⟩ | ⟨g, cap2, rfl⟩
            · go_wp2_with fail
              refine (HI.out).mono ?_; rintro e wp ⟨rfl, hw⟩
              rw [hw]; clear hw wp
              go_wp2
              go_ret3
              exact HQ.out
            · go_wp2_with fail
              refine (HI.out).mono ?_; rintro e wp ⟨rfl, hw⟩
              rw [hw]; clear hw wp
              go_wp2
              go_ret3
              exact HQ.out
          · rw [if_neg hst] at HI
            have hlt : stopAt ts1 < ts1.length := by omega
            obtain ⟨cs0, _, hcap1, hcap2, _⟩ := h5.own
            have hR := p_readDeclaration HF.out (ts1.take (stopAt ts1)) wr (h5.take (stopAt ts1) hle)
            have htl : (ts1.take (stopAt ts1)).length = stopAt ts1 := by simp; omega
            rw [htl, decl_L (F := 10 * T.length + 13) (by rw [htl]; omega) (by rw [htl]; omega)] at hR
            have heN : G.decl (10 * T.length + 13) (ts1.take (stopAt ts1)) = none → progL T = ([], acc.length, 3) := fun h => by rw [h9, progF, if_neg hz, if_neg hst, h]
            have heS : ∀ t, G.decl (10 * T.length + 13) (ts1.take (stopAt ts1)) = some t → progL T = progF (10 * T.length + 13) m (ts1.drop (stopAt ts1 + 1)) (acc ++ [t]) := fun t h => by rw [h9, progF, if_neg hz, if_neg hst, h]
            have HEN := hide heN
            have HES := hide heS
            have HR := hide hR
            have H5 := hide h5
            have H6 := hide h6
            have H7 := hide h7
            have H8 := hide h8
            have hdl : (ts1.drop (stopAt ts1 + 1)).length = ts1.length - (stopAt ts1 + 1) := by simp
            have HDL := hide hdl
            have HT5 := hide (fun o2 => h5.drop (stopAt ts1 + 1) (by omega) o2)
            clear hR heN heS h5 h6 h7 h8 h9 HDone htl hst hdl
            have hk0 : (0 : Int) ≤ (stopAt ts1 : Int) := by omega
            have hk1 : (stopAt ts1 : Int) ≤ (cap : Int) := by omega
            have hk2 : ¬ (stopAt ts1 : Int) < 0 := by omega
            have hk3 : ¬ cap = 0 := by omega
            have hk4 : stopAt ts1 ≤ 4000 := by omega
            have hk5 : (stopAt ts1 : Int) + 1 ≤ (ts1.length : Int) := by omega
            have hk6 : (0 : Int) ≤ (stopAt ts1 : Int) + 1 := by omega
            go_wp2_with fail
            refine (HI.out).mono ?_; rintro e wp ⟨rfl, hw⟩
            rw [hw]; clear hw wp
            go_wp2_with fail
            refine (HR.out).mono ?_; rintro e w2 ⟨hb2, ⟨ho2, rfl⟩ | ⟨t2, b2, ho2, rfl, hm2⟩⟩
            · have hpl := H8.out.length.2
              have HQ := hide (show AnsP w (progL T) (.returned (.tuple #[.slice none 0 0, .int .i64 (ps.length : Nat), .int .i64 3])) w2 by
                rw [HEN.out ho2, hpl]; exact ⟨_, [], rfl, World.ownsRow_nil _ _ _ _, .nil, H7.out.trans (hb2.mono H7.out.size)⟩)
              clear HI HR HEN HES H5 H6 H7 H8 HDL HT5 hpl
              generalize ps.length = pn at *
              rcases hforms with ⟨rfl, rfl⟩ | ⟨g, cap2, rfl⟩
              · go_wp2
                go_ret3
                exact HQ.out
              · go_wp2
                go_ret3
                exact HQ.out
            · have hown2 := ownsRow_below H6.out hb2
              have hms2 := H8.out.onto hb2
              have hv8 : ∀ g, u8.ownBlock = some g → g < wr.heap.size := fun g hg => (H6.out.lt g hg).2
              have hm2' : Mem (fun g => w.heap.size ≤ g ∧ u8.ownBlock ≠ some g) w2 4 t2 b2 := hm2.wide fun k hf _ => ⟨Nat.le_trans H7.out.size hf, fun e => by have := hv8 k e; have hf : wr.heap.size ≤ k := hf; omega⟩
              have hbel2 : Below w.heap.size w w2 := H7.out.trans (hb2.mono H7.out.size)
              have hbs2 : w.heap.size ≤ w2.heap.size := hbel2.size
              have HMS := hide hms2
              have HM := hide hm2'
              have HBEL := hide hbel2
              have HPR := hide (HES.out t2 ho2)
              have HB2 := hide hb2
              have HOWN := hide hown2
              clear hms2 hm2 hm2' hbel2 hb2 H6 H7 H8 HI HR HEN HES H5 ho2 hforms
              unfold ptrV at *
              go_wp2_with (at_builtin; refine append_ptr rfl _ _ rfl b2 hown2 hpsl hbs2 rfl rfl ?_)
              intro v9 w9 hown9 hgr9 HLt9
              have hown10 : w9.ownsRow w.heap.size tyTreeP 1 v9 (ps ++ [b2]).length ((ps ++ [b2]).map ptrV) := by
                rw [List.length_append, List.map_append]; exact hown9
              have hms9 := row_put (A := fun w v g => w.heap.size ≤ g ∧ v.ownBlock ≠ some g) rfl HOWN.out HMS.out HM.out hgr9 HLt9.out
              have hbel9 : Below w.heap.size w w9 := (HBEL.out.alloc hbs2 _).grown hgr9 (by simp; omega) (fun k e => (HOWN.out.lt k e).1)
              have htk9 : ∀ {o2 : Nat}, TokAt tb o2 (cap - (stopAt ts1 + 1)) (ts1.drop (stopAt ts1 + 1)) wr → TokAt tb o2 (cap - (stopAt ts1 + 1)) (ts1.drop (stopAt ts1 + 1)) w9 := by
                intro o2 h
                refine ((h.kept (w' := w2) fun k c f he => HB2.out.block k (lt_of_heap he))).kept (fun k c f he => ?_)
                rw [hgr9.block k (by have := lt_of_heap he; simp; omega) (fun e => ?_), Below.heap_alloc _ _ _ (lt_of_heap he)]
                rcases HOWN.out.2 with ⟨rfl, _⟩ | ⟨g2, cap3, cur, rfl, _, hgg, _⟩
                · simp [Value.ownBlock] at e
                · have e : k = g2 := by simpa [Value.ownBlock] using e
                  subst e
                  rw [he] at hgg; simp at hgg
                  exact absurd hgg.2.1 (by decide)
              have hcs : List.replicate ps.length 4 ++ [4] = List.replicate (ps ++ [b2]).length 4 := by rw [List.length_append]; exact (List.replicate_succ' ..).symm
              rw [hcs] at hms9
              have hnext : ∀ o2, (cap = stopAt ts1 + 1 ∨ o2 = o + (stopAt ts1 + 1)) → ProgAt w T (ts1.length - (stopAt ts1 + 1)) (.slice (some ⟨tb, o2, none⟩) (ts1.length - (stopAt ts1 + 1)) (cap - (stopAt ts1 + 1))) v9 w9 := by
                intro o2 ho
                have ht := htk9 (HT5.out o2 ho)
                refine ⟨ts1.drop (stopAt ts1 + 1), acc ++ [t2], ps ++ [b2], m, HDL.out.symm, by rw [HDL.out]; omega, by rw [HDL.out]; omega, by rw [HDL.out]; simp; omega, h4, Or.inr ⟨tb, o2, _, by rw [HDL.out], ht⟩, hown10, hbel9, hms9, HPR.out⟩
              have HNX := hide hnext
              obtain ⟨g', cap', rfl⟩ : ∃ g' cap', v9 = .slice (some ⟨g', 0, none⟩) (ps ++ [b2]).length cap' := by
                rcases ownsRow_forms hown10 with ⟨_, hn0⟩ | h
                · simp at hn0
                · exact h
              clear hown2 hown9 hown10 hgr9 HLt9 hms9 hbel9 htk9 hcs hnext HMS HM HBEL HPR HB2 HOWN HT5
              by_cases hcap : cap = stopAt ts1 + 1
              · have HN1 := hide (HNX.out o (Or.inl hcap))
                rw [show cap - (stopAt ts1 + 1) = 0 by omega] at HN1
                clear HNX
                go_wp2_with fail
                go_roundg (ts1.length - (stopAt ts1 + 1))
                case rel => exact HN1
                case measure => omega
              · have HN1 := hide (HNX.out (o + (stopAt ts1 + 1)) (Or.inr rfl))
                clear HNX
                go_wp2_with fail
                go_roundg (ts1.length - (stopAt ts1 + 1))
                case rel => exact HN1
                case measure => omega
  · rw [if_neg her]
    clear hgood hz
    have hQ : ∀ w1, Below w.heap.size w w1 → AnsP w ([], at_, er) (.returned (.tuple #[.slice none 0 0, .int .i64 at_, .int .i64 er])) w1 := fun w1 hb => ⟨_, [], rfl, World.ownsRow_nil _ _ _ _, .nil, hb⟩
    have HQ := hide hQ
    have her2 : ((er : Int) != 0) = true := by simpa using her
    have her3 : ¬ (er : Int) = 0 := by omega
    clear hQ
    go_enter Tryz.func28, Tryz.ntmps28
    go_wp2_with fail
    refine (HC.out).mono ?_; rintro e w1 ⟨v1, rfl, hv1, hb1⟩
    have HB := hide (HQ.out w1 hb1)
    clear hv1 hb1 HQ
    go_wp2
    go_ret3
    exact HB.out

end Go.Proofs.YtnocnkblhjifjaaGreatDoor
