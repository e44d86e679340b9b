import Derived.Test.YtnocnkblhjifjaaGreatDoorMPRead
import Derived.Test.YtnocnkblhjifjaaGreatDoorMPRows
import Derived.Test.YtnocnkblhjifjaaGreatDoorMLim
/-
  tree.New, parse.need, (*reader).letter by their contracts.
-/
namespace Go.Proofs.YtnocnkblhjifjaaGreatDoor
open Go.RowKit

set_option maxHeartbeats 1000000 in
theorem New_any (k : Int) (s : ByteArray) (a : Option Addr) (n c : Nat) (w : World) :
    Calls Tryz.prog 143 #[.int .i64 k, .string s, .slice a n c] w fun e w' => e = .returned (ptrV w.heap.size) ∧ w' = w.alloc (.cells #[.int .i64 k, .string s, .slice a n c] tyTree) := by
  unfold ptrV
  generalize hQ : (fun (e : Ending) (w' : World) => e = .returned (.pointer (some ⟨w.heap.size, 0, none⟩)) ∧ w' = w.alloc (.cells #[.int .i64 k, .string s, .slice a n c] tyTree)) = Q
  go_enter Tryz.func143, Tryz.ntmps143
  go_wp2
  rw [← hQ]
  exact ⟨rfl, rfl⟩

theorem Mem.leaf {A : Nat → Prop} {c : Nat} {is name : List UInt8} {k : Int} {txt : List UInt8} (hk : KindOf c is name k txt []) (w : World) : Mem A (w.alloc (.cells #[.int .i64 k, .string (bs txt), .slice none 0 0] tyTree)) c (.mk is name []) w.heap.size :=
  Mem.made hk (ps := []) (World.ownsRow_nil _ _ _ _) (by simp [Value.ownBlock]) .nil

section
variable {rb c : Nat} {w w0 w' : World} {e : Ending}

theorem AnsN.no {o : Option (Tr × Toks)} (hk : Kq rb w w') (ho : o = none) : AnsN rb c w o gaveUp w' := ⟨hk, Or.inl ⟨ho, rfl⟩⟩
theorem AnsN.yes {o : Option (Tr × Toks)} {t : Tr} {r : Toks} {b : Nat} (hk : Kq rb w w') (ho : o = some (t, r)) (hm : Mem (From w) w' c t b) (hr : Rq rb r w') : AnsN rb c w o (.returned (ptrV b)) w' := ⟨hk, Or.inr ⟨t, r, b, ho, rfl, hm, hr⟩⟩
theorem AnsO.no {o : Option (Option Tr × Toks)} (hk : Kq rb w w') (ho : o = none) : AnsO rb c w o gaveUp w' := ⟨hk, Or.inl ⟨ho, rfl⟩⟩
theorem AnsO.nil {o : Option (Option Tr × Toks)} {r : Toks} (hk : Kq rb w w') (ho : o = some (none, r)) (hr : Rq rb r w') : AnsO rb c w o (.returned (.pointer none)) w' := ⟨hk, Or.inr (Or.inl ⟨r, ho, rfl, hr⟩)⟩
theorem AnsO.yes {o : Option (Option Tr × Toks)} {t : Tr} {r : Toks} {b : Nat} (hk : Kq rb w w') (ho : o = some (some t, r)) (hm : Mem (From w) w' c t b) (hr : Rq rb r w') : AnsO rb c w o (.returned (ptrV b)) w' := ⟨hk, Or.inr (Or.inr ⟨t, r, b, ho, rfl, hm, hr⟩)⟩

theorem from_later {k : Nat} (h : w0.heap.size ≤ w.heap.size) (hf : From w k) : From w0 k := Nat.le_trans h hf

theorem AnsN.later {o : Option (Tr × Toks)} (hk : Kq rb w0 w) (h : AnsN rb c w o e w') : AnsN rb c w0 o e w' := by
  refine ⟨hk.trans h.1, ?_⟩
  rcases h.2 with h | ⟨t, r, b, h1, h2, h3, h4⟩
  · exact Or.inl h
  · exact Or.inr ⟨t, r, b, h1, h2, h3.wide fun k hf _ => from_later hk.size hf, h4⟩
theorem AnsO.later {o : Option (Option Tr × Toks)} (hk : Kq rb w0 w) (h : AnsO rb c w o e w') : AnsO rb c w0 o e w' := by
  refine ⟨hk.trans h.1, ?_⟩
  rcases h.2 with h | h | ⟨t, r, b, h1, h2, h3, h4⟩
  · exact Or.inl h
  · exact Or.inr (Or.inl h)
  · exact Or.inr (Or.inr ⟨t, r, b, h1, h2, h3.wide fun k hf _ => from_later hk.size hf, h4⟩)
theorem AnsN.there {o : Option (Tr × Toks)} (h : AnsN rb c w o e w') : AnsO rb c w ((Classical.choice lf).there o) e w' := by
  refine ⟨h.1, ?_⟩
  rcases h.2 with ⟨rfl, h1⟩ | ⟨t, r, b, rfl, h2, h3, h4⟩
  · exact Or.inl ⟨rfl, h1⟩
  · exact Or.inr (Or.inr ⟨t, r, b, rfl, h2, h3, h4⟩)
end

/-- Whether this word comes: then it is taken. -/
def AnsW (rb : Nat) (x : List UInt8) (ts : Toks) (w : World) (e : Ending) (w' : World) : Prop :=
  Kq rb w w' ∧ ((G.isW x ts = false ∧ e = .returned (.bool false) ∧ Rq rb ts w') ∨ (G.isW x ts = true ∧ e = .returned (.bool true) ∧ Rq rb ts.tail w'))

theorem accept_w {rb : Nat} {ts : Toks} {w : World} {x : List UInt8} {s : ByteArray} (hs : bs x = s) (hx : tokKind x = 119) (h : Rq rb ts w) : Calls Tryz.prog 203 #[ptrV rb, .string s] w (AnsW rb x ts w) := by
  have hne : x ≠ [] := by rintro rfl; exact absurd hx (by decide)
  subst hs
  refine (accept_any x hne h).mono ?_
  rintro e w' ⟨hk, ⟨h1, h2, h3⟩ | ⟨h1, h2, h3⟩⟩
  · exact ⟨hk, Or.inl ⟨by rw [isW_eq hx]; simpa using h1, h2, h3⟩⟩
  · exact ⟨hk, Or.inr ⟨by rw [isW_eq hx]; simpa using h1, h2, h3⟩⟩

/-- This word must come. -/
def AnsX (rb : Nat) (x : List UInt8) (ts : Toks) (w : World) (e : Ending) (w' : World) : Prop :=
  Kq rb w w' ∧ ((G.want x ts = none ∧ e = gaveUp) ∨ ∃ r, G.want x ts = some r ∧ e = .returned (.tuple #[]) ∧ Rq rb r w')

theorem expect_w {rb : Nat} {ts : Toks} {w : World} {x : List UInt8} {s : ByteArray} (hs : bs x = s) (hx : tokKind x = 119) (h : Rq rb ts w) : Calls Tryz.prog 201 #[ptrV rb, .string s] w (AnsX rb x ts w) := by
  have hne : x ≠ [] := by rintro rfl; exact absurd hx (by decide)
  subst hs
  refine (expect_any x hne h).mono ?_
  rintro e w' ⟨hk, ⟨h1, h2⟩ | ⟨h1, h2, h3⟩⟩
  · exact ⟨hk, Or.inl ⟨by unfold G.want; rw [isW_eq hx, show (ts.headD [] == x) = false by simpa using h1]; rfl, h2⟩⟩
  · exact ⟨hk, Or.inr ⟨_, by unfold G.want; rw [isW_eq hx, show (ts.headD [] == x) = true by simpa using h1]; rfl, h2, h3⟩⟩

theorem bs_drop1 (t : List UInt8) : (bs t).extract 1 (bs t).size = bs (t.drop 1) := by
  rw [bs_extract, bs_data, bs_size]
  congr 1
  rw [List.take_of_length_le (by simp)]

theorem letter_head {t : List UInt8} (h : tokKind t = 108) : t = 39 :: t.drop 1 := by
  cases t with
  | nil => exact absurd h (by decide)
  | cons c r =>
    unfold tokKind at h
    simp only at h
    cases hs : smallB c.toNat
    · rw [hs, cond_false] at h
      cases hg : greatB c.toNat
      · rw [hg, cond_false] at h
        cases hd : digitB c.toNat
        · rw [hd, cond_false] at h
          by_cases hc : c = 39
          · subst hc; rfl
          · rw [if_neg hc] at h
            split at h <;> exact absurd h (by decide)
        · rw [hd, cond_true] at h
          split at h <;> exact absurd h (by decide)
      · rw [hg, cond_true] at h; exact absurd h (by decide)
    · rw [hs, cond_true] at h
      cases hw : wordL ((c :: r).take (nameLen (c :: r)))
      · rw [hw] at h; exact absurd h (by decide)
      · rw [hw] at h; exact absurd h (by decide)

set_option maxHeartbeats 1000000 in
theorem letter_any (c : Nat) (k : Int) (hck : (c = 2 ∧ k = 21) ∨ (c = 5 ∧ k = 19)) {rb : Nat} {ts : Toks} {w : World} (h : Rq rb ts w) : Calls Tryz.prog 262 #[ptrV rb, .int .i64 k] w (AnsO rb c w ((Classical.choice lf).letterO c ts)) := by
  have hp := peek_any h
  have hi := IsLetter_tok h.head w
  have ht := take_any h
  have HP := hide hp
  have HI := hide hi
  have HT := hide ht
  cases hk : (tokKind (ts.headD []) == 108)
  · have hq : AnsO rb c w ((Classical.choice lf).letterO c ts) (.returned (.pointer none)) w := AnsO.nil (Kq.refl _ _) (by unfold LFam.letterO G.kindOf; rw [hk]; rfl) h
    have HQ := hide hq
    rw [hk] at HI
    clear hp hi ht hq h hk HT
    generalize AnsO rb c w ((Classical.choice lf).letterO c ts) = Q at *
    generalize bs (ts.headD []) = bx at *
    go_enter Tryz.func262, Tryz.ntmps262
    go_wp2_with fail
    refine (HP.out).mono ?_; rintro e w1 ⟨rfl, rfl⟩
    go_wp2_with fail
    refine (HI.out).mono ?_; rintro e w1 ⟨rfl, rfl⟩
    go_wp2
    exact HQ.out
  · obtain ⟨t, r, rfl⟩ := kind_cons (ts := ts) (k := 108) (by decide) hk
    have hk' : tokKind t = 108 := by simpa using hk
    have hq : ∀ w', Kq rb w w' → Rq rb r w' → AnsO rb c w ((Classical.choice lf).letterO c (t :: r)) (.returned (ptrV w'.heap.size)) (w'.alloc (.cells #[.int .i64 k, .string (bs (t.drop 1)), .slice none 0 0] tyTree)) := fun w' k1 k2 => by
      refine AnsO.yes (k1.alloc _) (t := .mk K.var_ (if c = 2 then t else t.drop 1) []) (r := r) (by unfold LFam.letterO G.kindOf; rw [hk]; rfl) ?_ (k2.alloc _)
      rcases hck with ⟨rfl, rfl⟩ | ⟨rfl, rfl⟩
      · rw [if_pos rfl]
        have := Mem.leaf (A := From w) (KindOf.letter (t.drop 1)) w'
        rw [← letter_head hk'] at this
        exact this
      · exact Mem.leaf (A := From w) (KindOf.own (t.drop 1)) w'
    have hN := fun (w1 : World) => New_any k (bs (t.drop 1)) none 0 0 w1
    rw [← bs_drop1] at hq
    rw [← bs_drop1] at hN
    have hsz : 1 ≤ (bs t).size := by
      rw [bs_size]
      cases t with
      | nil => exact absurd hk' (by decide)
      | cons a b => simp
    have hsz2 : (bs t).size ≤ 4000 := by rw [bs_size]; exact h.head.2
    have HQ := hide hq
    have HN := hide hN
    rw [hk] at HI
    clear hp hi ht hq h hk hN hk' hck
    generalize AnsO rb c w ((Classical.choice lf).letterO c (t :: r)) = Q at *
    rw [show (t :: r).headD [] = t from rfl] at HP HI
    go_enter Tryz.func262, Tryz.ntmps262
    go_wp2_with fail
    refine (HP.out).mono ?_; rintro e w1 ⟨rfl, rfl⟩
    go_wp2_with fail
    refine (HI.out).mono ?_; rintro e w1 ⟨rfl, rfl⟩
    go_wp2_with fail
    refine (HT.out).mono ?_; rintro e w1 ⟨hk, ⟨he, _⟩ | ⟨t2, r2, he, rfl, hr⟩⟩
    · cases he
    · injection he with he1 he2
      subst he1
      subst he2
      have HR := hide hr
      clear hr HP HI HT
      generalize bs t = bt at *
      go_wp2_with fail
      refine (HN.out _).mono ?_; rintro e w2 ⟨rfl, rfl⟩
      go_wp2
      exact HQ.out _ hk HR.out

/-- need: a node must have come. -/
theorem need_nil (w : World) : Calls Tryz.prog 412 #[.pointer none] w fun e w' => e = gaveUp ∧ w' = w := by
  go_enter Tryz.func412, Tryz.ntmps412
  go_wp2
  exact ⟨rfl, rfl, rfl⟩

theorem need_node (b : Nat) (w : World) : Calls Tryz.prog 412 #[ptrV b] w fun e w' => e = .returned (ptrV b) ∧ w' = w := by
  unfold ptrV
  go_enter Tryz.func412, Tryz.ntmps412
  go_wp2
  go_ret
  exact ⟨rfl, rfl⟩

end Go.Proofs.YtnocnkblhjifjaaGreatDoor
/-
  parse.several by its contract: as many forms as come.
-/
namespace Go.Proofs.YtnocnkblhjifjaaGreatDoor
open Go.RowKit

theorem wt_bound : ∀ {ts : Toks}, (∀ t ∈ ts, Tok t) → wt ts ≤ ts.length * 4020 := by
  intro ts
  induction ts with
  | nil => intro _; exact Nat.le_refl _
  | cons t r ih =>
    intro h
    have h1 := ih fun x hx => h x (List.mem_cons_of_mem _ hx)
    have h2 := (h t (List.mem_cons_self ..)).2
    rw [wt, List.length_cons]
    omega

theorem Rq.wt_le {rb : Nat} {ts : Toks} {w : World} (h : Rq rb ts w) : wt ts ≤ 16080000 := by
  have h1 := wt_bound fun t ht => (h.toks t ht).1
  have h2 := h.len
  omega

/-- What the loop holds at its head. -/
def SevAt (rb c : Nat) (w : World) (sev : Toks → Option (List Tr × Toks)) (ts : Toks) (gk : Nat) (v3 v4 : Value) (wr : World) : Prop :=
  ∃ ts1 acc ps, wr.ownsRow w.heap.size tyTreeP 1 v3 ps.length (ps.map ptrV) ∧ Kq rb w wr ∧ Rq rb ts1 wr ∧ Mem.Mems (fun g => w.heap.size ≤ g ∧ v3.ownBlock ≠ some g) wr (List.replicate ps.length c) acc ps ∧
    ((v4 = .pointer none ∧ sev ts = some (acc, ts1)) ∨ ∃ t b, v4 = ptrV b ∧ Mem (fun g => w.heap.size ≤ g ∧ v3.ownBlock ≠ some g) wr c t b ∧ gk = wt ts1 + 1 ∧ ps.length + 1 + wt ts1 ≤ wt ts ∧ sev ts = (sev ts1).bind fun l => some (acc ++ t :: l.1, l.2))

section
variable {rb c : Nat} {w wr w1 w2 w3 : World} {rd : Toks → Option (Option Tr × Toks)} {sev : Toks → Option (List Tr × Toks)} {ts : Toks}

theorem sev_none (hs : Sev rd sev) (h : rd ts = none) : sev ts = none := by rw [hs, h]; rfl
theorem sev_nil (hs : Sev rd sev) {r : Toks} (h : rd ts = some (none, r)) : sev ts = some ([], r) := by rw [hs, h]; rfl
theorem sev_node (hs : Sev rd sev) {t : Tr} {r : Toks} (h : rd ts = some (some t, r)) : sev ts = (sev r).bind fun l => some (t :: l.1, l.2) := by rw [hs, h]; rfl

/-- Behind the first reading. -/
theorem SevAt.start (hs : Sev rd sev) (hw : ∀ ts t r, rd ts = some (some t, r) → wt r < wt ts) {e : Ending} (h : AnsO rb c w (rd ts) e w1) :
    (e = gaveUp ∧ AnsS rb c w (sev ts) gaveUp w1) ∨ ∃ v4 gk, e = .returned v4 ∧ (v4 = .pointer none ∨ ∃ b, v4 = ptrV b) ∧ SevAt rb c w sev ts gk (.slice none 0 0) v4 w1 := by
  obtain ⟨hk, ⟨h1, rfl⟩ | ⟨r, h1, rfl, h2⟩ | ⟨t, r, b, h1, rfl, h2, h3⟩⟩ := h
  · exact Or.inl ⟨rfl, hk, Or.inl ⟨sev_none hs h1, rfl⟩⟩
  · exact Or.inr ⟨_, 0, rfl, Or.inl rfl, r, [], [], World.ownsRow_nil _ _ _ _, hk, h2, .nil, Or.inl ⟨rfl, sev_nil hs h1⟩⟩
  · refine Or.inr ⟨_, wt r + 1, rfl, Or.inr ⟨b, rfl⟩, r, [], [], World.ownsRow_nil _ _ _ _, hk, h3, .nil, Or.inr ⟨t, b, rfl, h2.wide fun k hf _ => ⟨hf, by simp [Value.ownBlock]⟩, rfl, ?_, sev_node hs h1⟩⟩
    have := hw _ _ _ h1
    show 0 + 1 + wt r ≤ wt ts
    omega

/-- Nothing more came. -/
theorem SevAt.done {gk : Nat} {v3 v4 : Value} (h : SevAt rb c w sev ts gk v3 v4 wr) (h4 : v4 = .pointer none) : AnsS rb c w (sev ts) (.returned v3) wr := by
  obtain ⟨ts1, acc, ps, h1, h2, h3, h5, ⟨_, h6⟩ | ⟨t, b, rfl, _⟩⟩ := h
  · exact ⟨h2, Or.inr ⟨acc, ts1, v3, ps, h6, rfl, h1, h5, h3⟩⟩
  · simp [ptrV] at h4

/-- What a round begins with where something came. -/
theorem SevAt.open {gk : Nat} {v3 : Value} {b : Nat} (h : SevAt rb c w sev ts gk v3 (ptrV b) wr) :
    ∃ ts1 acc ps t, wr.ownsRow w.heap.size tyTreeP 1 v3 ps.length (ps.map ptrV) ∧ Kq rb w wr ∧ Rq rb ts1 wr ∧ Mem.Mems (fun g => w.heap.size ≤ g ∧ v3.ownBlock ≠ some g) wr (List.replicate ps.length c) acc ps ∧
      Mem (fun g => w.heap.size ≤ g ∧ v3.ownBlock ≠ some g) wr c t b ∧ gk = wt ts1 + 1 ∧ ps.length + 1 + wt ts1 ≤ wt ts ∧ sev ts = (sev ts1).bind fun l => some (acc ++ t :: l.1, l.2) := by
  obtain ⟨ts1, acc, ps, h1, h2, h3, h5, ⟨h6, _⟩ | ⟨t, b2, h6, h7⟩⟩ := h
  · simp [ptrV] at h6
  · have : b = b2 := by simpa [ptrV] using h6
    subst this
    exact ⟨ts1, acc, ps, t, h1, h2, h3, h5, h7⟩

theorem replicate_succ' (n c : Nat) : List.replicate (n + 1) c = List.replicate n c ++ [c] := by
  rw [List.replicate_succ']

/-- It is put behind the row. -/
theorem sev_put {v3 v' : Value} {acc : List Tr} {ps : List Nat} {ts1 : Toks} {t : Tr} {b : Nat} {o : Obj} (h1 : wr.ownsRow w.heap.size tyTreeP 1 v3 ps.length (ps.map ptrV)) (h2 : Kq rb w wr) (h3 : Rq rb ts1 wr)
    (h4 : Mem.Mems (fun g => w.heap.size ≤ g ∧ v3.ownBlock ≠ some g) wr (List.replicate ps.length c) acc ps) (h5 : Mem (fun g => w.heap.size ≤ g ∧ v3.ownBlock ≠ some g) wr c t b)
    (hg : (wr.alloc o).grownBy w2 v3.ownBlock) (hl : ∀ g, v'.ownBlock = some g → v3.ownBlock = some g ∨ wr.heap.size < g) :
    Kq rb w w2 ∧ Rq rb ts1 w2 ∧ Mem.Mems (fun g => w.heap.size ≤ g ∧ v'.ownBlock ≠ some g) w2 (List.replicate (ps ++ [b]).length c) (acc ++ [t]) (ps ++ [b]) := by
  have hsz : w.heap.size ≤ wr.heap.size := h2.size
  have hka : Kq rb w (wr.alloc o) := h2.alloc o
  have hv3 : ∀ g, v3.ownBlock = some g → w.heap.size ≤ g ∧ g < wr.heap.size := fun g hg => h1.lt g hg
  have hkg := hka.grownOwn hg (fun g hgg => (hv3 g hgg).1)
  have hrb : v3.ownBlock ≠ some rb := by
    intro e
    obtain ⟨cs, f, hR⟩ := h3.isR
    rcases h1.2 with ⟨rfl, _⟩ | ⟨g2, cap, cur, rfl, _, hgg, _⟩
    · simp [Value.ownBlock] at e
    · have e : g2 = rb := by simpa [Value.ownBlock] using e
      subst e
      rw [hgg] at hR; simp at hR
      exact absurd hR.2.1 (by decide)
  refine ⟨hkg, ?_, ?_⟩
  · have h3a := h3.alloc o
    obtain ⟨tb, o1, cap, cs, hb, ht, r1⟩ := h3a.own
    refine ⟨h3a.len, h3a.toks, tb, o1, cap, cs, ?_, ?_, r1⟩
    · rw [hg.block rb (lt_of_heap hb) (Ne.symm hrb)]; exact hb
    · rw [hg.block tb (lt_of_heap ht) (fun e => ?_)]
      · exact ht
      · have e : v3.ownBlock = some tb := e.symm
        have hlt := (hv3 tb e).2
        rcases h1.2 with ⟨rfl, _⟩ | ⟨g2, cap, cur, rfl, _, hgg, _⟩
        · simp [Value.ownBlock] at e
        · have e : g2 = tb := by simpa [Value.ownBlock] using e
          subst e
          rw [Below.heap_alloc _ _ _ (lt_of_heap hgg), hgg] at ht; simp at ht
          exact absurd ht.2 (by decide)
  · have hAll : Mem.Mems (fun g => w.heap.size ≤ g ∧ v3.ownBlock ≠ some g) wr (List.replicate (ps ++ [b]).length c) (acc ++ [t]) (ps ++ [b]) := by
      rw [List.length_append, List.length_cons, List.length_nil, List.replicate_succ']
      exact h4.append (.cons h5 .nil)
    have hA2 := (hAll.wide (A' := fun g => w.heap.size ≤ g ∧ v3.ownBlock ≠ some g ∧ g < wr.heap.size) (fun k hk hlt => ⟨hk.1, hk.2, hlt⟩)).alloc o
    have hA3 := Mem.Mems.grown (h1.alloc o) hg (fun g hA => hA.2.1) hA2
    refine hA3.wide (fun k hk _ => ⟨hk.1, fun e => ?_⟩)
    rcases hl k e with h | h
    · exact hk.2.1 h
    · have := hk.2.2; omega
/-- Behind the next reading. -/
theorem SevAt.next (hs : Sev rd sev) (hw : ∀ ts t r, rd ts = some (some t, r) → wt r < wt ts) {v3 : Value} {ps : List Nat} {acc : List Tr} {ts1 : Toks} (h1 : w2.ownsRow w.heap.size tyTreeP 1 v3 ps.length (ps.map ptrV)) (h2 : Kq rb w w2) (h3 : Rq rb ts1 w2)
    (h4 : Mem.Mems (fun g => w.heap.size ≤ g ∧ v3.ownBlock ≠ some g) w2 (List.replicate ps.length c) acc ps) (h5 : ps.length + wt ts1 ≤ wt ts) (h6 : sev ts = (sev ts1).bind fun l => some (acc ++ l.1, l.2)) {e : Ending} (h : AnsO rb c w2 (rd ts1) e w3) :
    (e = gaveUp ∧ AnsS rb c w (sev ts) gaveUp w3) ∨ ∃ v4 gk, e = .returned v4 ∧ (v4 = .pointer none ∨ ∃ b, v4 = ptrV b) ∧ gk < wt ts1 + 1 ∧ SevAt rb c w sev ts gk v3 v4 w3 := by
  have hkk := h2.trans h.1
  have ho3 : w3.ownsRow w.heap.size tyTreeP 1 v3 ps.length (ps.map ptrV) := ownsRow_kept h1 fun k c f _ he => kq_other (by decide) h3.isR h.1 he
  have hm3 := h4.kq h3 h.1
  have hv : ∀ g, v3.ownBlock = some g → g < w2.heap.size := fun g hg => (h1.lt g hg).2
  obtain ⟨hk, ⟨h7, rfl⟩ | ⟨r, h7, rfl, h8⟩ | ⟨t, r, b, h7, rfl, h8, h9⟩⟩ := h
  · exact Or.inl ⟨rfl, hkk, Or.inl ⟨by rw [h6, sev_none hs h7]; rfl, rfl⟩⟩
  · exact Or.inr ⟨_, 0, rfl, Or.inl rfl, by omega, r, acc, ps, ho3, hkk, h8, hm3, Or.inl ⟨rfl, by rw [h6, sev_nil hs h7, Option.bind_some, List.append_nil]⟩⟩
  · have hlt := hw _ _ _ h7
    refine Or.inr ⟨_, wt r + 1, rfl, Or.inr ⟨b, rfl⟩, by omega, r, acc, ps, ho3, hkk, h9, hm3, Or.inr ⟨t, b, rfl, h8.wide fun k hf _ => ⟨Nat.le_trans h2.size hf, fun e => ?_⟩, rfl, by omega, ?_⟩⟩
    · rw [h6, sev_node hs h7, Option.bind_assoc]
      congr 1
    · have := hv k e
      have hf : w2.heap.size ≤ k := hf
      omega
end

/-- A function that has a body: to call it is to enter it. -/
def Enters (K : Nat) : Prop := ∀ (args : Array Value) (w : World), (callFunc K args).run Tryz.prog w = .ok (.enter K args) w

theorem enters {K : Nat} {fn : Func} {c : Code} (hf : Tryz.prog.funcs[K]? = some fn) (hname : (fn.name == "runtime.NumGoroutine") = false) (hb : fn.body = some c) : Enters K := by
  intro args w
  have h1 : fn.name ≠ "runtime.NumGoroutine" := by simpa using hname
  simp [callFunc, hf, h1, hb]

set_option maxRecDepth 100000 in
set_option maxHeartbeats 2000000 in
theorem several_any {rb c K M : Nat} {rd : Toks → Option (Option Tr × Toks)} {sev : Toks → Option (List Tr × Toks)} (hs : Sev rd sev) (hw : ∀ ts t r, rd ts = some (some t, r) → wt r < wt ts)
    (HE : Enters K) (HK : ∀ ts w, wt ts ≤ M → Rq rb ts w → Calls Tryz.prog K #[ptrV rb] w (AnsO rb c w (rd ts))) (ts : Toks) (w : World) (hM : wt ts ≤ M) (h : Rq rb ts w) :
    Calls Tryz.prog 199 #[.func (.func K) #[ptrV rb] #[]] w (AnsS rb c w (sev ts)) := by
  have hE := fun (args : Array Value) (w : World) => HE args w
  have hc := HK ts w hM h
  have hwt := h.wt_le
  have hst := fun e w1 => SevAt.start (rb := rb) (c := c) (w := w) (w1 := w1) (ts := ts) (e := e) hs hw
  have hdn := fun gk v3 v4 wr => SevAt.done (rb := rb) (c := c) (w := w) (wr := wr) (sev := sev) (ts := ts) (gk := gk) (v3 := v3) (v4 := v4)
  have HC := hide hc
  have HST := hide hst
  have HDN := hide hdn
  have HHK := hide HK
  have HS := hide hs
  have HW := hide hw
  clear hc hst hdn HK hs hw h HE
  go_enter Tryz.func199, Tryz.ntmps199
  go_wp2_with fail
  refine (HC.out).mono ?_
  intro e w1 ha
  rcases HST.out e w1 ha with ⟨rfl, hq⟩ | ⟨v4, gk0, rfl, hform, hat⟩
  · unfold gaveUp noForm at hq ⊢
    go_wp2
    exact ⟨rfl, hq⟩
  · have HAT : Hid (SevAt rb c w sev ts gk0 (.slice none 0 0) v4 w1 ∧ (v4 = .pointer none ∨ ∃ b, v4 = ptrV b)) := ⟨hat, hform⟩
    clear HC HST ha hat hform
    go_wp2_with fail
    go_loopg [3, 4] gk0 (fun gk v3 v4 wr => Hid (SevAt rb c w sev ts gk v3 v4 wr ∧ (v4 = .pointer none ∨ ∃ b, v4 = ptrV b)))
    case atStart => exact HAT
    case round =>
      clear HAT
      obtain ⟨hat, hform⟩ := hrel.out
      rcases hform with rfl | ⟨b, rfl⟩
      · have HF := hide (HDN.out _ _ _ _ hat rfl)
        clear hat HDN hrel
        go_wp2_with fail
        go_ret
        exact HF.out
      · obtain ⟨ts1, acc, ps, t, h1, h2, h3, h4, h5, rfl, h7, h8⟩ := hat.open
        clear hat hrel
        have hps : ps.length ≤ 100000000 := by omega
        have hbs : w.heap.size ≤ wr.heap.size := h2.size
        have hM1 : wt ts1 ≤ M := by omega
        have hp7 : (ps ++ [b]).length + wt ts1 ≤ wt ts := by simp; omega
        have hp8 : sev ts = (sev ts1).bind fun l => some ((acc ++ [t]) ++ l.1, l.2) := by
          rw [h8]; congr 1; funext l; simp
        have HPUT := hide (fun v' w2 o hg hl => sev_put (v' := v') (w2 := w2) (o := o) h1 h2 h3 h4 h5 hg hl)
        have H7 := hide hp7
        have H8 := hide hp8
        clear h2 h3 h4 h5 h7 h8 hp7 hp8
        unfold ptrV at *
        go_wp2_with (at_builtin; refine append_ptr rfl _ _ rfl b h1 hps hbs rfl rfl ?_)
        intro v' w2 hown hgr HL
        obtain ⟨k2, k3, k4⟩ := HPUT.out v' w2 _ hgr HL.out
        have hcall := HHK.out ts1 w2 hM1 k3
        have hown2 : w2.ownsRow w.heap.size tyTreeP 1 v' (ps ++ [b]).length ((ps ++ [b]).map ptrV) := by
          rw [List.length_append, List.map_append]; exact hown
        have HNX := hide (fun e w3 => SevAt.next (e := e) (w3 := w3) HS.out HW.out hown2 k2 k3 k4 H7.out H8.out)
        have HC := hide hcall
        obtain ⟨g', cap', rfl⟩ : ∃ g' cap', v' = .slice (some ⟨g', 0, none⟩) (ps ++ [b]).length cap' := by
          rcases ownsRow_forms hown2 with ⟨_, hn0⟩ | h
          · simp at hn0
          · exact h
        clear HPUT hown hown2 hgr HL k2 k3 k4 hcall h1 H7 H8
        go_wp2_with fail
        refine (HC.out).mono ?_
        intro e w3 ha
        rcases HNX.out e w3 ha with ⟨rfl, hq⟩ | ⟨v5, gk5, rfl, hform, hlt, hat⟩
        · unfold gaveUp noForm at hq ⊢
          have HQ := hide hq
          clear hq ha HC HNX
          go_wp2
          exact ⟨rfl, HQ.out⟩
        · have HAT : Hid (SevAt rb c w sev ts gk5 _ v5 w3 ∧ (v5 = .pointer none ∨ ∃ b, v5 = ptrV b)) := ⟨hat, hform⟩
          clear ha hat hform HC HNX
          go_wp2_with fail
          go_roundg gk5
          case rel => rw [List.length_append] at HAT; exact HAT
          case measure => exact hlt

end Go.Proofs.YtnocnkblhjifjaaGreatDoor
