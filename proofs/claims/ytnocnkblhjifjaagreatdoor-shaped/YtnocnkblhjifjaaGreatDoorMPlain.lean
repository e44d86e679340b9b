import Derived.WalkKit
import Derived.Lib.Bytealg
import Derived.Lib.Strings
/-
  Plain mathematics: what a text's tokens are, said of lists of bytes. Nothing here speaks of the program.
-/
namespace Go.Proofs.YtnocnkblhjifjaaGreatDoor

def smallB (c : Int) : Bool := decide (97 ≤ c ∧ c ≤ 122)
def greatB (c : Int) : Bool := decide (65 ≤ c ∧ c ≤ 90)
def digitB (c : Int) : Bool := decide (48 ≤ c ∧ c ≤ 57)
def nameB (c : Int) : Bool := smallB c || digitB c || c == 95
def conB (c : Int) : Bool := nameB c || greatB c
def blankB (c : Int) : Bool := c == 32 || c == 9 || c == 10
def no10B (c : Int) : Bool := c != 10

/-- How many bytes at the head of a list are of a kind. -/
def cnt (p : Int → Bool) : List UInt8 → Nat
  | [] => 0
  | c :: r => bif p c.toNat then cnt p r + 1 else 0

theorem cnt_le (p : Int → Bool) (l : List UInt8) : cnt p l ≤ l.length := by
  induction l with
  | nil => simp [cnt]
  | cons c r ih => cases h : p c.toNat <;> simp [cnt, h]; omega

theorem cnt_yes (p : Int → Bool) (l : List UInt8) (k : Nat) (hk : k < l.length) (h : p (l[k]).toNat = true) : cnt p (l.drop k) = 1 + cnt p (l.drop (k + 1)) := by
  rw [List.drop_eq_getElem_cons hk]; simp [cnt, h]; omega

theorem cnt_no (p : Int → Bool) (l : List UInt8) (k : Nat) (hk : k < l.length) (h : p (l[k]).toNat = false) : cnt p (l.drop k) = 0 := by
  rw [List.drop_eq_getElem_cons hk]; simp [cnt, h]

theorem cnt_end (p : Int → Bool) (l : List UInt8) (k : Nat) (hk : l.length ≤ k) : cnt p (l.drop k) = 0 := by
  rw [List.drop_of_length_le hk]; rfl

theorem cntS_yes (p : Int → Bool) (s : ByteArray) (k : Nat) (hk : k < s.size) (h : p (s[k]).toNat = true) : cnt p (s.data.toList.drop k) = 1 + cnt p (s.data.toList.drop (k + 1)) :=
  cnt_yes p s.data.toList k (by simpa using hk) h

theorem cntS_no (p : Int → Bool) (s : ByteArray) (k : Nat) (hk : k < s.size) (h : p (s[k]).toNat = false) : cnt p (s.data.toList.drop k) = 0 :=
  cnt_no p s.data.toList k (by simpa using hk) h

theorem cntS_end (p : Int → Bool) (s : ByteArray) (k : Nat) (hk : s.size ≤ k) : cnt p (s.data.toList.drop k) = 0 :=
  cnt_end p s.data.toList k (by simpa using hk)

/-- Is a text one of the fourteen words? -/
def wordL (l : List UInt8) : Bool := l == [108, 101, 116] || l == [114, 101, 99] || l == [105, 110] || l == [102, 117, 110] || l == [105, 102] || l == [116, 104, 101, 110] || l == [101, 108, 115, 101] || l == [109, 97, 116, 99, 104] || l == [119, 105, 116, 104] || l == [101, 110, 100] || l == [116, 121, 112, 101] || l == [100, 111] || l == [116, 114, 117, 101] || l == [102, 97, 108, 115, 101]

def nameLen (l : List UInt8) : Nat :=
  match l with
  | [] => 0
  | c :: _ => bif smallB c.toNat then cnt nameB l else 0

theorem nameLen_le (l : List UInt8) : nameLen l ≤ l.length := by
  unfold nameLen
  split
  · simp
  · rename_i c r
    have := cnt_le nameB (c :: r)
    cases smallB c.toNat <;> simp <;> simpa using this

def numLen (l : List UInt8) : Nat := if 18 < cnt digitB l then 0 else cnt digitB l

def letterLen (l : List UInt8) : Nat :=
  bif nameLen l.tail == 0 || wordL (l.tail.take (nameLen l.tail)) then 0 else 1 + nameLen l.tail

def signs : List UInt8 := [40, 41, 61, 60, 43, 45, 42, 47, 59, 124, 33, 46, 95]

def signLen (l : List UInt8) : Nat :=
  if Lib.hasPrefix l [58, 61] = true ∨ Lib.hasPrefix l [45, 62] = true then 2 else
  match l with
  | [] => 0
  | c :: _ => if c ∈ signs then 1 else 0

/-- How long is the longest token at the head? 0: none begins there. -/
def tokLen (l : List UInt8) : Nat :=
  match l with
  | [] => 0
  | c :: _ => bif smallB c.toNat then nameLen l else bif greatB c.toNat then cnt conB l else bif digitB c.toNat then numLen l else if c = 39 then letterLen l else signLen l

/-- How many bytes at the head say nothing (the flag: inside a remark)? -/
def gap : Bool → List UInt8 → Nat
  | _, [] => 0
  | false, c :: r => bif blankB c.toNat then 1 + gap false r else if c = 35 then 1 + gap true r else 0
  | true, c :: r => if c = 10 then 1 + gap false r else 1 + gap true r

theorem indexByte_ge (l : List UInt8) (c : UInt8) : -1 ≤ Lib.indexByte l c := by
  induction l with
  | nil => simp [Lib.indexByte]
  | cons b r ih => simp only [Lib.indexByte]; split <;> (try split) <;> omega

theorem indexByte_mem (l : List UInt8) (c : UInt8) : 0 ≤ Lib.indexByte l c ↔ c ∈ l := by
  induction l with
  | nil => simp [Lib.indexByte]
  | cons b r ih =>
    have := indexByte_ge r c
    simp only [Lib.indexByte]
    by_cases h : b = c
    · simp [h]
    · have h' : ¬ c = b := fun e => h e.symm
      have h2 : (b == c) = false := by simpa using h
      simp only [h2]
      by_cases h3 : Lib.indexByte r c = -1
      · rw [h3] at ih; simp [h3, h', ← ih]
      · have h4 : (Lib.indexByte r c == -1) = false := by simpa using h3
        simp [h4, h', ← ih]; omega

theorem no10_iff (c : UInt8) : no10B c.toNat = (c != 10) := by
  simp only [no10B]
  rw [Bool.eq_iff_iff]
  simp only [bne_iff_ne, ne_eq]
  constructor
  · intro h e; exact h (by rw [e]; rfl)
  · intro h e; exact h (UInt8.toNat_inj.1 (by rw [show (10 : UInt8).toNat = 10 from rfl]; omega))

theorem indexByte_no10 (l : List UInt8) : (0 ≤ Lib.indexByte l 10 → Lib.indexByte l 10 = cnt no10B l) ∧ (Lib.indexByte l 10 < 0 → cnt no10B l = l.length) := by
  induction l with
  | nil => simp [Lib.indexByte, cnt]
  | cons b r ih =>
    have hge := indexByte_ge r 10
    simp only [Lib.indexByte, cnt, no10_iff, List.length_cons]
    by_cases h : b = 10
    · subst h; simp
    · have h2 : (b == 10) = false := by simpa using h
      have h2' : (b != 10) = true := by simpa using h
      simp only [h2, h2', cond_true]
      by_cases h3 : Lib.indexByte r 10 = -1
      · have := ih.2 (by omega)
        simp [h3]; omega
      · have := ih.1 (by omega)
        have h4 : (Lib.indexByte r 10 == -1) = false := by simpa using h3
        simp [h4]; omega

theorem remark_len (l : List UInt8) : (cnt no10B l : Int) = if 0 ≤ Lib.indexByte l 10 then Lib.indexByte l 10 else l.length := by
  have := indexByte_no10 l
  split
  · rename_i h; rw [this.1 h]
  · rename_i h; rw [this.2 (by omega)]

end Go.Proofs.YtnocnkblhjifjaaGreatDoor
/-
  Plain mathematics: gaps between tokens, and how a text is cut, said of lists of bytes.
-/
namespace Go.Proofs.YtnocnkblhjifjaaGreatDoor

theorem gap_true (l : List UInt8) : gap true l = cnt no10B l + gap false (l.drop (cnt no10B l)) := by
  induction l with
  | nil => simp [gap, cnt]
  | cons c r ih =>
    by_cases h : c = 10
    · subst h
      have e1 : no10B 10 = false := by decide
      have e2 : blankB 10 = true := by decide
      simp [gap, cnt, e1, e2]
    · have h2 : (c != 10) = true := by simpa using h
      simp only [gap, if_neg h, cnt, no10_iff, h2, cond_true, List.drop_succ_cons]
      omega

theorem gap_le (b : Bool) (l : List UInt8) : gap b l ≤ l.length := by
  induction l generalizing b with
  | nil => simp [gap]
  | cons c r ih =>
    have h1 := ih true
    have h2 := ih false
    cases b
    · simp only [gap, List.length_cons]
      cases blankB c.toNat
      · simp only [cond_false]; split <;> omega
      · simp only [cond_true]; omega
    · simp only [gap, List.length_cons]
      split <;> omega

theorem gap_end (l : List UInt8) (k : Nat) (hk : l.length ≤ k) : gap false (l.drop k) = 0 := by
  rw [List.drop_of_length_le hk]; rfl

theorem gap_blank (l : List UInt8) (k : Nat) (hk : k < l.length) (h : blankB (l[k]).toNat = true) : gap false (l.drop k) = 1 + gap false (l.drop (k + 1)) := by
  rw [List.drop_eq_getElem_cons hk]; simp [gap, h]

theorem gap_other (l : List UInt8) (k : Nat) (hk : k < l.length) (h : blankB (l[k]).toNat = false) (h' : l[k] ≠ 35) : gap false (l.drop k) = 0 := by
  rw [List.drop_eq_getElem_cons hk]; simp [gap, h, h']

theorem gap_remark (l : List UInt8) (k : Nat) (hk : k < l.length) (h : l[k] = 35) :
    gap false (l.drop k) = cnt no10B (l.drop k) + gap false (l.drop (k + cnt no10B (l.drop k))) ∧ 1 ≤ cnt no10B (l.drop k) := by
  have e1 : no10B 35 = true := by decide
  have e2 : blankB 35 = false := by decide
  have e3 : l.drop k = 35 :: l.drop (k + 1) := by rw [List.drop_eq_getElem_cons hk, h]
  have e4 : cnt no10B (l.drop k) = cnt no10B (l.drop (k + 1)) + 1 := by rw [e3]; simp [cnt, e1]
  have e5 : gap false (l.drop k) = 1 + gap true (l.drop (k + 1)) := by rw [e3]; simp [gap, e2]
  have e6 := gap_true (l.drop (k + 1))
  rw [List.drop_drop] at e6
  refine ⟨?_, by omega⟩
  rw [e5, e6, e4]
  have e7 : k + 1 + cnt no10B (l.drop (k + 1)) = k + (cnt no10B (l.drop (k + 1)) + 1) := by omega
  rw [e7]
  omega

/-- Behind a gap no gap begins. -/
theorem gap_gap (l : List UInt8) (b : Bool) : gap false (l.drop (gap b l)) = 0 := by
  induction l generalizing b with
  | nil => simp [gap]
  | cons c r ih =>
    cases b
    · cases h : blankB c.toNat
      · by_cases h2 : c = 35
        · have e2 : blankB (35 : UInt8).toNat = false := by decide
          have := ih true
          subst h2
          simp only [gap, e2, cond_false, if_true]
          rw [Nat.add_comm, List.drop_succ_cons]; exact this
        · simp [gap, h, h2]
      · have := ih false
        simp only [gap, h, cond_true]
        rw [Nat.add_comm, List.drop_succ_cons]; exact this
    · by_cases h2 : c = 10
      · have := ih false
        simp only [gap, h2, if_true]
        rw [Nat.add_comm, List.drop_succ_cons]; exact this
      · have := ih true
        simp only [gap, if_neg h2]
        rw [Nat.add_comm, List.drop_succ_cons]; exact this

theorem tokLen_le (l : List UInt8) : tokLen l ≤ l.length := by
  match l with
  | [] => simp [tokLen]
  | c :: r =>
    have h1 := nameLen_le (c :: r)
    have h2 := cnt_le conB (c :: r)
    have h3 := cnt_le digitB (c :: r)
    have h4 := nameLen_le r
    simp only [tokLen]
    cases smallB c.toNat
    · cases greatB c.toNat
      · cases digitB c.toNat
        · simp only [cond_false]
          split
          · simp only [letterLen, List.tail_cons]
            cases (nameLen r == 0 || wordL (List.take (nameLen r) r))
            · simp only [cond_false, List.length_cons]; omega
            · simp
          · simp only [signLen]
            split
            · rename_i h
              rcases h with h | h
              all_goals
                simp only [Lib.hasPrefix] at h
                have := List.IsPrefix.length_le (List.isPrefixOf_iff_prefix.1 h)
                simpa using this
            · split <;> simp
        · simp only [cond_false, cond_true, numLen]; split <;> omega
      · simpa using h2
    · simpa using h1

/-- A text's tokens: what is cut, the place, the error's number; with fuel. -/
def cutF : Nat → List UInt8 → Nat → List (List UInt8) → List (List UInt8) × Nat × Nat
  | 0, _, _, acc => (acc, 0, 0)
  | n + 1, l, at_, acc =>
    if (l.drop (gap false l)).isEmpty then (acc, 0, 0)
    else if tokLen (l.drop (gap false l)) = 0 then ([], at_ + gap false l, 2)
    else cutF n ((l.drop (gap false l)).drop (tokLen (l.drop (gap false l)))) (at_ + gap false l + tokLen (l.drop (gap false l))) (acc ++ [(l.drop (gap false l)).take (tokLen (l.drop (gap false l)))])

/-- P3. -/
def cutL (l : List UInt8) : List (List UInt8) × Nat × Nat :=
  if 4000 < l.length then ([], 0, 1) else cutF (l.length + 1) l 0 []

end Go.Proofs.YtnocnkblhjifjaaGreatDoor
/-
  Plain mathematics: the steps of cutting a text; strings as lists of bytes.
-/
namespace Go.Proofs.YtnocnkblhjifjaaGreatDoor
open Go.RowKit

def bs (l : List UInt8) : ByteArray := ⟨l.toArray⟩
def strV (l : List UInt8) : Value := .string (bs l)

theorem bs_data (l : List UInt8) : (bs l).data.toList = l := by simp [bs]

theorem bs_extract (s : ByteArray) (a b : Nat) : s.extract a b = bs ((s.data.toList.drop a).take (b - a)) := by
  have := Lib.extract_data s a b
  rw [← this]
  rfl

theorem cut_end (n : Nat) (l : List UInt8) (k : Nat) (acc : List (List UInt8)) (h : l = []) : cutF n l k acc = (acc, 0, 0) := by
  subst h
  cases n <;> simp [cutF, gap]

theorem cut_bad (n : Nat) (l : List UInt8) (k : Nat) (acc : List (List UInt8)) (hn : 0 < n) (hl : l ≠ []) (hg : gap false l = 0) (ht : tokLen l = 0) : cutF n l k acc = ([], k, 2) := by
  obtain ⟨m, rfl⟩ : ∃ m, n = m + 1 := ⟨n - 1, by omega⟩
  have : l.isEmpty = false := by cases l <;> simp_all
  simp [cutF, hg, this, ht]

theorem cut_tok (n : Nat) (l : List UInt8) (k : Nat) (acc : List (List UInt8)) (hn : 0 < n) (hl : l ≠ []) (hg : gap false l = 0) (ht : tokLen l ≠ 0) :
    cutF n l k acc = cutF (n - 1) (l.drop (tokLen l)) (k + tokLen l) (acc ++ [l.take (tokLen l)]) := by
  obtain ⟨m, rfl⟩ : ∃ m, n = m + 1 := ⟨n - 1, by omega⟩
  have : l.isEmpty = false := by cases l <;> simp_all
  simp [cutF, hg, this, ht]

theorem cut_gap (n : Nat) (l : List UInt8) (k : Nat) (acc : List (List UInt8)) (hn : 0 < n) :
    cutF n l k acc = cutF n (l.drop (gap false l)) (k + gap false l) acc := by
  obtain ⟨m, rfl⟩ : ∃ m, n = m + 1 := ⟨n - 1, by omega⟩
  have h := gap_gap l false
  simp only [cutF, h, List.drop_zero, Nat.add_zero]

theorem ownsRow_below {w w' : World} {base : Nat} {e : TypeId} {size : Nat} {v : Value} {n : Nat} {xs : List Value} (h : w.ownsRow base e size v n xs) (hb : Below w.heap.size w w') : w'.ownsRow base e size v n xs := by
  obtain ⟨h1, h2⟩ := h
  refine ⟨h1, ?_⟩
  rcases h2 with h2 | ⟨g, cap, cur, hv, hg, hh, r⟩
  · exact Or.inl h2
  · refine Or.inr ⟨g, cap, cur, hv, hg, ?_, r⟩
    have hlt : g < w.heap.size := by
      by_cases h : g < w.heap.size
      · exact h
      · rw [Array.getElem?_eq_none (by omega)] at hh; cases hh
    rw [hb.block g hlt]; exact hh

/-- What the program holds at the head of its loop: at place k, with these tokens, the rest will give R. -/
def AtHead (l : List UInt8) (R : List (List UInt8) × Nat × Nat) (k : Nat) (toks : List (List UInt8)) : Prop :=
  ∃ n, l.length < n + k ∧ cutF n (l.drop k) k toks = R ∧ gap false (l.drop k) = 0

theorem atHead_start (l : List UInt8) : AtHead l (cutF (l.length + 1) l 0 []) (gap false l) [] := by
  refine ⟨l.length + 1, by omega, ?_, gap_gap l false⟩
  have := cut_gap (l.length + 1) l 0 [] (by omega)
  rw [Nat.zero_add] at this
  exact this.symm

theorem atHead_end {l : List UInt8} {R : List (List UInt8) × Nat × Nat} {k : Nat} {toks : List (List UInt8)} (h : AtHead l R k toks) (hk : l.length ≤ k) : R = (toks, 0, 0) := by
  obtain ⟨n, _, h2, _⟩ := h
  rw [← h2]
  exact cut_end _ _ _ _ (List.drop_of_length_le hk)

theorem atHead_bad {l : List UInt8} {R : List (List UInt8) × Nat × Nat} {k : Nat} {toks : List (List UInt8)} (h : AtHead l R k toks) (hk : k < l.length) (ht : tokLen (l.drop k) = 0) : R = ([], k, 2) := by
  obtain ⟨n, h1, h2, h3⟩ := h
  rw [← h2]
  refine cut_bad _ _ _ _ (by omega) (fun e => ?_) h3 ht
  have := congrArg List.length e
  simp at this; omega

theorem atHead_tok {l : List UInt8} {R : List (List UInt8) × Nat × Nat} {k : Nat} {toks : List (List UInt8)} (h : AtHead l R k toks) (hk : k < l.length) (ht : tokLen (l.drop k) ≠ 0) :
    AtHead l R (k + tokLen (l.drop k) + gap false (l.drop (k + tokLen (l.drop k)))) (toks ++ [(l.drop k).take (tokLen (l.drop k))]) := by
  obtain ⟨n, h1, h2, h3⟩ := h
  refine ⟨n - 1, by omega, ?_, ?_⟩
  · rw [← h2, cut_tok n _ _ _ (by omega) (fun e => by have := congrArg List.length e; simp at this; omega) h3 ht, List.drop_drop, cut_gap (n - 1) (l.drop (k + tokLen (l.drop k))) (k + tokLen (l.drop k)) _ (by omega), List.drop_drop]
  · have := gap_gap (l.drop (k + tokLen (l.drop k))) false
    rw [List.drop_drop] at this; exact this

theorem hide {p : Prop} (h : p) : Hid p := h

theorem bcell {W w1 : World} (hb : Below W.heap.size W w1) : (∀ b o, b < W.heap.size → w1.cell? ⟨b, o, none⟩ = W.cell? ⟨b, o, none⟩) ∧ (∀ b o, b < W.heap.size → w1.frozen? ⟨b, o, none⟩ = W.frozen? ⟨b, o, none⟩) :=
  ⟨fun b o h => hb.cell (p := ⟨b, o, none⟩) h, fun b o h => hb.frozen (p := ⟨b, o, none⟩) h⟩

end Go.Proofs.YtnocnkblhjifjaaGreatDoor
/-
  Plain mathematics: a token cut out, with something behind it that does not go on with it, is that token again.
-/
namespace Go.Proofs.YtnocnkblhjifjaaGreatDoor
open Go.RowKit

/-- The kind of the token at the head, by the reference's letters; 0: none. -/
def tokKind (l : List UInt8) : Int :=
  match l with
  | [] => 0
  | c :: _ => bif smallB c.toNat then (bif wordL (l.take (nameLen l)) then 119 else 110) else bif greatB c.toNat then 99 else bif digitB c.toNat then (if numLen l = 0 then 0 else 100) else if c = 39 then (if letterLen l = 0 then 0 else 108) else if signLen l = 0 then 0 else 119

/-- What ends every token: the end, or a byte that says nothing. -/
def Stops (r : List UInt8) : Prop := r = [] ∨ ∃ c t, r = c :: t ∧ (blankB c.toNat = true ∨ c = 35)

theorem Stops.con {r : List UInt8} (h : Stops r) : r = [] ∨ ∃ c t, r = c :: t ∧ conB c.toNat = false := by
  rcases h with h | ⟨c, t, rfl, h⟩
  · exact Or.inl h
  · refine Or.inr ⟨c, t, rfl, ?_⟩
    rcases h with h | rfl
    · revert h
      simp only [blankB, conB, nameB, smallB, digitB, greatB, Bool.or_eq_true, beq_iff_eq, Bool.or_eq_false_iff, decide_eq_false_iff_not, beq_eq_false_iff_ne]
      omega
    · decide

theorem con_imp {p : Int → Bool} (hp : ∀ c, conB c = false → p c = false) {r : List UInt8} (h : Stops r) : r = [] ∨ ∃ c t, r = c :: t ∧ p c.toNat = false := by
  rcases h.con with h | ⟨c, t, e, h⟩
  · exact Or.inl h
  · exact Or.inr ⟨c, t, e, hp _ h⟩

theorem cnt_stop {p : Int → Bool} {r : List UInt8} (hr : r = [] ∨ ∃ c t, r = c :: t ∧ p c.toNat = false) (l : List UInt8) : cnt p (l.take (cnt p l) ++ r) = cnt p l := by
  induction l with
  | nil =>
    rcases hr with rfl | ⟨c, t, rfl, h⟩
    · rfl
    · simp [cnt, h]
  | cons c t ih =>
    cases h : p c.toNat
    · have h0 : cnt p (c :: t) = 0 := by simp [cnt, h]
      rw [h0]
      rcases hr with rfl | ⟨d, t', rfl, h'⟩
      · rfl
      · simp [cnt, h']
    · have h0 : cnt p (c :: t) = cnt p t + 1 := by simp [cnt, h]
      rw [h0, List.take_succ_cons, List.cons_append]
      simp [cnt, h, ih]

theorem nameB_con (c : Int) (h : conB c = false) : nameB c = false := by
  simp only [conB, Bool.or_eq_false_iff] at h; exact h.1

theorem digitB_con (c : Int) (h : conB c = false) : digitB c = false := by
  have := nameB_con c h
  simp only [nameB, Bool.or_eq_false_iff] at this; exact this.1.2

theorem small_name (c : Int) (h : smallB c = true) : nameB c = true := by simp [nameB, h]

theorem nameLen_stop {r : List UInt8} (hr : Stops r) (l : List UInt8) : nameLen (l.take (nameLen l) ++ r) = nameLen l := by
  cases l with
  | nil =>
    rcases hr.con with rfl | ⟨c, t, rfl, h⟩
    · rfl
    · have h2 : smallB c.toNat = false := by
        have := nameB_con _ h
        simp only [nameB, Bool.or_eq_false_iff] at this; exact this.1.1
      simp [nameLen, h2]
  | cons c t =>
    cases h : smallB c.toNat
    · have h0 : nameLen (c :: t) = 0 := by simp [nameLen, h]
      rw [h0]
      rcases hr.con with rfl | ⟨d, t', rfl, h'⟩
      · rfl
      · have h2 : smallB d.toNat = false := by
          have := nameB_con _ h'
          simp only [nameB, Bool.or_eq_false_iff] at this; exact this.1.1
        simp [nameLen, h2]
    · have h0 : nameLen (c :: t) = cnt nameB (c :: t) := by simp [nameLen, h]
      have h1 : cnt nameB (c :: t) = cnt nameB t + 1 := by simp [cnt, small_name _ h]
      have h2 := cnt_stop (con_imp nameB_con hr) (c :: t)
      rw [h0]
      rw [h1, List.take_succ_cons, List.cons_append] at h2 ⊢
      rw [← h2]
      simp [nameLen, h]

theorem take_take_app (l r : List UInt8) (n : Nat) (hn : n ≤ l.length) : (l.take n ++ r).take n = l.take n := by
  rw [List.take_append_of_le_length (by simp; omega), List.take_take, Nat.min_self]

theorem tok_stop {r : List UInt8} (hr : Stops r) (l : List UInt8) (ht : tokLen l ≠ 0) : tokLen (l.take (tokLen l) ++ r) = tokLen l ∧ tokKind (l.take (tokLen l) ++ r) = tokKind l := by
  cases l with
  | nil => simp [tokLen] at ht
  | cons c t =>
    cases h1 : smallB c.toNat
    · cases h2 : greatB c.toNat
      · cases h3 : digitB c.toNat
        · by_cases h4 : c = 39
          · have e : tokLen (c :: t) = letterLen (c :: t) := by simp only [tokLen, h1, h2, h3, cond_false]; rw [if_pos h4]
            have e2 : letterLen (c :: t) = bif nameLen t == 0 || wordL (t.take (nameLen t)) then 0 else 1 + nameLen t := rfl
            have e3 : (nameLen t == 0 || wordL (t.take (nameLen t))) = false := by
              cases hb : (nameLen t == 0 || wordL (t.take (nameLen t)))
              · rfl
              · rw [hb] at e2; rw [e, e2] at ht; exact absurd rfl ht
            rw [e3] at e2
            simp only [cond_false] at e2
            have e4 : letterLen (c :: (t.take (nameLen t) ++ r)) = 1 + nameLen t := by
              have := nameLen_stop hr t
              simp only [letterLen, List.tail_cons, this, take_take_app t r _ (nameLen_le t), e3, cond_false]
            have e5 : (c :: t).take (tokLen (c :: t)) ++ r = c :: (t.take (nameLen t) ++ r) := by
              rw [e, e2, Nat.add_comm, List.take_succ_cons, List.cons_append]
            rw [e5]
            constructor
            · rw [e, e2]
              simp only [tokLen, h1, h2, h3, cond_false]; rw [if_pos h4, e4]
            · simp only [tokKind, h1, h2, h3, cond_false]; rw [if_pos h4, if_pos h4, e4, e2]
          · have e : tokLen (c :: t) = signLen (c :: t) := by simp only [tokLen, h1, h2, h3, cond_false]; rw [if_neg h4]
            have e6 : ∀ x, tokLen (c :: x) = signLen (c :: x) := fun x => by simp only [tokLen, h1, h2, h3, cond_false]; rw [if_neg h4]
            have e7 : ∀ x, tokKind (c :: x) = if signLen (c :: x) = 0 then 0 else 119 := fun x => by simp only [tokKind, h1, h2, h3, cond_false]; rw [if_neg h4]
            have key : ∀ x, (c :: t).take (signLen (c :: t)) ++ r = c :: x → signLen (c :: x) = signLen (c :: t) := by
              intro x hx
              by_cases hp : Lib.hasPrefix (c :: t) [58, 61] = true ∨ Lib.hasPrefix (c :: t) [45, 62] = true
              · have s2 : signLen (c :: t) = 2 := by simp only [signLen]; rw [if_pos hp]
                rw [s2] at hx ⊢
                cases t with
                | nil => simp [Lib.hasPrefix, List.isPrefixOf] at hp
                | cons d t' =>
                  simp only [List.take_succ_cons, List.take_zero, List.cons_append, List.nil_append, List.cons.injEq, true_and] at hx
                  subst hx
                  have hp' : Lib.hasPrefix (c :: d :: r) [58, 61] = true ∨ Lib.hasPrefix (c :: d :: r) [45, 62] = true := by
                    simpa [Lib.hasPrefix, List.isPrefixOf] using hp
                  simp only [signLen]; rw [if_pos hp']
              · have s1 : signLen (c :: t) = if c ∈ signs then 1 else 0 := by simp only [signLen]; rw [if_neg hp]
                have hc : c ∈ signs := by
                  by_cases hc : c ∈ signs
                  · exact hc
                  · rw [if_neg hc] at s1; rw [e, s1] at ht; exact absurd rfl ht
                rw [s1, if_pos hc] at hx ⊢
                simp only [List.take_succ_cons, List.take_zero, List.cons_append, List.nil_append, List.cons.injEq, true_and] at hx
                subst hx
                have hp' : ¬ (Lib.hasPrefix (c :: r) [58, 61] = true ∨ Lib.hasPrefix (c :: r) [45, 62] = true) := by
                  rcases hr with rfl | ⟨d, t', rfl, hd⟩
                  · simp [Lib.hasPrefix, List.isPrefixOf]
                  · intro hp'
                    have : d = 61 ∨ d = 62 := by
                      simp [Lib.hasPrefix, List.isPrefixOf] at hp'
                      rcases hp' with h | h
                      · exact Or.inl h.2.symm
                      · exact Or.inr h.2.symm
                    rcases this with rfl | rfl <;> revert hd <;> decide
                simp only [signLen]; rw [if_neg hp', if_pos hc]
            have hne : signLen (c :: t) ≠ 0 := by rw [← e]; exact ht
            obtain ⟨m, hm⟩ : ∃ m, signLen (c :: t) = m + 1 := ⟨signLen (c :: t) - 1, by omega⟩
            have e5 : (c :: t).take (signLen (c :: t)) ++ r = c :: (t.take m ++ r) := by rw [hm, List.take_succ_cons, List.cons_append]
            rw [e, e5, e6, e7, e7, key _ e5]
            exact ⟨rfl, rfl⟩
        · have e : tokLen (c :: t) = numLen (c :: t) := by simp only [tokLen, h1, h2, h3, cond_false, cond_true]
          have hn : ¬ 18 < cnt digitB (c :: t) := by
            intro h; apply ht; rw [e]; unfold numLen; rw [if_pos h]
          have e2 : numLen (c :: t) = cnt digitB (c :: t) := by unfold numLen; rw [if_neg hn]
          have e3 : cnt digitB (c :: t) = cnt digitB t + 1 := by simp [cnt, h3]
          have h := cnt_stop (con_imp digitB_con hr) (c :: t)
          rw [e, e2]
          rw [e3, List.take_succ_cons, List.cons_append] at h ⊢
          have e4 : numLen (c :: (t.take (cnt digitB t) ++ r)) = cnt digitB t + 1 := by
            unfold numLen; rw [h, if_neg (by omega)]
          constructor
          · simp only [tokLen, h1, h2, h3, cond_false, cond_true]; exact e4
          · simp only [tokKind, h1, h2, h3, cond_false, cond_true]; rw [e4, e2, e3]
      · have e : tokLen (c :: t) = cnt conB (c :: t) := by simp only [tokLen, h1, h2, cond_false, cond_true]
        have e3 : cnt conB (c :: t) = cnt conB t + 1 := by simp [cnt, conB, h2]
        have h := cnt_stop hr.con (c :: t)
        rw [e]
        rw [e3, List.take_succ_cons, List.cons_append] at h ⊢
        constructor
        · simp only [tokLen, h1, h2, cond_false, cond_true]; exact h
        · simp only [tokKind, h1, h2, cond_false, cond_true]
    · have e : tokLen (c :: t) = nameLen (c :: t) := by simp only [tokLen, h1, cond_true]
      have h := nameLen_stop hr (c :: t)
      have hle := nameLen_le (c :: t)
      have e3 : nameLen (c :: t) = cnt nameB t + 1 := by simp [nameLen, h1, cnt, small_name _ h1]
      have h5 := take_take_app (c :: t) r (nameLen (c :: t)) hle
      rw [e]
      have e4 : (c :: t).take (nameLen (c :: t)) ++ r = c :: (t.take (cnt nameB t) ++ r) := by rw [e3, List.take_succ_cons, List.cons_append]
      rw [e4] at h h5 ⊢
      constructor
      · simp only [tokLen, h1, cond_true]; exact h
      · simp only [tokKind, h1, cond_true]; rw [h, h5]

end Go.Proofs.YtnocnkblhjifjaaGreatDoor
/-
  Plain mathematics: the reference's way through a text: gap byte by gap byte.
-/
namespace Go.Proofs.YtnocnkblhjifjaaGreatDoor
open Go.RowKit

/-- What the reference holds at the head of its loop. -/
def AtRef (l : List UInt8) (R : List (List UInt8) × Nat × Nat) (k : Nat) (toks : List (List UInt8)) : Prop :=
  ∃ n, l.length < n + k ∧ cutF n (l.drop k) k toks = R

theorem atRef_start (l : List UInt8) : AtRef l (cutF (l.length + 1) l 0 []) 0 [] := ⟨l.length + 1, by omega, by simp⟩

theorem atRef_end {l : List UInt8} {R : List (List UInt8) × Nat × Nat} {k : Nat} {toks : List (List UInt8)} (h : AtRef l R k toks) (hk : l.length ≤ k) : R = (toks, 0, 0) := by
  obtain ⟨n, _, h2⟩ := h
  rw [← h2]
  exact cut_end _ _ _ _ (List.drop_of_length_le hk)

theorem atRef_gap {l : List UInt8} {R : List (List UInt8) × Nat × Nat} {k j : Nat} {toks : List (List UInt8)} (h : AtRef l R k toks) (hkj : k ≤ j) (hg : gap false (l.drop k) = (j - k) + gap false (l.drop j)) (hk : k < l.length) : AtRef l R j toks := by
  obtain ⟨n, h1, h2⟩ := h
  refine ⟨n, by omega, ?_⟩
  rw [cut_gap n (l.drop k) k toks (by omega)] at h2
  by_cases h0 : n = 0
  · omega
  · rw [cut_gap n (l.drop j) j toks (by omega), ← h2, List.drop_drop, List.drop_drop]
    have e : k + gap false (l.drop k) = j + gap false (l.drop j) := by omega
    rw [e]

theorem atRef_head {l : List UInt8} {R : List (List UInt8) × Nat × Nat} {k : Nat} {toks : List (List UInt8)} (h : AtRef l R k toks) (hg : gap false (l.drop k) = 0) : AtHead l R k toks := by
  obtain ⟨n, h1, h2⟩ := h
  exact ⟨n, h1, h2, hg⟩

theorem atRef_tok {l : List UInt8} {R : List (List UInt8) × Nat × Nat} {k : Nat} {toks : List (List UInt8)} (h : AtRef l R k toks) (hg : gap false (l.drop k) = 0) (hk : k < l.length) (ht : tokLen (l.drop k) ≠ 0) :
    AtRef l R (k + tokLen (l.drop k)) (toks ++ [(l.drop k).take (tokLen (l.drop k))]) := by
  obtain ⟨n, h1, h2⟩ := h
  refine ⟨n - 1, by omega, ?_⟩
  rw [← h2, cut_tok n _ _ _ (by omega) (fun e => by have := congrArg List.length e; simp at this; omega) hg ht, List.drop_drop]

theorem kind_zero (l : List UInt8) : tokKind l = 0 ↔ tokLen l = 0 := by
  cases l with
  | nil => simp [tokKind, tokLen]
  | cons c t =>
    cases h1 : smallB c.toNat
    · cases h2 : greatB c.toNat
      · cases h3 : digitB c.toNat
        · by_cases h4 : c = 39
          · simp only [tokKind, tokLen, h1, h2, h3, cond_false]; rw [if_pos h4, if_pos h4]
            split <;> simp_all
          · simp only [tokKind, tokLen, h1, h2, h3, cond_false]; rw [if_neg h4, if_neg h4]
            split <;> simp_all
        · simp only [tokKind, tokLen, h1, h2, h3, cond_false, cond_true]
          split <;> simp_all
      · have : cnt conB (c :: t) = cnt conB t + 1 := by simp [cnt, conB, h2]
        simp only [tokKind, tokLen, h1, h2, cond_false, cond_true, this]; omega
    · have : nameLen (c :: t) = cnt nameB t + 1 := by simp [nameLen, h1, cnt, small_name _ h1]
      simp only [tokKind, tokLen, h1, cond_true, this]
      cases wordL ((c :: t).take (cnt nameB t + 1)) <;> simp

/-- A token's two cells, as the reference keeps it. -/
def tkV (t : List UInt8) : List Value := [.int .u8 (tokKind t), .string (bs t)]

theorem kind_self (l : List UInt8) (ht : tokLen l ≠ 0) : tokKind (l.take (tokLen l)) = tokKind l := by
  have := (tok_stop (r := []) (Or.inl rfl) l ht).2
  rwa [List.append_nil] at this

theorem flat_len (toks : List (List UInt8)) : (toks.flatMap tkV).length = toks.length * 2 := by
  induction toks with
  | nil => rfl
  | cons t r ih => rw [List.flatMap_cons, List.length_append, ih]; simp [tkV]; omega

theorem ownsRow_le {w : World} {base base' size n : Nat} {e : TypeId} {v : Value} {xs : List Value} (h : w.ownsRow base e size v n xs) (hb : base' ≤ base) : w.ownsRow base' e size v n xs := by
  obtain ⟨h1, h2⟩ := h
  refine ⟨h1, ?_⟩
  rcases h2 with h2 | ⟨g, cap, cur, hv, hg, r⟩
  · exact Or.inl h2
  · exact Or.inr ⟨g, cap, cur, hv, Nat.le_trans hb hg, r⟩

theorem ownsRow_forms {w : World} {base size n : Nat} {e : TypeId} {v : Value} {xs : List Value} (h : w.ownsRow base e size v n xs) : (v = .slice none 0 0 ∧ n = 0) ∨ ∃ g cap, v = .slice (some ⟨g, 0, none⟩) n cap := by
  rcases h.2 with h2 | ⟨g, cap, cur, hv, hg, r⟩
  · exact Or.inl h2
  · exact Or.inr ⟨g, cap, hv⟩

end Go.Proofs.YtnocnkblhjifjaaGreatDoor
/-
  Plain mathematics: tokens that are joined anew are the same tokens; what an error of cutting looks like.
-/
namespace Go.Proofs.YtnocnkblhjifjaaGreatDoor
open Go.RowKit

/-- A text that is one token, whatever stands behind it that stops a token. -/
def GoodTok (t : List UInt8) : Prop := t ≠ [] ∧ ∀ r, Stops r → tokLen (t ++ r) = t.length ∧ gap false (t ++ r) = 0

theorem gap_head (c : UInt8) (t x : List UInt8) (h : gap false (c :: t) = 0) : gap false (c :: x) = 0 := by
  cases hb : blankB c.toNat
  · by_cases hc : c = 35
    · subst hc
      simp only [gap, hb, cond_false, if_true] at h
      omega
    · simp [gap, hb, hc]
  · simp only [gap, hb, cond_true] at h
    omega

theorem good_of (l : List UInt8) (ht : tokLen l ≠ 0) (hg : gap false l = 0) : GoodTok (l.take (tokLen l)) := by
  have hle := tokLen_le l
  have hlen : (l.take (tokLen l)).length = tokLen l := by simp; omega
  refine ⟨fun e => ?_, fun r hr => ⟨?_, ?_⟩⟩
  · rw [e] at hlen; simp at hlen; omega
  · rw [hlen]; exact (tok_stop hr l ht).1
  · cases l with
    | nil => simp [tokLen] at ht
    | cons c t =>
      obtain ⟨m, hm⟩ : ∃ m, tokLen (c :: t) = m + 1 := ⟨tokLen (c :: t) - 1, by omega⟩
      rw [hm, List.take_succ_cons, List.cons_append]
      exact gap_head c t _ hg

theorem cutF_good (n : Nat) : ∀ (l : List UInt8) (k : Nat) (acc toks : List (List UInt8)), cutF n l k acc = (toks, 0, 0) → ∀ t ∈ toks, t ∈ acc ∨ (GoodTok t ∧ t.length ≤ l.length) := by
  induction n with
  | zero =>
    intro l k acc toks h t ht
    simp only [cutF, Prod.mk.injEq, and_true] at h
    subst h; exact Or.inl ht
  | succ n ih =>
    intro l k acc toks h t ht
    simp only [cutF] at h
    split at h
    · simp only [Prod.mk.injEq, and_true] at h
      subst h; exact Or.inl ht
    · split at h
      · simp at h
      · rename_i h1 h2
        rcases ih _ _ _ _ h t ht with h3 | h3
        · rcases List.mem_append.1 h3 with h4 | h4
          · exact Or.inl h4
          · rw [List.mem_singleton] at h4
            subst h4
            refine Or.inr ⟨good_of _ h2 (gap_gap l false), ?_⟩
            simp; omega
        · refine Or.inr ⟨h3.1, Nat.le_trans h3.2 ?_⟩
          simp

theorem cutL_good (l : List UInt8) (toks : List (List UInt8)) (h : cutL l = (toks, 0, 0)) : ∀ t ∈ toks, GoodTok t ∧ t.length ≤ 4000 := by
  unfold cutL at h
  split at h
  · simp at h
  · intro t ht
    rcases cutF_good _ _ _ _ _ h t ht with h1 | h1
    · cases h1
    · exact ⟨h1.1, by omega⟩

/-- What may stand between. -/
def Between (b : List UInt8) : Prop := b = [32] ∨ b = [10] ∨ b = [35, 120, 10] ∨ b = [9, 32]

theorem between_gap {b : List UInt8} (hb : Between b) (x : List UInt8) : gap false (b ++ x) = b.length + gap false x := by
  have e1 : blankB 32 = true := by decide
  have e2 : blankB 10 = true := by decide
  have e3 : blankB 35 = false := by decide
  have e4 : blankB 9 = true := by decide
  rcases hb with rfl | rfl | rfl | rfl
  · simp [gap, e1]
  · simp [gap, e2]
  · simp [gap, e3]; omega
  · simp [gap, e1, e4]; omega

theorem between_stops {b : List UInt8} (hb : Between b) (x : List UInt8) : Stops (b ++ x) := by
  rcases hb with rfl | rfl | rfl | rfl
  · exact Or.inr ⟨32, _, rfl, Or.inl (by decide)⟩
  · exact Or.inr ⟨10, _, rfl, Or.inl (by decide)⟩
  · exact Or.inr ⟨35, _, rfl, Or.inr rfl⟩
  · exact Or.inr ⟨9, _, rfl, Or.inl (by decide)⟩

def joinL (b : List UInt8) (toks : List (List UInt8)) : List UInt8 := toks.flatMap (fun t => t ++ b)

theorem cut_join {b : List UInt8} (hb : Between b) (toks : List (List UInt8)) : ∀ (n k : Nat) (acc : List (List UInt8)), toks.length < n → (∀ t ∈ toks, GoodTok t) → cutF n (joinL b toks) k acc = (acc ++ toks, 0, 0) := by
  induction toks with
  | nil =>
    intro n k acc _ _
    rw [cut_end _ _ _ _ (show joinL b [] = [] from rfl), List.append_nil]
  | cons t r ih =>
    intro n k acc hn hg
    have hlen : (t :: r).length = r.length + 1 := rfl
    obtain ⟨hne, ht⟩ := hg t (List.mem_cons_self ..)
    have e : joinL b (t :: r) = t ++ (b ++ joinL b r) := by simp [joinL]
    have hs := ht (b ++ joinL b r) (between_stops hb _)
    have hpos : t.length ≠ 0 := fun h => hne (List.length_eq_zero_iff.1 h)
    rw [e, cut_tok n _ k acc (by omega) (by simp [hne]) hs.2 (by rw [hs.1]; exact hpos), hs.1, List.drop_left, List.take_left,
      cut_gap (n - 1) (b ++ joinL b r) _ _ (by omega), between_gap hb, ← List.drop_drop, List.drop_left]
    have h3 := cut_gap (n - 1) (joinL b r) (k + t.length + b.length) (acc ++ [t]) (by omega)
    rw [← Nat.add_assoc, ← h3, ih (n - 1) _ _ (by omega) (fun x hx => hg x (List.mem_cons_of_mem _ hx)), List.append_assoc]
    rfl

theorem join_len {b : List UInt8} (hb : Between b) (toks : List (List UInt8)) : toks.length ≤ (joinL b toks).length := by
  have hb1 : 1 ≤ b.length := by rcases hb with rfl | rfl | rfl | rfl <;> decide
  induction toks with
  | nil => simp
  | cons t r ih =>
    have e : joinL b (t :: r) = t ++ (b ++ joinL b r) := by simp [joinL]
    rw [e]; simp; omega

theorem cutL_join {b : List UInt8} (hb : Between b) (toks : List (List UInt8)) (hg : ∀ t ∈ toks, GoodTok t) (hl : ¬ 4000 < (joinL b toks).length) : cutL (joinL b toks) = (toks, 0, 0) := by
  unfold cutL
  rw [if_neg hl, cut_join hb toks _ 0 [] (by have := join_len hb toks; omega) hg]
  rfl

theorem cutF_err (n : Nat) : ∀ (l : List UInt8) (k : Nat) (acc : List (List UInt8)), ((cutF n l k acc).2.2 = 0 ∧ (cutF n l k acc).2.1 = 0) ∨ ((cutF n l k acc).1 = [] ∧ (cutF n l k acc).2.2 = 2 ∧ (cutF n l k acc).2.1 < k + l.length) := by
  induction n with
  | zero => intro l k acc; exact Or.inl ⟨rfl, rfl⟩
  | succ n ih =>
    intro l k acc
    simp only [cutF]
    split
    · exact Or.inl ⟨rfl, rfl⟩
    · rename_i h0
      have hlt : gap false l < l.length := by
        by_cases h : gap false l < l.length
        · exact h
        · rw [List.drop_of_length_le (by omega)] at h0; exact absurd rfl h0
      split
      · exact Or.inr ⟨rfl, rfl, by show k + gap false l < _; omega⟩
      · have h3 := tokLen_le (l.drop (gap false l))
        rw [List.length_drop] at h3
        rcases ih ((l.drop (gap false l)).drop (tokLen (l.drop (gap false l)))) (k + gap false l + tokLen (l.drop (gap false l))) (acc ++ [(l.drop (gap false l)).take (tokLen (l.drop (gap false l)))]) with h | ⟨h4, h5, h6⟩
        · exact Or.inl h
        · refine Or.inr ⟨h4, h5, ?_⟩
          rw [List.length_drop, List.length_drop] at h6
          omega

theorem cutL_err (l : List UInt8) : ((cutL l).2.2 = 0 ∧ (cutL l).2.1 = 0) ∨ ((cutL l).1 = [] ∧ ((cutL l).2.2 = 1 ∧ (cutL l).2.1 = 0 ∨ (cutL l).2.2 = 2 ∧ (cutL l).2.1 < l.length)) := by
  unfold cutL
  split
  · exact Or.inr ⟨rfl, Or.inl ⟨rfl, rfl⟩⟩
  · rcases cutF_err (l.length + 1) l 0 [] with h | ⟨h1, h2, h3⟩
    · exact Or.inl h
    · exact Or.inr ⟨h1, Or.inr ⟨h2, by omega⟩⟩

end Go.Proofs.YtnocnkblhjifjaaGreatDoor
/-
  Plain mathematics: how many tokens there may be, and how long they are.
-/
namespace Go.Proofs.YtnocnkblhjifjaaGreatDoor
open Go.RowKit

theorem cutF_len (n : Nat) : ∀ (l : List UInt8) (k : Nat) (acc : List (List UInt8)), (cutF n l k acc).1.length ≤ acc.length + l.length := by
  induction n with
  | zero => intro l k acc; simp [cutF]
  | succ n ih =>
    intro l k acc
    simp only [cutF]
    split
    · simp
    · split
      · simp
      · rename_i h1 h2
        have := ih ((l.drop (gap false l)).drop (tokLen (l.drop (gap false l)))) (k + gap false l + tokLen (l.drop (gap false l))) (acc ++ [(l.drop (gap false l)).take (tokLen (l.drop (gap false l)))])
        have h3 := tokLen_le (l.drop (gap false l))
        simp only [List.length_append, List.length_drop, List.length_cons, List.length_nil] at this h3
        omega

theorem cutL_len (l : List UInt8) : (cutL l).1.length ≤ 4000 := by
  unfold cutL
  split
  · simp
  · have := cutF_len (l.length + 1) l 0 []
    simp at this; omega

theorem cutF_tok (n : Nat) : ∀ (l : List UInt8) (k : Nat) (acc : List (List UInt8)) (B : Nat), l.length ≤ B → (∀ t ∈ acc, t.length ≤ B) → ∀ t ∈ (cutF n l k acc).1, t.length ≤ B := by
  induction n with
  | zero => intro l k acc B _ h; simpa [cutF] using h
  | succ n ih =>
    intro l k acc B hl h
    simp only [cutF]
    split
    · exact h
    · split
      · simp
      · refine ih _ _ _ B (by simp; omega) ?_
        intro t ht
        rcases List.mem_append.1 ht with ht | ht
        · exact h t ht
        · simp at ht; subst ht; simp; omega

theorem cutL_tok (l : List UInt8) : ∀ t ∈ (cutL l).1, t.length ≤ 4000 := by
  unfold cutL
  split
  · simp
  · exact cutF_tok _ l 0 [] 4000 (by omega) (by simp)

end Go.Proofs.YtnocnkblhjifjaaGreatDoor
