/-
  Plain mathematics: what a text's tokens are, said of lists of bytes. Nothing here speaks of the program.
-/
import Derived.WalkKit
import Derived.Lib.Bytealg
import Derived.Lib.Strings
namespace Go.Proofs.Ytnocnkblhjifjaa

def smallB (c : Int) : Bool := decide (97 ≤ c ∧ c ≤ 122)
def greatB (c : Int) : Bool := decide (65 ≤ c ∧ c ≤ 90)
def digitB (c : Int) : Bool := decide (48 ≤ c ∧ c ≤ 57)
def nameB (c : Int) : Bool := smallB c || digitB c || c == 95
def conB (c : Int) : Bool := nameB c || greatB c
def blankB (c : Int) : Bool := c == 32 || c == 9 || c == 10
def no10B (c : Int) : Bool := c != 10

/-- How many bytes at the head of a list are of a kind. -/
def cnt (p : Int → Bool) : List UInt8 → Nat
  | [] => 0
  | c :: r => bif p c.toNat then cnt p r + 1 else 0

theorem cnt_le (p : Int → Bool) (l : List UInt8) : cnt p l ≤ l.length := by
  induction l with
  | nil => simp [cnt]
  | cons c r ih => cases h : p c.toNat <;> simp [cnt, h]; omega

theorem cnt_yes (p : Int → Bool) (l : List UInt8) (k : Nat) (hk : k < l.length) (h : p (l[k]).toNat = true) : cnt p (l.drop k) = 1 + cnt p (l.drop (k + 1)) := by
  rw [List.drop_eq_getElem_cons hk]; simp [cnt, h]; omega

theorem cnt_no (p : Int → Bool) (l : List UInt8) (k : Nat) (hk : k < l.length) (h : p (l[k]).toNat = false) : cnt p (l.drop k) = 0 := by
  rw [List.drop_eq_getElem_cons hk]; simp [cnt, h]

theorem cnt_end (p : Int → Bool) (l : List UInt8) (k : Nat) (hk : l.length ≤ k) : cnt p (l.drop k) = 0 := by
  rw [List.drop_of_length_le hk]; rfl

theorem cntS_yes (p : Int → Bool) (s : ByteArray) (k : Nat) (hk : k < s.size) (h : p (s[k]).toNat = true) : cnt p (s.data.toList.drop k) = 1 + cnt p (s.data.toList.drop (k + 1)) :=
  cnt_yes p s.data.toList k (by simpa using hk) h

theorem cntS_no (p : Int → Bool) (s : ByteArray) (k : Nat) (hk : k < s.size) (h : p (s[k]).toNat = false) : cnt p (s.data.toList.drop k) = 0 :=
  cnt_no p s.data.toList k (by simpa using hk) h

theorem cntS_end (p : Int → Bool) (s : ByteArray) (k : Nat) (hk : s.size ≤ k) : cnt p (s.data.toList.drop k) = 0 :=
  cnt_end p s.data.toList k (by simpa using hk)

/-- Is a text one of the fourteen words? -/
def wordL (l : List UInt8) : Bool := l == [108, 101, 116] || l == [114, 101, 99] || l == [105, 110] || l == [102, 117, 110] || l == [105, 102] || l == [116, 104, 101, 110] || l == [101, 108, 115, 101] || l == [109, 97, 116, 99, 104] || l == [119, 105, 116, 104] || l == [101, 110, 100] || l == [116, 121, 112, 101] || l == [100, 111] || l == [116, 114, 117, 101] || l == [102, 97, 108, 115, 101]

def nameLen (l : List UInt8) : Nat :=
  match l with
  | [] => 0
  | c :: _ => bif smallB c.toNat then cnt nameB l else 0

theorem nameLen_le (l : List UInt8) : nameLen l ≤ l.length := by
  unfold nameLen
  split
  · simp
  · rename_i c r
    have := cnt_le nameB (c :: r)
    cases smallB c.toNat <;> simp <;> simpa using this

def numLen (l : List UInt8) : Nat := if 18 < cnt digitB l then 0 else cnt digitB l

def letterLen (l : List UInt8) : Nat :=
  bif nameLen l.tail == 0 || wordL (l.tail.take (nameLen l.tail)) then 0 else 1 + nameLen l.tail

def signs : List UInt8 := [40, 41, 61, 60, 43, 45, 42, 47, 59, 124, 33, 46, 95]

def signLen (l : List UInt8) : Nat :=
  if Lib.hasPrefix l [58, 61] = true ∨ Lib.hasPrefix l [45, 62] = true then 2 else
  match l with
  | [] => 0
  | c :: _ => if c ∈ signs then 1 else 0

/-- How long is the longest token at the head? 0: none begins there. -/
def tokLen (l : List UInt8) : Nat :=
  match l with
  | [] => 0
  | c :: _ => bif smallB c.toNat then nameLen l else bif greatB c.toNat then cnt conB l else bif digitB c.toNat then numLen l else if c = 39 then letterLen l else signLen l

/-- How many bytes at the head say nothing (the flag: inside a remark)? -/
def gap : Bool → List UInt8 → Nat
  | _, [] => 0
  | false, c :: r => bif blankB c.toNat then 1 + gap false r else if c = 35 then 1 + gap true r else 0
  | true, c :: r => if c = 10 then 1 + gap false r else 1 + gap true r

theorem indexByte_ge (l : List UInt8) (c : UInt8) : -1 ≤ Lib.indexByte l c := by
  induction l with
  | nil => simp [Lib.indexByte]
  | cons b r ih => simp only [Lib.indexByte]; split <;> (try split) <;> omega

theorem indexByte_mem (l : List UInt8) (c : UInt8) : 0 ≤ Lib.indexByte l c ↔ c ∈ l := by
  induction l with
  | nil => simp [Lib.indexByte]
  | cons b r ih =>
    have := indexByte_ge r c
    simp only [Lib.indexByte]
    by_cases h : b = c
    · simp [h]
    · have h' : ¬ c = b := fun e => h e.symm
      have h2 : (b == c) = false := by simpa using h
      simp only [h2]
      by_cases h3 : Lib.indexByte r c = -1
      · rw [h3] at ih; simp [h3, h', ← ih]
      · have h4 : (Lib.indexByte r c == -1) = false := by simpa using h3
        simp [h4, h', ← ih]; omega

theorem no10_iff (c : UInt8) : no10B c.toNat = (c != 10) := by
  simp only [no10B]
  rw [Bool.eq_iff_iff]
  simp only [bne_iff_ne, ne_eq]
  constructor
  · intro h e; exact h (by rw [e]; rfl)
  · intro h e; exact h (UInt8.toNat_inj.1 (by rw [show (10 : UInt8).toNat = 10 from rfl]; omega))

theorem indexByte_no10 (l : List UInt8) : (0 ≤ Lib.indexByte l 10 → Lib.indexByte l 10 = cnt no10B l) ∧ (Lib.indexByte l 10 < 0 → cnt no10B l = l.length) := by
  induction l with
  | nil => simp [Lib.indexByte, cnt]
  | cons b r ih =>
    have hge := indexByte_ge r 10
    simp only [Lib.indexByte, cnt, no10_iff, List.length_cons]
    by_cases h : b = 10
    · subst h; simp
    · have h2 : (b == 10) = false := by simpa using h
      have h2' : (b != 10) = true := by simpa using h
      simp only [h2, h2', cond_true]
      by_cases h3 : Lib.indexByte r 10 = -1
      · have := ih.2 (by omega)
        simp [h3]; omega
      · have := ih.1 (by omega)
        have h4 : (Lib.indexByte r 10 == -1) = false := by simpa using h3
        simp [h4]; omega

theorem remark_len (l : List UInt8) : (cnt no10B l : Int) = if 0 ≤ Lib.indexByte l 10 then Lib.indexByte l 10 else l.length := by
  have := indexByte_no10 l
  split
  · rename_i h; rw [this.1 h]
  · rename_i h; rw [this.2 (by omega)]

end Go.Proofs.Ytnocnkblhjifjaa
