import Derived.Test.YtnocnkblhjifjaaGreatDoorMLens
import Derived.Test.YtnocnkblhjifjaaGreatDoorMPlain
/-
  Tokens as the program's reader tells them apart (package lex): IsName, IsConstructor, IsLetter, IsNumber by their contracts.
-/
namespace Go.Proofs.YtnocnkblhjifjaaGreatDoor
open Go.RowKit

/-- A token, or the empty text. -/
def Tok (t : List UInt8) : Prop := tokLen t = t.length ∧ t.length ≤ 4000

theorem Tok.nil : Tok [] := ⟨rfl, Nat.zero_le _⟩

def nameK (t : List UInt8) : Bool := decide (0 < nameLen t) && !wordL t

theorem name_kind {t : List UInt8} (h : Tok t) : nameK t = (tokKind t == 110) := by
  obtain ⟨h, _⟩ := h
  unfold nameK
  cases t with
  | nil => rfl
  | cons c r =>
    unfold tokKind
    simp only
    cases hb : smallB c.toNat
    · rw [cond_false]
      have h0 : nameLen (c :: r) = 0 := by simp [nameLen, hb]
      rw [h0]
      cases greatB c.toNat
      · rw [cond_false]
        cases digitB c.toNat
        · rw [cond_false]
          split
          · split <;> rfl
          · split <;> rfl
        · rw [cond_true]; split <;> rfl
      · rfl
    · rw [cond_true]
      have hl : nameLen (c :: r) = (c :: r).length := by
        rw [← h]; unfold tokLen; simp only [hb, cond_true]
      rw [hl, List.take_length]
      cases wordL (c :: r) <;> simp

def headK (f : Int → Bool) (t : List UInt8) : Bool := match t with
  | [] => false
  | c :: _ => f c.toNat

def quoteB (c : Int) : Bool := c == 39

theorem con_kind (t : List UInt8) : headK greatB t = (tokKind t == 99) := by
  cases t with
  | nil => rfl
  | cons c r =>
    unfold tokKind headK
    simp only
    cases hs : smallB c.toNat
    · rw [cond_false]
      cases hg : greatB c.toNat
      · rw [cond_false]
        cases digitB c.toNat
        · rw [cond_false]
          split
          · split <;> rfl
          · split <;> rfl
        · rw [cond_true]; split <;> rfl
      · rfl
    · rw [cond_true]
      have : greatB c.toNat = false := by
        simp only [smallB, greatB, decide_eq_true_eq, decide_eq_false_iff_not] at *; omega
      rw [this]
      cases wordL ((c :: r).take (nameLen (c :: r))) <;> rfl

theorem num_kind {t : List UInt8} (h : Tok t) : headK digitB t = (tokKind t == 100) := by
  obtain ⟨h, _⟩ := h
  cases t with
  | nil => rfl
  | cons c r =>
    unfold tokLen at h
    unfold tokKind headK
    simp only at h ⊢
    cases hs : smallB c.toNat
    · rw [hs, cond_false] at h
      rw [cond_false]
      cases hg : greatB c.toNat
      · rw [hg, cond_false] at h
        rw [cond_false]
        cases hd : digitB c.toNat
        · rw [cond_false]
          split
          · split <;> rfl
          · split <;> rfl
        · rw [hd, cond_true] at h
          rw [cond_true, if_neg (by rw [h]; simp)]; rfl
      · have : digitB c.toNat = false := by
          simp only [digitB, greatB, decide_eq_true_eq, decide_eq_false_iff_not] at *; omega
        rw [this]; rfl
    · have : digitB c.toNat = false := by
        simp only [smallB, digitB, decide_eq_true_eq, decide_eq_false_iff_not] at *; omega
      rw [this, cond_true]
      cases wordL ((c :: r).take (nameLen (c :: r))) <;> rfl

theorem letter_kind {t : List UInt8} (h : Tok t) : headK quoteB t = (tokKind t == 108) := by
  obtain ⟨h, _⟩ := h
  cases t with
  | nil => rfl
  | cons c r =>
    unfold tokLen at h
    unfold tokKind headK
    simp only at h ⊢
    by_cases hc : c = 39
    · subst hc
      have h1 : smallB (39 : UInt8).toNat = false := by decide
      have h2 : greatB (39 : UInt8).toNat = false := by decide
      have h3 : digitB (39 : UInt8).toNat = false := by decide
      rw [h1, h2, h3, cond_false, cond_false, cond_false, if_pos rfl] at h
      rw [h1, h2, h3, cond_false, cond_false, cond_false, if_pos rfl, if_neg (by rw [h]; simp)]
      rfl
    · have hq : quoteB c.toNat = false := by
        cases hq : quoteB c.toNat
        · rfl
        · exfalso
          simp only [quoteB, beq_iff_eq] at hq
          exact hc (UInt8.toNat_inj.1 (by show c.toNat = 39; omega))
      rw [hq, if_neg hc]
      cases hs : smallB c.toNat
      · rw [cond_false]
        cases hg : greatB c.toNat
        · rw [cond_false]
          cases hd : digitB c.toNat
          · rw [cond_false]; split <;> rfl
          · rw [cond_true]; split <;> rfl
        · rfl
      · rw [cond_true]
        cases wordL ((c :: r).take (nameLen (c :: r))) <;> rfl

/-- The head byte of a text that is not empty. -/
theorem headK_cons (f : Int → Bool) (s : ByteArray) (hp : 0 < s.size) : headK f s.data.toList = f s[0].toNat := by
  rw [head_cons s hp]; rfl

theorem headK_nil (f : Int → Bool) (s : ByteArray) (h0 : s.size = 0) : headK f s.data.toList = false := by
  rw [nil_of_size s h0]; rfl

set_option maxHeartbeats 400000 in
theorem IsConstructor_any (s : ByteArray) (w : World) (hs : s.size ≤ maxLen) :
    Calls Tryz.prog 263 #[.string s] w fun e w' => e = .returned (.bool (headK greatB s.data.toList)) ∧ w' = w := by
  have hs' : s.size ≤ 9223372036854775807 := hs
  by_cases h0 : s.size = 0
  · have he : s.toList.isEmpty = true := by rw [ByteArray.toList_eq, nil_of_size s h0]; rfl
    go_enter Tryz.func263, Tryz.ntmps263
    go_wp2
    go_ret
    exact ⟨ret_bool (by rw [headK_nil _ _ h0]), rfl⟩
  · have hp : 0 < s.size := by omega
    have he : s.toList.isEmpty = false := by rw [ByteArray.toList_eq, head_cons s hp]; rfl
    go_enter Tryz.func263, Tryz.ntmps263
    go_wp2_with (go_at_call 132; refine (isGreat_any _ _).mono ?_; rintro e w' ⟨rfl, rfl⟩)
    go_ret
    exact ⟨ret_bool (by rw [headK_cons _ _ hp]), rfl⟩

set_option maxHeartbeats 400000 in
theorem IsNumber_any (s : ByteArray) (w : World) (hs : s.size ≤ maxLen) :
    Calls Tryz.prog 443 #[.string s] w fun e w' => e = .returned (.bool (headK digitB s.data.toList)) ∧ w' = w := by
  have hs' : s.size ≤ 9223372036854775807 := hs
  by_cases h0 : s.size = 0
  · have he : s.toList.isEmpty = true := by rw [ByteArray.toList_eq, nil_of_size s h0]; rfl
    go_enter Tryz.func443, Tryz.ntmps443
    go_wp2
    go_ret
    exact ⟨ret_bool (by rw [headK_nil _ _ h0]), rfl⟩
  · have hp : 0 < s.size := by omega
    have he : s.toList.isEmpty = false := by rw [ByteArray.toList_eq, head_cons s hp]; rfl
    go_enter Tryz.func443, Tryz.ntmps443
    go_wp2_with (go_at_call 135; refine (isDigit_any _ _).mono ?_; rintro e w' ⟨rfl, rfl⟩)
    go_ret
    exact ⟨ret_bool (by rw [headK_cons _ _ hp]), rfl⟩

set_option maxHeartbeats 400000 in
theorem IsLetter_any (s : ByteArray) (w : World) (hs : s.size ≤ maxLen) :
    Calls Tryz.prog 311 #[.string s] w fun e w' => e = .returned (.bool (headK quoteB s.data.toList)) ∧ w' = w := by
  have hs' : s.size ≤ 9223372036854775807 := hs
  by_cases h0 : s.size = 0
  · have he : s.toList.isEmpty = true := by rw [ByteArray.toList_eq, nil_of_size s h0]; rfl
    go_enter Tryz.func311, Tryz.ntmps311
    go_wp2
    go_ret
    exact ⟨ret_bool (by rw [headK_nil _ _ h0]), rfl⟩
  · have hp : 0 < s.size := by omega
    have he : s.toList.isEmpty = false := by rw [ByteArray.toList_eq, head_cons s hp]; rfl
    go_enter Tryz.func311, Tryz.ntmps311
    go_wp2
    go_ret
    exact ⟨ret_bool (by rw [headK_cons _ _ hp]; rfl), rfl⟩

set_option maxHeartbeats 400000 in
theorem IsName_any (s : ByteArray) (w : World) (hs : s.size ≤ maxLen) :
    Calls Tryz.prog 260 #[.string s] w fun e w' => e = .returned (.bool (nameK s.data.toList)) ∧ w' = w := by
  by_cases hn : 0 < nameLen s.data.toList
  · have hn' : (0 : Int) < (nameLen s.data.toList : Int) := by omega
    cases hw : wordL s.data.toList
    · go_enter Tryz.func260, Tryz.ntmps260
      go_wp2_with (first | (go_at_call 131; refine (nameLength_any _ _ hs).mono ?_; rintro e w' ⟨rfl, rfl⟩) | (go_at_call 196; refine (isWord_any _ _).mono ?_; rintro e w' ⟨rfl, rfl⟩))
      go_ret
      exact ⟨ret_bool (by simp [nameK, hn, hw]), rfl⟩
    · go_enter Tryz.func260, Tryz.ntmps260
      go_wp2_with (first | (go_at_call 131; refine (nameLength_any _ _ hs).mono ?_; rintro e w' ⟨rfl, rfl⟩) | (go_at_call 196; refine (isWord_any _ _).mono ?_; rintro e w' ⟨rfl, rfl⟩))
      go_ret
      exact ⟨ret_bool (by simp [nameK, hn, hw]), rfl⟩
  · have hn' : ¬ (0 : Int) < (nameLen s.data.toList : Int) := by omega
    go_enter Tryz.func260, Tryz.ntmps260
    go_wp2_with (first | (go_at_call 131; refine (nameLength_any _ _ hs).mono ?_; rintro e w' ⟨rfl, rfl⟩) | (go_at_call 196; refine (isWord_any _ _).mono ?_; rintro e w' ⟨rfl, rfl⟩))
    go_ret
    exact ⟨ret_bool (by simp [nameK, hn]), rfl⟩

end Go.Proofs.YtnocnkblhjifjaaGreatDoor
