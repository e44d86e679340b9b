import Derived.Test.YtnocnkblhjifjaaGreatDoorMLens
/-
  kilnref.in, span and word by their contracts.
-/
namespace Go.Proofs.YtnocnkblhjifjaaGreatDoor
open Go.RowKit

/-- Does a byte stand in a text? -/
def inL (l : List UInt8) (c : Int) : Bool := l.any (fun b => (b.toNat : Int) == c)

theorem inL_yes (s : ByteArray) (k : Nat) (c : Int) (hk : k < s.size) (h : ((s[k].toNat : Int) == c) = true) : inL (s.data.toList.drop k) c = true := by
  rw [List.drop_eq_getElem_cons (show k < s.data.toList.length from hk)]
  simp only [inL, List.any_cons]
  rw [show s.data.toList[k] = s[k] from rfl, h]; rfl

theorem inL_no (s : ByteArray) (k : Nat) (c : Int) (hk : k < s.size) (h : ((s[k].toNat : Int) == c) = false) : inL (s.data.toList.drop k) c = inL (s.data.toList.drop (k + 1)) c := by
  rw [List.drop_eq_getElem_cons (show k < s.data.toList.length from hk)]
  simp only [inL, List.any_cons]
  rw [show s.data.toList[k] = s[k] from rfl, h]; rfl

theorem inL_end (s : ByteArray) (k : Nat) (c : Int) (hk : s.size ≤ k) : inL (s.data.toList.drop k) c = false := by
  rw [List.drop_of_length_le (show s.data.toList.length ≤ k from hk)]; rfl

set_option maxHeartbeats 400000 in
theorem in_any (s : ByteArray) (c : Int) (w : World) (hs : s.size ≤ maxLen) :
    Calls Tryz.prog 147 #[.string s, .int .u8 c] w fun e w' => e = .returned (.bool (inL s.data.toList c)) ∧ w' = w := by
  unfold maxLen at hs
  go_enter Tryz.func147, Tryz.ntmps147
  go_wp2
  go_loop [5] (fun i => ∃ k : Nat, k ≤ s.size ∧ i = .int .i64 k ∧ Hid (inL s.data.toList c = inL (s.data.toList.drop k) c)) (fun i => s.size - (intOf i).toNat)
  case atStart => exact ⟨0, Nat.zero_le _, rfl, show inL _ _ = _ by simp⟩
  case round =>
    obtain ⟨k, hk, rfl, H⟩ := hrel
    by_cases hlt : k < s.size
    · cases hb : ((s[k].toNat : Int) == c)
      · have HB : Hid (inL (s.data.toList.drop k) c = inL (s.data.toList.drop (k + 1)) c) := inL_no s k c hlt hb
        go_wp2
        go_round
        case rel => exact ⟨k + 1, by omega, by go_num, show inL _ _ = _ by rw [H.out, HB.out]⟩
        case measure => simp [intOf]; omega
      · have HB : Hid (inL (s.data.toList.drop k) c = true) := inL_yes s k c hlt hb
        go_wp2
        go_ret
        exact ⟨ret_bool (by rw [H.out, HB.out]), rfl⟩
    · have HB : Hid (inL (s.data.toList.drop k) c = false) := inL_end s k c (by omega)
      go_wp2
      go_ret
      exact ⟨ret_bool (by rw [H.out, HB.out]), rfl⟩

set_option maxHeartbeats 400000 in
theorem span_any (s : ByteArray) (i : Nat) (kd : ByteArray) (w : World) (hs : s.size ≤ maxLen) (hi : i ≤ s.size) (hk : kd.size ≤ maxLen) :
    Calls Tryz.prog 210 #[.string s, .int .i64 i, .string kd] w fun e w' => e = .returned (.int .i64 (i + cnt (inL kd.data.toList) (s.data.toList.drop i) : Nat)) ∧ w' = w := by
  have hs' : s.size ≤ 9223372036854775807 := hs
  have hin : ∀ (c : Int) (wx : World), Calls Tryz.prog 147 #[.string kd, .int .u8 c] wx fun e w' => e = .returned (.bool (inL kd.data.toList c)) ∧ w' = wx := fun c wx => in_any kd c wx hk
  generalize inL kd.data.toList = p at *
  have HIN : Hid (∀ (c : Int) (wx : World), Calls Tryz.prog 147 #[.string kd, .int .u8 c] wx fun e w' => e = .returned (.bool (p c)) ∧ w' = wx) := hin
  clear hin
  go_enter Tryz.func210, Tryz.ntmps210
  go_wp2
  go_loop [1] (fun j => ∃ k : Nat, k ≤ s.size ∧ j = .int .i64 k ∧ Hid (i + cnt p (s.data.toList.drop i) = k + cnt p (s.data.toList.drop k))) (fun j => s.size - (intOf j).toNat)
  case atStart => exact ⟨i, hi, rfl, show i + cnt _ _ = _ by rfl⟩
  case round =>
    obtain ⟨k, hk, rfl, H⟩ := hrel
    by_cases hlt : k < s.size
    · cases hb : p s[k].toNat
      · have HB : Hid (cnt p (s.data.toList.drop k) = 0) := cntS_no p s k hlt hb
        go_wp2_with (go_at_call 147; refine (HIN.out _ _).mono ?_; rintro e w' ⟨rfl, hw'⟩; subst w')
        go_ret
        exact ⟨ret_int (by have h1 := H.out; have h2 := HB.out; omega), rfl⟩
      · have HB : Hid (cnt p (s.data.toList.drop k) = 1 + cnt p (s.data.toList.drop (k + 1))) := cntS_yes p s k hlt hb
        go_wp2_with (go_at_call 147; refine (HIN.out _ _).mono ?_; rintro e w' ⟨rfl, hw'⟩; subst w')
        go_round
        case rel => exact ⟨k + 1, by omega, by go_num, show i + cnt _ _ = _ by rw [H.out, HB.out]; omega⟩
        case measure => simp [intOf]; omega
    · have HB : Hid (cnt p (s.data.toList.drop k) = 0) := cntS_end p s k (by omega)
      have hd : decide ((k : Int) < s.size) = false := by simp; omega
      go_wp2
      go_ret
      exact ⟨ret_int (by have h1 := H.out; have h2 := HB.out; omega), rfl⟩

end Go.Proofs.YtnocnkblhjifjaaGreatDoor
/-
  kilnref.word by its contract.
-/
namespace Go.Proofs.YtnocnkblhjifjaaGreatDoor
open Go.RowKit

def wl : List (List UInt8) := [[108, 101, 116], [114, 101, 99], [105, 110], [102, 117, 110], [105, 102], [116, 104, 101, 110], [101, 108, 115, 101], [109, 97, 116, 99, 104], [119, 105, 116, 104], [101, 110, 100], [116, 121, 112, 101], [100, 111], [116, 114, 117, 101], [102, 97, 108, 115, 101]]

theorem wordL_wl (l : List UInt8) : wordL l = wl.any (fun x => l == x) := by
  simp [wordL, wl, Bool.or_assoc]

theorem wl_hit (l : List UInt8) (k : Nat) (hk : k < wl.length) (h : (l == wl[k]) = true) : wl.any (fun x => l == x) = true :=
  List.any_eq_true.2 ⟨wl[k], List.getElem_mem hk, h⟩

theorem wl_miss (l : List UInt8) (k : Nat) (hk : k < wl.length) (h : (l == wl[k]) = false) (h0 : (wl.take k).any (fun x => l == x) = false) : (wl.take (k + 1)).any (fun x => l == x) = false := by
  rw [List.take_succ_eq_append_getElem hk, List.any_append, h0, List.any_cons, h]; rfl

set_option maxHeartbeats 2000000 in
theorem word_any (s : ByteArray) (w : World) :
    Calls Tryz.prog 211 #[.string s] w fun e w' => e = .returned (.bool (wordL s.data.toList)) ∧ Below w.heap.size w w' := by
  have hE : ∀ l : List UInt8, (l == s.toList) = (s.data.toList == l) := fun l => by rw [ByteArray.toList_eq]; exact Bool.beq_comm
  have HW : Hid (wordL s.data.toList = wl.any (fun x => s.data.toList == x)) := wordL_wl _
  generalize wordL s.data.toList = R at *
  go_enter Tryz.func211, Tryz.ntmps211
  go_wp2
  go_loop [4] (fun i => ∃ k : Nat, k ≤ 14 ∧ i = .int .i64 k ∧ Hid ((wl.take k).any (fun x => s.data.toList == x) = false)) (fun i => 14 - (intOf i).toNat)
  case atStart => exact ⟨0, Nat.zero_le _, rfl, show List.any _ _ = _ by rfl⟩
  case round =>
    obtain ⟨k, hk, rfl, H⟩ := hrel
    rcases (show k = 0 ∨ k = 1 ∨ k = 2 ∨ k = 3 ∨ k = 4 ∨ k = 5 ∨ k = 6 ∨ k = 7 ∨ k = 8 ∨ k = 9 ∨ k = 10 ∨ k = 11 ∨ k = 12 ∨ k = 13 ∨ k = 14 from by omega) with rfl | rfl | rfl | rfl | rfl | rfl | rfl | rfl | rfl | rfl | rfl | rfl | rfl | rfl | rfl
    · go_wp2
      · go_ret
        exact ⟨ret_bool (by rw [HW.out]; exact (wl_hit _ 0 (by decide) (show (s.data.toList == [108, 101, 116]) = true by assumption)).symm), (Below.refl _ _).alloc (Nat.le_refl _) _⟩
      · go_round
        case rel => exact ⟨1, by omega, by go_num, wl_miss _ 0 (by decide) (show (s.data.toList == [108, 101, 116]) = false by assumption) H.out⟩
        case measure => simp [intOf]
    · go_wp2
      · go_ret
        exact ⟨ret_bool (by rw [HW.out]; exact (wl_hit _ 1 (by decide) (show (s.data.toList == [114, 101, 99]) = true by assumption)).symm), (Below.refl _ _).alloc (Nat.le_refl _) _⟩
      · go_round
        case rel => exact ⟨2, by omega, by go_num, wl_miss _ 1 (by decide) (show (s.data.toList == [114, 101, 99]) = false by assumption) H.out⟩
        case measure => simp [intOf]
    · go_wp2
      · go_ret
        exact ⟨ret_bool (by rw [HW.out]; exact (wl_hit _ 2 (by decide) (show (s.data.toList == [105, 110]) = true by assumption)).symm), (Below.refl _ _).alloc (Nat.le_refl _) _⟩
      · go_round
        case rel => exact ⟨3, by omega, by go_num, wl_miss _ 2 (by decide) (show (s.data.toList == [105, 110]) = false by assumption) H.out⟩
        case measure => simp [intOf]
    · go_wp2
      · go_ret
        exact ⟨ret_bool (by rw [HW.out]; exact (wl_hit _ 3 (by decide) (show (s.data.toList == [102, 117, 110]) = true by assumption)).symm), (Below.refl _ _).alloc (Nat.le_refl _) _⟩
      · go_round
        case rel => exact ⟨4, by omega, by go_num, wl_miss _ 3 (by decide) (show (s.data.toList == [102, 117, 110]) = false by assumption) H.out⟩
        case measure => simp [intOf]
    · go_wp2
      · go_ret
        exact ⟨ret_bool (by rw [HW.out]; exact (wl_hit _ 4 (by decide) (show (s.data.toList == [105, 102]) = true by assumption)).symm), (Below.refl _ _).alloc (Nat.le_refl _) _⟩
      · go_round
        case rel => exact ⟨5, by omega, by go_num, wl_miss _ 4 (by decide) (show (s.data.toList == [105, 102]) = false by assumption) H.out⟩
        case measure => simp [intOf]
    · go_wp2
      · go_ret
        exact ⟨ret_bool (by rw [HW.out]; exact (wl_hit _ 5 (by decide) (show (s.data.toList == [116, 104, 101, 110]) = true by assumption)).symm), (Below.refl _ _).alloc (Nat.le_refl _) _⟩
      · go_round
        case rel => exact ⟨6, by omega, by go_num, wl_miss _ 5 (by decide) (show (s.data.toList == [116, 104, 101, 110]) = false by assumption) H.out⟩
        case measure => simp [intOf]
    · go_wp2
      · go_ret
        exact ⟨ret_bool (by rw [HW.out]; exact (wl_hit _ 6 (by decide) (show (s.data.toList == [101, 108, 115, 101]) = true by assumption)).symm), (Below.refl _ _).alloc (Nat.le_refl _) _⟩
      · go_round
        case rel => exact ⟨7, by omega, by go_num, wl_miss _ 6 (by decide) (show (s.data.toList == [101, 108, 115, 101]) = false by assumption) H.out⟩
        case measure => simp [intOf]
    · go_wp2
      · go_ret
        exact ⟨ret_bool (by rw [HW.out]; exact (wl_hit _ 7 (by decide) (show (s.data.toList == [109, 97, 116, 99, 104]) = true by assumption)).symm), (Below.refl _ _).alloc (Nat.le_refl _) _⟩
      · go_round
        case rel => exact ⟨8, by omega, by go_num, wl_miss _ 7 (by decide) (show (s.data.toList == [109, 97, 116, 99, 104]) = false by assumption) H.out⟩
        case measure => simp [intOf]
    · go_wp2
      · go_ret
        exact ⟨ret_bool (by rw [HW.out]; exact (wl_hit _ 8 (by decide) (show (s.data.toList == [119, 105, 116, 104]) = true by assumption)).symm), (Below.refl _ _).alloc (Nat.le_refl _) _⟩
      · go_round
        case rel => exact ⟨9, by omega, by go_num, wl_miss _ 8 (by decide) (show (s.data.toList == [119, 105, 116, 104]) = false by assumption) H.out⟩
        case measure => simp [intOf]
    · go_wp2
      · go_ret
        exact ⟨ret_bool (by rw [HW.out]; exact (wl_hit _ 9 (by decide) (show (s.data.toList == [101, 110, 100]) = true by assumption)).symm), (Below.refl _ _).alloc (Nat.le_refl _) _⟩
      · go_round
        case rel => exact ⟨10, by omega, by go_num, wl_miss _ 9 (by decide) (show (s.data.toList == [101, 110, 100]) = false by assumption) H.out⟩
        case measure => simp [intOf]
    · go_wp2
      · go_ret
        exact ⟨ret_bool (by rw [HW.out]; exact (wl_hit _ 10 (by decide) (show (s.data.toList == [116, 121, 112, 101]) = true by assumption)).symm), (Below.refl _ _).alloc (Nat.le_refl _) _⟩
      · go_round
        case rel => exact ⟨11, by omega, by go_num, wl_miss _ 10 (by decide) (show (s.data.toList == [116, 121, 112, 101]) = false by assumption) H.out⟩
        case measure => simp [intOf]
    · go_wp2
      · go_ret
        exact ⟨ret_bool (by rw [HW.out]; exact (wl_hit _ 11 (by decide) (show (s.data.toList == [100, 111]) = true by assumption)).symm), (Below.refl _ _).alloc (Nat.le_refl _) _⟩
      · go_round
        case rel => exact ⟨12, by omega, by go_num, wl_miss _ 11 (by decide) (show (s.data.toList == [100, 111]) = false by assumption) H.out⟩
        case measure => simp [intOf]
    · go_wp2
      · go_ret
        exact ⟨ret_bool (by rw [HW.out]; exact (wl_hit _ 12 (by decide) (show (s.data.toList == [116, 114, 117, 101]) = true by assumption)).symm), (Below.refl _ _).alloc (Nat.le_refl _) _⟩
      · go_round
        case rel => exact ⟨13, by omega, by go_num, wl_miss _ 12 (by decide) (show (s.data.toList == [116, 114, 117, 101]) = false by assumption) H.out⟩
        case measure => simp [intOf]
    · go_wp2
      · go_ret
        exact ⟨ret_bool (by rw [HW.out]; exact (wl_hit _ 13 (by decide) (show (s.data.toList == [102, 97, 108, 115, 101]) = true by assumption)).symm), (Below.refl _ _).alloc (Nat.le_refl _) _⟩
      · go_round
        case rel => exact ⟨14, by omega, by go_num, wl_miss _ 13 (by decide) (show (s.data.toList == [102, 97, 108, 115, 101]) = false by assumption) H.out⟩
        case measure => simp [intOf]
    · go_wp2
      go_ret
      exact ⟨ret_bool (by rw [HW.out]; exact H.out.symm), (Below.refl _ _).alloc (Nat.le_refl _) _⟩

end Go.Proofs.YtnocnkblhjifjaaGreatDoor
/-
  kilnref.in and kilnref.span at the constants that the reference hands them.
-/
namespace Go.Proofs.YtnocnkblhjifjaaGreatDoor
open Go.RowKit

theorem cnt_congr {p q : Int → Bool} (h : ∀ c : UInt8, p c.toNat = q c.toNat) (l : List UInt8) : cnt p l = cnt q l := by
  induction l with
  | nil => rfl
  | cons c r ih => simp only [cnt, h c, ih]

theorem all_bytes {P : Nat → Bool} (h : (List.range 256).all P = true) (c : UInt8) : P c.toNat = true := by
  rw [List.all_eq_true] at h
  exact h _ (List.mem_range.2 c.toNat_lt)

theorem in_smallK (c : UInt8) : inL [97, 98, 99, 100, 101, 102, 103, 104, 105, 106, 107, 108, 109, 110, 111, 112, 113, 114, 115, 116, 117, 118, 119, 120, 121, 122] c.toNat = smallB c.toNat := by
  have := all_bytes (P := fun n => inL [97, 98, 99, 100, 101, 102, 103, 104, 105, 106, 107, 108, 109, 110, 111, 112, 113, 114, 115, 116, 117, 118, 119, 120, 121, 122] n == smallB n) (by decide +kernel) c
  exact eq_of_beq this

theorem in_greatK (c : UInt8) : inL [65, 66, 67, 68, 69, 70, 71, 72, 73, 74, 75, 76, 77, 78, 79, 80, 81, 82, 83, 84, 85, 86, 87, 88, 89, 90] c.toNat = greatB c.toNat := by
  have := all_bytes (P := fun n => inL [65, 66, 67, 68, 69, 70, 71, 72, 73, 74, 75, 76, 77, 78, 79, 80, 81, 82, 83, 84, 85, 86, 87, 88, 89, 90] n == greatB n) (by decide +kernel) c
  exact eq_of_beq this

theorem in_digitK (c : UInt8) : inL [48, 49, 50, 51, 52, 53, 54, 55, 56, 57] c.toNat = digitB c.toNat := by
  have := all_bytes (P := fun n => inL [48, 49, 50, 51, 52, 53, 54, 55, 56, 57] n == digitB n) (by decide +kernel) c
  exact eq_of_beq this

theorem in_nameK (c : UInt8) : inL [97, 98, 99, 100, 101, 102, 103, 104, 105, 106, 107, 108, 109, 110, 111, 112, 113, 114, 115, 116, 117, 118, 119, 120, 121, 122, 48, 49, 50, 51, 52, 53, 54, 55, 56, 57, 95] c.toNat = nameB c.toNat := by
  have := all_bytes (P := fun n => inL [97, 98, 99, 100, 101, 102, 103, 104, 105, 106, 107, 108, 109, 110, 111, 112, 113, 114, 115, 116, 117, 118, 119, 120, 121, 122, 48, 49, 50, 51, 52, 53, 54, 55, 56, 57, 95] n == nameB n) (by decide +kernel) c
  exact eq_of_beq this

theorem in_conK (c : UInt8) : inL [97, 98, 99, 100, 101, 102, 103, 104, 105, 106, 107, 108, 109, 110, 111, 112, 113, 114, 115, 116, 117, 118, 119, 120, 121, 122, 65, 66, 67, 68, 69, 70, 71, 72, 73, 74, 75, 76, 77, 78, 79, 80, 81, 82, 83, 84, 85, 86, 87, 88, 89, 90, 48, 49, 50, 51, 52, 53, 54, 55, 56, 57, 95] c.toNat = conB c.toNat := by
  have := all_bytes (P := fun n => inL [97, 98, 99, 100, 101, 102, 103, 104, 105, 106, 107, 108, 109, 110, 111, 112, 113, 114, 115, 116, 117, 118, 119, 120, 121, 122, 65, 66, 67, 68, 69, 70, 71, 72, 73, 74, 75, 76, 77, 78, 79, 80, 81, 82, 83, 84, 85, 86, 87, 88, 89, 90, 48, 49, 50, 51, 52, 53, 54, 55, 56, 57, 95] n == conB n) (by decide +kernel) c
  exact eq_of_beq this

theorem in_blankK (c : UInt8) : inL [32, 9, 10] c.toNat = blankB c.toNat := by
  have := all_bytes (P := fun n => inL [32, 9, 10] n == blankB n) (by decide +kernel) c
  exact eq_of_beq this

theorem in_signK (c : UInt8) : inL [40, 41, 61, 60, 43, 45, 42, 47, 59, 124, 33, 46, 95] c.toNat = decide (c ∈ signs) := by
  have := all_bytes (P := fun n => inL [40, 41, 61, 60, 43, 45, 42, 47, 59, 124, 33, 46, 95] n == decide (UInt8.ofNat n ∈ signs)) (by decide +kernel) c
  have h := eq_of_beq this
  rw [UInt8.ofNat_toNat] at h; exact h

theorem in_at_smallK (c : UInt8) (wx : World) : Calls Tryz.prog 147 #[.string ⟨#[97, 98, 99, 100, 101, 102, 103, 104, 105, 106, 107, 108, 109, 110, 111, 112, 113, 114, 115, 116, 117, 118, 119, 120, 121, 122]⟩, .int .u8 c.toNat] wx fun e w' => e = .returned (.bool (smallB c.toNat)) ∧ w' = wx := by
  have := in_any ⟨#[97, 98, 99, 100, 101, 102, 103, 104, 105, 106, 107, 108, 109, 110, 111, 112, 113, 114, 115, 116, 117, 118, 119, 120, 121, 122]⟩ c.toNat wx (by decide)
  rw [show inL (ByteArray.mk #[97, 98, 99, 100, 101, 102, 103, 104, 105, 106, 107, 108, 109, 110, 111, 112, 113, 114, 115, 116, 117, 118, 119, 120, 121, 122]).data.toList c.toNat = _ from in_smallK c] at this; exact this

theorem in_at_greatK (c : UInt8) (wx : World) : Calls Tryz.prog 147 #[.string ⟨#[65, 66, 67, 68, 69, 70, 71, 72, 73, 74, 75, 76, 77, 78, 79, 80, 81, 82, 83, 84, 85, 86, 87, 88, 89, 90]⟩, .int .u8 c.toNat] wx fun e w' => e = .returned (.bool (greatB c.toNat)) ∧ w' = wx := by
  have := in_any ⟨#[65, 66, 67, 68, 69, 70, 71, 72, 73, 74, 75, 76, 77, 78, 79, 80, 81, 82, 83, 84, 85, 86, 87, 88, 89, 90]⟩ c.toNat wx (by decide)
  rw [show inL (ByteArray.mk #[65, 66, 67, 68, 69, 70, 71, 72, 73, 74, 75, 76, 77, 78, 79, 80, 81, 82, 83, 84, 85, 86, 87, 88, 89, 90]).data.toList c.toNat = _ from in_greatK c] at this; exact this

theorem in_at_digitK (c : UInt8) (wx : World) : Calls Tryz.prog 147 #[.string ⟨#[48, 49, 50, 51, 52, 53, 54, 55, 56, 57]⟩, .int .u8 c.toNat] wx fun e w' => e = .returned (.bool (digitB c.toNat)) ∧ w' = wx := by
  have := in_any ⟨#[48, 49, 50, 51, 52, 53, 54, 55, 56, 57]⟩ c.toNat wx (by decide)
  rw [show inL (ByteArray.mk #[48, 49, 50, 51, 52, 53, 54, 55, 56, 57]).data.toList c.toNat = _ from in_digitK c] at this; exact this

theorem in_at_nameK (c : UInt8) (wx : World) : Calls Tryz.prog 147 #[.string ⟨#[97, 98, 99, 100, 101, 102, 103, 104, 105, 106, 107, 108, 109, 110, 111, 112, 113, 114, 115, 116, 117, 118, 119, 120, 121, 122, 48, 49, 50, 51, 52, 53, 54, 55, 56, 57, 95]⟩, .int .u8 c.toNat] wx fun e w' => e = .returned (.bool (nameB c.toNat)) ∧ w' = wx := by
  have := in_any ⟨#[97, 98, 99, 100, 101, 102, 103, 104, 105, 106, 107, 108, 109, 110, 111, 112, 113, 114, 115, 116, 117, 118, 119, 120, 121, 122, 48, 49, 50, 51, 52, 53, 54, 55, 56, 57, 95]⟩ c.toNat wx (by decide)
  rw [show inL (ByteArray.mk #[97, 98, 99, 100, 101, 102, 103, 104, 105, 106, 107, 108, 109, 110, 111, 112, 113, 114, 115, 116, 117, 118, 119, 120, 121, 122, 48, 49, 50, 51, 52, 53, 54, 55, 56, 57, 95]).data.toList c.toNat = _ from in_nameK c] at this; exact this

theorem in_at_conK (c : UInt8) (wx : World) : Calls Tryz.prog 147 #[.string ⟨#[97, 98, 99, 100, 101, 102, 103, 104, 105, 106, 107, 108, 109, 110, 111, 112, 113, 114, 115, 116, 117, 118, 119, 120, 121, 122, 65, 66, 67, 68, 69, 70, 71, 72, 73, 74, 75, 76, 77, 78, 79, 80, 81, 82, 83, 84, 85, 86, 87, 88, 89, 90, 48, 49, 50, 51, 52, 53, 54, 55, 56, 57, 95]⟩, .int .u8 c.toNat] wx fun e w' => e = .returned (.bool (conB c.toNat)) ∧ w' = wx := by
  have := in_any ⟨#[97, 98, 99, 100, 101, 102, 103, 104, 105, 106, 107, 108, 109, 110, 111, 112, 113, 114, 115, 116, 117, 118, 119, 120, 121, 122, 65, 66, 67, 68, 69, 70, 71, 72, 73, 74, 75, 76, 77, 78, 79, 80, 81, 82, 83, 84, 85, 86, 87, 88, 89, 90, 48, 49, 50, 51, 52, 53, 54, 55, 56, 57, 95]⟩ c.toNat wx (by decide)
  rw [show inL (ByteArray.mk #[97, 98, 99, 100, 101, 102, 103, 104, 105, 106, 107, 108, 109, 110, 111, 112, 113, 114, 115, 116, 117, 118, 119, 120, 121, 122, 65, 66, 67, 68, 69, 70, 71, 72, 73, 74, 75, 76, 77, 78, 79, 80, 81, 82, 83, 84, 85, 86, 87, 88, 89, 90, 48, 49, 50, 51, 52, 53, 54, 55, 56, 57, 95]).data.toList c.toNat = _ from in_conK c] at this; exact this

theorem in_at_blankK (c : UInt8) (wx : World) : Calls Tryz.prog 147 #[.string ⟨#[32, 9, 10]⟩, .int .u8 c.toNat] wx fun e w' => e = .returned (.bool (blankB c.toNat)) ∧ w' = wx := by
  have := in_any ⟨#[32, 9, 10]⟩ c.toNat wx (by decide)
  rw [show inL (ByteArray.mk #[32, 9, 10]).data.toList c.toNat = _ from in_blankK c] at this; exact this

theorem in_at_signK (c : UInt8) (wx : World) : Calls Tryz.prog 147 #[.string ⟨#[40, 41, 61, 60, 43, 45, 42, 47, 59, 124, 33, 46, 95]⟩, .int .u8 c.toNat] wx fun e w' => e = .returned (.bool (decide (c ∈ signs))) ∧ w' = wx := by
  have := in_any ⟨#[40, 41, 61, 60, 43, 45, 42, 47, 59, 124, 33, 46, 95]⟩ c.toNat wx (by decide)
  rw [show inL (ByteArray.mk #[40, 41, 61, 60, 43, 45, 42, 47, 59, 124, 33, 46, 95]).data.toList c.toNat = _ from in_signK c] at this; exact this

theorem span_at_nameK (s : ByteArray) (i : Nat) (wx : World) (hs : s.size ≤ maxLen) (hi : i ≤ s.size) : Calls Tryz.prog 210 #[.string s, .int .i64 i, .string ⟨#[97, 98, 99, 100, 101, 102, 103, 104, 105, 106, 107, 108, 109, 110, 111, 112, 113, 114, 115, 116, 117, 118, 119, 120, 121, 122, 48, 49, 50, 51, 52, 53, 54, 55, 56, 57, 95]⟩] wx fun e w' => e = .returned (.int .i64 (i + cnt nameB (s.data.toList.drop i) : Nat)) ∧ w' = wx := by
  have := span_any s i ⟨#[97, 98, 99, 100, 101, 102, 103, 104, 105, 106, 107, 108, 109, 110, 111, 112, 113, 114, 115, 116, 117, 118, 119, 120, 121, 122, 48, 49, 50, 51, 52, 53, 54, 55, 56, 57, 95]⟩ wx hs hi (by decide)
  rw [cnt_congr (show ∀ c : UInt8, inL (ByteArray.mk #[97, 98, 99, 100, 101, 102, 103, 104, 105, 106, 107, 108, 109, 110, 111, 112, 113, 114, 115, 116, 117, 118, 119, 120, 121, 122, 48, 49, 50, 51, 52, 53, 54, 55, 56, 57, 95]).data.toList c.toNat = nameB c.toNat from in_nameK)] at this; exact this

theorem span_at_conK (s : ByteArray) (i : Nat) (wx : World) (hs : s.size ≤ maxLen) (hi : i ≤ s.size) : Calls Tryz.prog 210 #[.string s, .int .i64 i, .string ⟨#[97, 98, 99, 100, 101, 102, 103, 104, 105, 106, 107, 108, 109, 110, 111, 112, 113, 114, 115, 116, 117, 118, 119, 120, 121, 122, 65, 66, 67, 68, 69, 70, 71, 72, 73, 74, 75, 76, 77, 78, 79, 80, 81, 82, 83, 84, 85, 86, 87, 88, 89, 90, 48, 49, 50, 51, 52, 53, 54, 55, 56, 57, 95]⟩] wx fun e w' => e = .returned (.int .i64 (i + cnt conB (s.data.toList.drop i) : Nat)) ∧ w' = wx := by
  have := span_any s i ⟨#[97, 98, 99, 100, 101, 102, 103, 104, 105, 106, 107, 108, 109, 110, 111, 112, 113, 114, 115, 116, 117, 118, 119, 120, 121, 122, 65, 66, 67, 68, 69, 70, 71, 72, 73, 74, 75, 76, 77, 78, 79, 80, 81, 82, 83, 84, 85, 86, 87, 88, 89, 90, 48, 49, 50, 51, 52, 53, 54, 55, 56, 57, 95]⟩ wx hs hi (by decide)
  rw [cnt_congr (show ∀ c : UInt8, inL (ByteArray.mk #[97, 98, 99, 100, 101, 102, 103, 104, 105, 106, 107, 108, 109, 110, 111, 112, 113, 114, 115, 116, 117, 118, 119, 120, 121, 122, 65, 66, 67, 68, 69, 70, 71, 72, 73, 74, 75, 76, 77, 78, 79, 80, 81, 82, 83, 84, 85, 86, 87, 88, 89, 90, 48, 49, 50, 51, 52, 53, 54, 55, 56, 57, 95]).data.toList c.toNat = conB c.toNat from in_conK)] at this; exact this

theorem span_at_digitK (s : ByteArray) (i : Nat) (wx : World) (hs : s.size ≤ maxLen) (hi : i ≤ s.size) : Calls Tryz.prog 210 #[.string s, .int .i64 i, .string ⟨#[48, 49, 50, 51, 52, 53, 54, 55, 56, 57]⟩] wx fun e w' => e = .returned (.int .i64 (i + cnt digitB (s.data.toList.drop i) : Nat)) ∧ w' = wx := by
  have := span_any s i ⟨#[48, 49, 50, 51, 52, 53, 54, 55, 56, 57]⟩ wx hs hi (by decide)
  rw [cnt_congr (show ∀ c : UInt8, inL (ByteArray.mk #[48, 49, 50, 51, 52, 53, 54, 55, 56, 57]).data.toList c.toNat = digitB c.toNat from in_digitK)] at this; exact this

end Go.Proofs.YtnocnkblhjifjaaGreatDoor
