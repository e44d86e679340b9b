/-
  kilnref.in and kilnref.span at the constants that the reference hands them.
-/
import Derived.Test.YtnocnkblhjifjaaRefWord
namespace Go.Proofs.Ytnocnkblhjifjaa
open Go.RowKit

theorem cnt_congr {p q : Int → Bool} (h : ∀ c : UInt8, p c.toNat = q c.toNat) (l : List UInt8) : cnt p l = cnt q l := by
  induction l with
  | nil => rfl
  | cons c r ih => simp only [cnt, h c, ih]

theorem all_bytes {P : Nat → Bool} (h : (List.range 256).all P = true) (c : UInt8) : P c.toNat = true := by
  rw [List.all_eq_true] at h
  exact h _ (List.mem_range.2 c.toNat_lt)

theorem in_smallK (c : UInt8) : inL [97, 98, 99, 100, 101, 102, 103, 104, 105, 106, 107, 108, 109, 110, 111, 112, 113, 114, 115, 116, 117, 118, 119, 120, 121, 122] c.toNat = smallB c.toNat := by
  have := all_bytes (P := fun n => inL [97, 98, 99, 100, 101, 102, 103, 104, 105, 106, 107, 108, 109, 110, 111, 112, 113, 114, 115, 116, 117, 118, 119, 120, 121, 122] n == smallB n) (by decide +kernel) c
  exact eq_of_beq this

theorem in_greatK (c : UInt8) : inL [65, 66, 67, 68, 69, 70, 71, 72, 73, 74, 75, 76, 77, 78, 79, 80, 81, 82, 83, 84, 85, 86, 87, 88, 89, 90] c.toNat = greatB c.toNat := by
  have := all_bytes (P := fun n => inL [65, 66, 67, 68, 69, 70, 71, 72, 73, 74, 75, 76, 77, 78, 79, 80, 81, 82, 83, 84, 85, 86, 87, 88, 89, 90] n == greatB n) (by decide +kernel) c
  exact eq_of_beq this

theorem in_digitK (c : UInt8) : inL [48, 49, 50, 51, 52, 53, 54, 55, 56, 57] c.toNat = digitB c.toNat := by
  have := all_bytes (P := fun n => inL [48, 49, 50, 51, 52, 53, 54, 55, 56, 57] n == digitB n) (by decide +kernel) c
  exact eq_of_beq this

theorem in_nameK (c : UInt8) : inL [97, 98, 99, 100, 101, 102, 103, 104, 105, 106, 107, 108, 109, 110, 111, 112, 113, 114, 115, 116, 117, 118, 119, 120, 121, 122, 48, 49, 50, 51, 52, 53, 54, 55, 56, 57, 95] c.toNat = nameB c.toNat := by
  have := all_bytes (P := fun n => inL [97, 98, 99, 100, 101, 102, 103, 104, 105, 106, 107, 108, 109, 110, 111, 112, 113, 114, 115, 116, 117, 118, 119, 120, 121, 122, 48, 49, 50, 51, 52, 53, 54, 55, 56, 57, 95] n == nameB n) (by decide +kernel) c
  exact eq_of_beq this

theorem in_conK (c : UInt8) : inL [97, 98, 99, 100, 101, 102, 103, 104, 105, 106, 107, 108, 109, 110, 111, 112, 113, 114, 115, 116, 117, 118, 119, 120, 121, 122, 65, 66, 67, 68, 69, 70, 71, 72, 73, 74, 75, 76, 77, 78, 79, 80, 81, 82, 83, 84, 85, 86, 87, 88, 89, 90, 48, 49, 50, 51, 52, 53, 54, 55, 56, 57, 95] c.toNat = conB c.toNat := by
  have := all_bytes (P := fun n => inL [97, 98, 99, 100, 101, 102, 103, 104, 105, 106, 107, 108, 109, 110, 111, 112, 113, 114, 115, 116, 117, 118, 119, 120, 121, 122, 65, 66, 67, 68, 69, 70, 71, 72, 73, 74, 75, 76, 77, 78, 79, 80, 81, 82, 83, 84, 85, 86, 87, 88, 89, 90, 48, 49, 50, 51, 52, 53, 54, 55, 56, 57, 95] n == conB n) (by decide +kernel) c
  exact eq_of_beq this

theorem in_blankK (c : UInt8) : inL [32, 9, 10] c.toNat = blankB c.toNat := by
  have := all_bytes (P := fun n => inL [32, 9, 10] n == blankB n) (by decide +kernel) c
  exact eq_of_beq this

theorem in_signK (c : UInt8) : inL [40, 41, 61, 60, 43, 45, 42, 47, 59, 124, 33, 46, 95] c.toNat = decide (c ∈ signs) := by
  have := all_bytes (P := fun n => inL [40, 41, 61, 60, 43, 45, 42, 47, 59, 124, 33, 46, 95] n == decide (UInt8.ofNat n ∈ signs)) (by decide +kernel) c
  have h := eq_of_beq this
  rw [UInt8.ofNat_toNat] at h; exact h

theorem in_at_smallK (c : UInt8) (wx : World) : Calls Try.prog 28 #[.string ⟨#[97, 98, 99, 100, 101, 102, 103, 104, 105, 106, 107, 108, 109, 110, 111, 112, 113, 114, 115, 116, 117, 118, 119, 120, 121, 122]⟩, .int .u8 c.toNat] wx fun e w' => e = .returned (.bool (smallB c.toNat)) ∧ w' = wx := by
  have := in_any ⟨#[97, 98, 99, 100, 101, 102, 103, 104, 105, 106, 107, 108, 109, 110, 111, 112, 113, 114, 115, 116, 117, 118, 119, 120, 121, 122]⟩ c.toNat wx (by decide)
  rw [show inL (ByteArray.mk #[97, 98, 99, 100, 101, 102, 103, 104, 105, 106, 107, 108, 109, 110, 111, 112, 113, 114, 115, 116, 117, 118, 119, 120, 121, 122]).data.toList c.toNat = _ from in_smallK c] at this; exact this

theorem in_at_greatK (c : UInt8) (wx : World) : Calls Try.prog 28 #[.string ⟨#[65, 66, 67, 68, 69, 70, 71, 72, 73, 74, 75, 76, 77, 78, 79, 80, 81, 82, 83, 84, 85, 86, 87, 88, 89, 90]⟩, .int .u8 c.toNat] wx fun e w' => e = .returned (.bool (greatB c.toNat)) ∧ w' = wx := by
  have := in_any ⟨#[65, 66, 67, 68, 69, 70, 71, 72, 73, 74, 75, 76, 77, 78, 79, 80, 81, 82, 83, 84, 85, 86, 87, 88, 89, 90]⟩ c.toNat wx (by decide)
  rw [show inL (ByteArray.mk #[65, 66, 67, 68, 69, 70, 71, 72, 73, 74, 75, 76, 77, 78, 79, 80, 81, 82, 83, 84, 85, 86, 87, 88, 89, 90]).data.toList c.toNat = _ from in_greatK c] at this; exact this

theorem in_at_digitK (c : UInt8) (wx : World) : Calls Try.prog 28 #[.string ⟨#[48, 49, 50, 51, 52, 53, 54, 55, 56, 57]⟩, .int .u8 c.toNat] wx fun e w' => e = .returned (.bool (digitB c.toNat)) ∧ w' = wx := by
  have := in_any ⟨#[48, 49, 50, 51, 52, 53, 54, 55, 56, 57]⟩ c.toNat wx (by decide)
  rw [show inL (ByteArray.mk #[48, 49, 50, 51, 52, 53, 54, 55, 56, 57]).data.toList c.toNat = _ from in_digitK c] at this; exact this

theorem in_at_nameK (c : UInt8) (wx : World) : Calls Try.prog 28 #[.string ⟨#[97, 98, 99, 100, 101, 102, 103, 104, 105, 106, 107, 108, 109, 110, 111, 112, 113, 114, 115, 116, 117, 118, 119, 120, 121, 122, 48, 49, 50, 51, 52, 53, 54, 55, 56, 57, 95]⟩, .int .u8 c.toNat] wx fun e w' => e = .returned (.bool (nameB c.toNat)) ∧ w' = wx := by
  have := in_any ⟨#[97, 98, 99, 100, 101, 102, 103, 104, 105, 106, 107, 108, 109, 110, 111, 112, 113, 114, 115, 116, 117, 118, 119, 120, 121, 122, 48, 49, 50, 51, 52, 53, 54, 55, 56, 57, 95]⟩ c.toNat wx (by decide)
  rw [show inL (ByteArray.mk #[97, 98, 99, 100, 101, 102, 103, 104, 105, 106, 107, 108, 109, 110, 111, 112, 113, 114, 115, 116, 117, 118, 119, 120, 121, 122, 48, 49, 50, 51, 52, 53, 54, 55, 56, 57, 95]).data.toList c.toNat = _ from in_nameK c] at this; exact this

theorem in_at_conK (c : UInt8) (wx : World) : Calls Try.prog 28 #[.string ⟨#[97, 98, 99, 100, 101, 102, 103, 104, 105, 106, 107, 108, 109, 110, 111, 112, 113, 114, 115, 116, 117, 118, 119, 120, 121, 122, 65, 66, 67, 68, 69, 70, 71, 72, 73, 74, 75, 76, 77, 78, 79, 80, 81, 82, 83, 84, 85, 86, 87, 88, 89, 90, 48, 49, 50, 51, 52, 53, 54, 55, 56, 57, 95]⟩, .int .u8 c.toNat] wx fun e w' => e = .returned (.bool (conB c.toNat)) ∧ w' = wx := by
  have := in_any ⟨#[97, 98, 99, 100, 101, 102, 103, 104, 105, 106, 107, 108, 109, 110, 111, 112, 113, 114, 115, 116, 117, 118, 119, 120, 121, 122, 65, 66, 67, 68, 69, 70, 71, 72, 73, 74, 75, 76, 77, 78, 79, 80, 81, 82, 83, 84, 85, 86, 87, 88, 89, 90, 48, 49, 50, 51, 52, 53, 54, 55, 56, 57, 95]⟩ c.toNat wx (by decide)
  rw [show inL (ByteArray.mk #[97, 98, 99, 100, 101, 102, 103, 104, 105, 106, 107, 108, 109, 110, 111, 112, 113, 114, 115, 116, 117, 118, 119, 120, 121, 122, 65, 66, 67, 68, 69, 70, 71, 72, 73, 74, 75, 76, 77, 78, 79, 80, 81, 82, 83, 84, 85, 86, 87, 88, 89, 90, 48, 49, 50, 51, 52, 53, 54, 55, 56, 57, 95]).data.toList c.toNat = _ from in_conK c] at this; exact this

theorem in_at_blankK (c : UInt8) (wx : World) : Calls Try.prog 28 #[.string ⟨#[32, 9, 10]⟩, .int .u8 c.toNat] wx fun e w' => e = .returned (.bool (blankB c.toNat)) ∧ w' = wx := by
  have := in_any ⟨#[32, 9, 10]⟩ c.toNat wx (by decide)
  rw [show inL (ByteArray.mk #[32, 9, 10]).data.toList c.toNat = _ from in_blankK c] at this; exact this

theorem in_at_signK (c : UInt8) (wx : World) : Calls Try.prog 28 #[.string ⟨#[40, 41, 61, 60, 43, 45, 42, 47, 59, 124, 33, 46, 95]⟩, .int .u8 c.toNat] wx fun e w' => e = .returned (.bool (decide (c ∈ signs))) ∧ w' = wx := by
  have := in_any ⟨#[40, 41, 61, 60, 43, 45, 42, 47, 59, 124, 33, 46, 95]⟩ c.toNat wx (by decide)
  rw [show inL (ByteArray.mk #[40, 41, 61, 60, 43, 45, 42, 47, 59, 124, 33, 46, 95]).data.toList c.toNat = _ from in_signK c] at this; exact this

theorem span_at_nameK (s : ByteArray) (i : Nat) (wx : World) (hs : s.size ≤ maxLen) (hi : i ≤ s.size) : Calls Try.prog 34 #[.string s, .int .i64 i, .string ⟨#[97, 98, 99, 100, 101, 102, 103, 104, 105, 106, 107, 108, 109, 110, 111, 112, 113, 114, 115, 116, 117, 118, 119, 120, 121, 122, 48, 49, 50, 51, 52, 53, 54, 55, 56, 57, 95]⟩] wx fun e w' => e = .returned (.int .i64 (i + cnt nameB (s.data.toList.drop i) : Nat)) ∧ w' = wx := by
  have := span_any s i ⟨#[97, 98, 99, 100, 101, 102, 103, 104, 105, 106, 107, 108, 109, 110, 111, 112, 113, 114, 115, 116, 117, 118, 119, 120, 121, 122, 48, 49, 50, 51, 52, 53, 54, 55, 56, 57, 95]⟩ wx hs hi (by decide)
  rw [cnt_congr (show ∀ c : UInt8, inL (ByteArray.mk #[97, 98, 99, 100, 101, 102, 103, 104, 105, 106, 107, 108, 109, 110, 111, 112, 113, 114, 115, 116, 117, 118, 119, 120, 121, 122, 48, 49, 50, 51, 52, 53, 54, 55, 56, 57, 95]).data.toList c.toNat = nameB c.toNat from in_nameK)] at this; exact this

theorem span_at_conK (s : ByteArray) (i : Nat) (wx : World) (hs : s.size ≤ maxLen) (hi : i ≤ s.size) : Calls Try.prog 34 #[.string s, .int .i64 i, .string ⟨#[97, 98, 99, 100, 101, 102, 103, 104, 105, 106, 107, 108, 109, 110, 111, 112, 113, 114, 115, 116, 117, 118, 119, 120, 121, 122, 65, 66, 67, 68, 69, 70, 71, 72, 73, 74, 75, 76, 77, 78, 79, 80, 81, 82, 83, 84, 85, 86, 87, 88, 89, 90, 48, 49, 50, 51, 52, 53, 54, 55, 56, 57, 95]⟩] wx fun e w' => e = .returned (.int .i64 (i + cnt conB (s.data.toList.drop i) : Nat)) ∧ w' = wx := by
  have := span_any s i ⟨#[97, 98, 99, 100, 101, 102, 103, 104, 105, 106, 107, 108, 109, 110, 111, 112, 113, 114, 115, 116, 117, 118, 119, 120, 121, 122, 65, 66, 67, 68, 69, 70, 71, 72, 73, 74, 75, 76, 77, 78, 79, 80, 81, 82, 83, 84, 85, 86, 87, 88, 89, 90, 48, 49, 50, 51, 52, 53, 54, 55, 56, 57, 95]⟩ wx hs hi (by decide)
  rw [cnt_congr (show ∀ c : UInt8, inL (ByteArray.mk #[97, 98, 99, 100, 101, 102, 103, 104, 105, 106, 107, 108, 109, 110, 111, 112, 113, 114, 115, 116, 117, 118, 119, 120, 121, 122, 65, 66, 67, 68, 69, 70, 71, 72, 73, 74, 75, 76, 77, 78, 79, 80, 81, 82, 83, 84, 85, 86, 87, 88, 89, 90, 48, 49, 50, 51, 52, 53, 54, 55, 56, 57, 95]).data.toList c.toNat = conB c.toNat from in_conK)] at this; exact this

theorem span_at_digitK (s : ByteArray) (i : Nat) (wx : World) (hs : s.size ≤ maxLen) (hi : i ≤ s.size) : Calls Try.prog 34 #[.string s, .int .i64 i, .string ⟨#[48, 49, 50, 51, 52, 53, 54, 55, 56, 57]⟩] wx fun e w' => e = .returned (.int .i64 (i + cnt digitB (s.data.toList.drop i) : Nat)) ∧ w' = wx := by
  have := span_any s i ⟨#[48, 49, 50, 51, 52, 53, 54, 55, 56, 57]⟩ wx hs hi (by decide)
  rw [cnt_congr (show ∀ c : UInt8, inL (ByteArray.mk #[48, 49, 50, 51, 52, 53, 54, 55, 56, 57]).data.toList c.toNat = digitB c.toNat from in_digitK)] at this; exact this

end Go.Proofs.Ytnocnkblhjifjaa
