/-
  kilnref.word by its contract.
-/
import Derived.Test.YtnocnkblhjifjaaRefSmall
namespace Go.Proofs.Ytnocnkblhjifjaa
open Go.RowKit

def wl : List (List UInt8) := [[108, 101, 116], [114, 101, 99], [105, 110], [102, 117, 110], [105, 102], [116, 104, 101, 110], [101, 108, 115, 101], [109, 97, 116, 99, 104], [119, 105, 116, 104], [101, 110, 100], [116, 121, 112, 101], [100, 111], [116, 114, 117, 101], [102, 97, 108, 115, 101]]

theorem wordL_wl (l : List UInt8) : wordL l = wl.any (fun x => l == x) := by
  simp [wordL, wl, Bool.or_assoc]

theorem wl_hit (l : List UInt8) (k : Nat) (hk : k < wl.length) (h : (l == wl[k]) = true) : wl.any (fun x => l == x) = true :=
  List.any_eq_true.2 ⟨wl[k], List.getElem_mem hk, h⟩

theorem wl_miss (l : List UInt8) (k : Nat) (hk : k < wl.length) (h : (l == wl[k]) = false) (h0 : (wl.take k).any (fun x => l == x) = false) : (wl.take (k + 1)).any (fun x => l == x) = false := by
  rw [List.take_succ_eq_append_getElem hk, List.any_append, h0, List.any_cons, h]; rfl

set_option maxHeartbeats 2000000 in
theorem word_any (s : ByteArray) (w : World) :
    Calls Try.prog 35 #[.string s] w fun e w' => e = .returned (.bool (wordL s.data.toList)) ∧ Below w.heap.size w w' := by
  have hE : ∀ l : List UInt8, (l == s.toList) = (s.data.toList == l) := fun l => by rw [ByteArray.toList_eq]; exact Bool.beq_comm
  have HW : Hid (wordL s.data.toList = wl.any (fun x => s.data.toList == x)) := wordL_wl _
  generalize wordL s.data.toList = R at *
  go_enter Try.func35, Try.ntmps35
  go_wp2
  go_loop [4] (fun i => ∃ k : Nat, k ≤ 14 ∧ i = .int .i64 k ∧ Hid ((wl.take k).any (fun x => s.data.toList == x) = false)) (fun i => 14 - (intOf i).toNat)
  case atStart => exact ⟨0, Nat.zero_le _, rfl, show List.any _ _ = _ by rfl⟩
  case round =>
    obtain ⟨k, hk, rfl, H⟩ := hrel
    rcases (show k = 0 ∨ k = 1 ∨ k = 2 ∨ k = 3 ∨ k = 4 ∨ k = 5 ∨ k = 6 ∨ k = 7 ∨ k = 8 ∨ k = 9 ∨ k = 10 ∨ k = 11 ∨ k = 12 ∨ k = 13 ∨ k = 14 from by omega) with rfl | rfl | rfl | rfl | rfl | rfl | rfl | rfl | rfl | rfl | rfl | rfl | rfl | rfl | rfl
    · go_wp2
      · go_ret
        exact ⟨ret_bool (by rw [HW.out]; exact (wl_hit _ 0 (by decide) (show (s.data.toList == [108, 101, 116]) = true by assumption)).symm), (Below.refl _ _).alloc (Nat.le_refl _) _⟩
      · go_round
        case rel => exact ⟨1, by omega, by go_num, wl_miss _ 0 (by decide) (show (s.data.toList == [108, 101, 116]) = false by assumption) H.out⟩
        case measure => simp [intOf]
    · go_wp2
      · go_ret
        exact ⟨ret_bool (by rw [HW.out]; exact (wl_hit _ 1 (by decide) (show (s.data.toList == [114, 101, 99]) = true by assumption)).symm), (Below.refl _ _).alloc (Nat.le_refl _) _⟩
      · go_round
        case rel => exact ⟨2, by omega, by go_num, wl_miss _ 1 (by decide) (show (s.data.toList == [114, 101, 99]) = false by assumption) H.out⟩
        case measure => simp [intOf]
    · go_wp2
      · go_ret
        exact ⟨ret_bool (by rw [HW.out]; exact (wl_hit _ 2 (by decide) (show (s.data.toList == [105, 110]) = true by assumption)).symm), (Below.refl _ _).alloc (Nat.le_refl _) _⟩
      · go_round
        case rel => exact ⟨3, by omega, by go_num, wl_miss _ 2 (by decide) (show (s.data.toList == [105, 110]) = false by assumption) H.out⟩
        case measure => simp [intOf]
    · go_wp2
      · go_ret
        exact ⟨ret_bool (by rw [HW.out]; exact (wl_hit _ 3 (by decide) (show (s.data.toList == [102, 117, 110]) = true by assumption)).symm), (Below.refl _ _).alloc (Nat.le_refl _) _⟩
      · go_round
        case rel => exact ⟨4, by omega, by go_num, wl_miss _ 3 (by decide) (show (s.data.toList == [102, 117, 110]) = false by assumption) H.out⟩
        case measure => simp [intOf]
    · go_wp2
      · go_ret
        exact ⟨ret_bool (by rw [HW.out]; exact (wl_hit _ 4 (by decide) (show (s.data.toList == [105, 102]) = true by assumption)).symm), (Below.refl _ _).alloc (Nat.le_refl _) _⟩
      · go_round
        case rel => exact ⟨5, by omega, by go_num, wl_miss _ 4 (by decide) (show (s.data.toList == [105, 102]) = false by assumption) H.out⟩
        case measure => simp [intOf]
    · go_wp2
      · go_ret
        exact ⟨ret_bool (by rw [HW.out]; exact (wl_hit _ 5 (by decide) (show (s.data.toList == [116, 104, 101, 110]) = true by assumption)).symm), (Below.refl _ _).alloc (Nat.le_refl _) _⟩
      · go_round
        case rel => exact ⟨6, by omega, by go_num, wl_miss _ 5 (by decide) (show (s.data.toList == [116, 104, 101, 110]) = false by assumption) H.out⟩
        case measure => simp [intOf]
    · go_wp2
      · go_ret
        exact ⟨ret_bool (by rw [HW.out]; exact (wl_hit _ 6 (by decide) (show (s.data.toList == [101, 108, 115, 101]) = true by assumption)).symm), (Below.refl _ _).alloc (Nat.le_refl _) _⟩
      · go_round
        case rel => exact ⟨7, by omega, by go_num, wl_miss _ 6 (by decide) (show (s.data.toList == [101, 108, 115, 101]) = false by assumption) H.out⟩
        case measure => simp [intOf]
    · go_wp2
      · go_ret
        exact ⟨ret_bool (by rw [HW.out]; exact (wl_hit _ 7 (by decide) (show (s.data.toList == [109, 97, 116, 99, 104]) = true by assumption)).symm), (Below.refl _ _).alloc (Nat.le_refl _) _⟩
      · go_round
        case rel => exact ⟨8, by omega, by go_num, wl_miss _ 7 (by decide) (show (s.data.toList == [109, 97, 116, 99, 104]) = false by assumption) H.out⟩
        case measure => simp [intOf]
    · go_wp2
      · go_ret
        exact ⟨ret_bool (by rw [HW.out]; exact (wl_hit _ 8 (by decide) (show (s.data.toList == [119, 105, 116, 104]) = true by assumption)).symm), (Below.refl _ _).alloc (Nat.le_refl _) _⟩
      · go_round
        case rel => exact ⟨9, by omega, by go_num, wl_miss _ 8 (by decide) (show (s.data.toList == [119, 105, 116, 104]) = false by assumption) H.out⟩
        case measure => simp [intOf]
    · go_wp2
      · go_ret
        exact ⟨ret_bool (by rw [HW.out]; exact (wl_hit _ 9 (by decide) (show (s.data.toList == [101, 110, 100]) = true by assumption)).symm), (Below.refl _ _).alloc (Nat.le_refl _) _⟩
      · go_round
        case rel => exact ⟨10, by omega, by go_num, wl_miss _ 9 (by decide) (show (s.data.toList == [101, 110, 100]) = false by assumption) H.out⟩
        case measure => simp [intOf]
    · go_wp2
      · go_ret
        exact ⟨ret_bool (by rw [HW.out]; exact (wl_hit _ 10 (by decide) (show (s.data.toList == [116, 121, 112, 101]) = true by assumption)).symm), (Below.refl _ _).alloc (Nat.le_refl _) _⟩
      · go_round
        case rel => exact ⟨11, by omega, by go_num, wl_miss _ 10 (by decide) (show (s.data.toList == [116, 121, 112, 101]) = false by assumption) H.out⟩
        case measure => simp [intOf]
    · go_wp2
      · go_ret
        exact ⟨ret_bool (by rw [HW.out]; exact (wl_hit _ 11 (by decide) (show (s.data.toList == [100, 111]) = true by assumption)).symm), (Below.refl _ _).alloc (Nat.le_refl _) _⟩
      · go_round
        case rel => exact ⟨12, by omega, by go_num, wl_miss _ 11 (by decide) (show (s.data.toList == [100, 111]) = false by assumption) H.out⟩
        case measure => simp [intOf]
    · go_wp2
      · go_ret
        exact ⟨ret_bool (by rw [HW.out]; exact (wl_hit _ 12 (by decide) (show (s.data.toList == [116, 114, 117, 101]) = true by assumption)).symm), (Below.refl _ _).alloc (Nat.le_refl _) _⟩
      · go_round
        case rel => exact ⟨13, by omega, by go_num, wl_miss _ 12 (by decide) (show (s.data.toList == [116, 114, 117, 101]) = false by assumption) H.out⟩
        case measure => simp [intOf]
    · go_wp2
      · go_ret
        exact ⟨ret_bool (by rw [HW.out]; exact (wl_hit _ 13 (by decide) (show (s.data.toList == [102, 97, 108, 115, 101]) = true by assumption)).symm), (Below.refl _ _).alloc (Nat.le_refl _) _⟩
      · go_round
        case rel => exact ⟨14, by omega, by go_num, wl_miss _ 13 (by decide) (show (s.data.toList == [102, 97, 108, 115, 101]) = false by assumption) H.out⟩
        case measure => simp [intOf]
    · go_wp2
      go_ret
      exact ⟨ret_bool (by rw [HW.out]; exact H.out.symm), (Below.refl _ _).alloc (Nat.le_refl _) _⟩

end Go.Proofs.Ytnocnkblhjifjaa
