/-
  kilnref.in, span and word by their contracts.
-/
import Derived.Test.YtnocnkblhjifjaaCut
namespace Go.Proofs.Ytnocnkblhjifjaa
open Go.RowKit

/-- Does a byte stand in a text? -/
def inL (l : List UInt8) (c : Int) : Bool := l.any (fun b => (b.toNat : Int) == c)

theorem inL_yes (s : ByteArray) (k : Nat) (c : Int) (hk : k < s.size) (h : ((s[k].toNat : Int) == c) = true) : inL (s.data.toList.drop k) c = true := by
  rw [List.drop_eq_getElem_cons (show k < s.data.toList.length from hk)]
  simp only [inL, List.any_cons]
  rw [show s.data.toList[k] = s[k] from rfl, h]; rfl

theorem inL_no (s : ByteArray) (k : Nat) (c : Int) (hk : k < s.size) (h : ((s[k].toNat : Int) == c) = false) : inL (s.data.toList.drop k) c = inL (s.data.toList.drop (k + 1)) c := by
  rw [List.drop_eq_getElem_cons (show k < s.data.toList.length from hk)]
  simp only [inL, List.any_cons]
  rw [show s.data.toList[k] = s[k] from rfl, h]; rfl

theorem inL_end (s : ByteArray) (k : Nat) (c : Int) (hk : s.size ≤ k) : inL (s.data.toList.drop k) c = false := by
  rw [List.drop_of_length_le (show s.data.toList.length ≤ k from hk)]; rfl

set_option maxHeartbeats 400000 in
theorem in_any (s : ByteArray) (c : Int) (w : World) (hs : s.size ≤ maxLen) :
    Calls Try.prog 28 #[.string s, .int .u8 c] w fun e w' => e = .returned (.bool (inL s.data.toList c)) ∧ w' = w := by
  unfold maxLen at hs
  go_enter Try.func28, Try.ntmps28
  go_wp2
  go_loop [5] (fun i => ∃ k : Nat, k ≤ s.size ∧ i = .int .i64 k ∧ Hid (inL s.data.toList c = inL (s.data.toList.drop k) c)) (fun i => s.size - (intOf i).toNat)
  case atStart => exact ⟨0, Nat.zero_le _, rfl, show inL _ _ = _ by simp⟩
  case round =>
    obtain ⟨k, hk, rfl, H⟩ := hrel
    by_cases hlt : k < s.size
    · cases hb : ((s[k].toNat : Int) == c)
      · have HB : Hid (inL (s.data.toList.drop k) c = inL (s.data.toList.drop (k + 1)) c) := inL_no s k c hlt hb
        go_wp2
        go_round
        case rel => exact ⟨k + 1, by omega, by go_num, show inL _ _ = _ by rw [H.out, HB.out]⟩
        case measure => simp [intOf]; omega
      · have HB : Hid (inL (s.data.toList.drop k) c = true) := inL_yes s k c hlt hb
        go_wp2
        go_ret
        exact ⟨ret_bool (by rw [H.out, HB.out]), rfl⟩
    · have HB : Hid (inL (s.data.toList.drop k) c = false) := inL_end s k c (by omega)
      go_wp2
      go_ret
      exact ⟨ret_bool (by rw [H.out, HB.out]), rfl⟩

set_option maxHeartbeats 400000 in
theorem span_any (s : ByteArray) (i : Nat) (kd : ByteArray) (w : World) (hs : s.size ≤ maxLen) (hi : i ≤ s.size) (hk : kd.size ≤ maxLen) :
    Calls Try.prog 34 #[.string s, .int .i64 i, .string kd] w fun e w' => e = .returned (.int .i64 (i + cnt (inL kd.data.toList) (s.data.toList.drop i) : Nat)) ∧ w' = w := by
  have hs' : s.size ≤ 9223372036854775807 := hs
  have hin : ∀ (c : Int) (wx : World), Calls Try.prog 28 #[.string kd, .int .u8 c] wx fun e w' => e = .returned (.bool (inL kd.data.toList c)) ∧ w' = wx := fun c wx => in_any kd c wx hk
  generalize inL kd.data.toList = p at *
  have HIN : Hid (∀ (c : Int) (wx : World), Calls Try.prog 28 #[.string kd, .int .u8 c] wx fun e w' => e = .returned (.bool (p c)) ∧ w' = wx) := hin
  clear hin
  go_enter Try.func34, Try.ntmps34
  go_wp2
  go_loop [1] (fun j => ∃ k : Nat, k ≤ s.size ∧ j = .int .i64 k ∧ Hid (i + cnt p (s.data.toList.drop i) = k + cnt p (s.data.toList.drop k))) (fun j => s.size - (intOf j).toNat)
  case atStart => exact ⟨i, hi, rfl, show i + cnt _ _ = _ by rfl⟩
  case round =>
    obtain ⟨k, hk, rfl, H⟩ := hrel
    by_cases hlt : k < s.size
    · cases hb : p s[k].toNat
      · have HB : Hid (cnt p (s.data.toList.drop k) = 0) := cntS_no p s k hlt hb
        go_wp2_with (go_at_call 28; refine (HIN.out _ _).mono ?_; rintro e w' ⟨rfl, hw'⟩; subst w')
        go_ret
        exact ⟨ret_int (by have h1 := H.out; have h2 := HB.out; omega), rfl⟩
      · have HB : Hid (cnt p (s.data.toList.drop k) = 1 + cnt p (s.data.toList.drop (k + 1))) := cntS_yes p s k hlt hb
        go_wp2_with (go_at_call 28; refine (HIN.out _ _).mono ?_; rintro e w' ⟨rfl, hw'⟩; subst w')
        go_round
        case rel => exact ⟨k + 1, by omega, by go_num, show i + cnt _ _ = _ by rw [H.out, HB.out]; omega⟩
        case measure => simp [intOf]; omega
    · have HB : Hid (cnt p (s.data.toList.drop k) = 0) := cntS_end p s k (by omega)
      have hd : decide ((k : Int) < s.size) = false := by simp; omega
      go_wp2
      go_ret
      exact ⟨ret_int (by have h1 := H.out; have h2 := HB.out; omega), rfl⟩

end Go.Proofs.Ytnocnkblhjifjaa
