/- The small functions of package octet: upTo, place, Whole; the document's Whole. Conditions: numbers below 2^50. -/
import Derived.Test.YtilbkfgbbajelaaBuf
import Derived.Test.YtilbkfgbbajelaaNumA
import Derived.Lib.Strings
namespace Go.Proofs.Ytilbkfgbbajelaa
open Go.RowKit Go.Shelf Num
set_option linter.unusedVariables false

theorem ret_pair {a b c d : Int} (h : a = c) (g : b = d) : Ending.returned (.tuple #[.int .i64 a, .int .i64 b]) = .returned (.tuple #[.int .i64 c, .int .i64 d]) := by rw [h, g]

set_option maxHeartbeats 400000 in
theorem upTo_any (c m : Nat) (w : World) (hc : c ≤ 1125899906842624) (hm : m = (c + 7) / 8) :
    Calls Try.prog 48 #[.int .i64 (c : Int), .int .i64 8] w fun e w' => e = .returned (.int .i64 (m : Int)) ∧ w = w' := by
  have HM := Lib.hid hm
  clear hm
  go_enter Try.func48, Try.ntmps48
  go_wp2
  go_ret
  exact ⟨ret_int (by rw [HM.out]; omega), rfl⟩

set_option maxHeartbeats 400000 in
theorem place_any (L i q t : Nat) (w : World) (hL : L ≤ 1125899906842624) (hi : i < L) (hq : q = (L - 1 - i) / 8) (ht : t = 8 * ((L - 1 - i) % 8)) :
    Calls Try.prog 49 #[.int .i64 (L : Int), .int .i64 (i : Int)] w fun e w' => e = .returned (.tuple #[.int .i64 (q : Int), .int .i64 (t : Int)]) ∧ w = w' := by
  have HQ := Lib.hid hq
  have HT := Lib.hid ht
  clear hq ht
  go_enter Try.func49, Try.ntmps49
  go_wp2
  go_ret2
  exact ⟨ret_pair (by rw [HQ.out]; omega) (by rw [HT.out]; omega), rfl⟩

theorem whole_data (s : ByteArray) (h : s.data.toList = []) : s = ⟨#[]⟩ := by
  rw [← Lib.mk_data s, h]
theorem size_data (s : ByteArray) : s.size = s.data.toList.length := Lib.size_eq s
theorem get_data (s : ByteArray) (k : Nat) (h : k < s.size) : s[k] = s.data.toList[k]'(by rw [← size_data]; exact h) := by
  rw [Array.getElem_toList]
  rfl
theorem byte_ne (b : UInt8) : (((b.toNat : Nat) : Int) != 0) = (b != 0) := by
  by_cases h : b = 0
  · subst h; rfl
  · have : b.toNat ≠ 0 := fun e => h (by apply UInt8.toNat_inj.1; rw [e]; rfl)
    have h1 : (b != 0) = true := by simpa using h
    rw [h1]
    simpa using this
theorem ret_bool {a b : Bool} (h : a = b) : Ending.returned (.bool a) = .returned (.bool b) := by rw [h]

set_option maxHeartbeats 400000 in
theorem whole_any (s : ByteArray) (w : World) :
    Calls Try.prog 27 #[.string s] w fun e w' => e = .returned (.bool (whole s.data.toList)) ∧ w = w' := by
  cases h : s.data.toList with
  | nil =>
    obtain rfl := whole_data s h
    go_enter Try.func27, Try.ntmps27
    go_wp2
    go_ret
    exact ⟨rfl, rfl⟩
  | cons b t =>
    have hl : s.toList = b :: t := by rw [Lib.toList_data, h]
    have hne : (s.toList == (ByteArray.mk #[]).toList) = false := by rw [hl, Lib.toList_data]; rfl
    have hsz : s.size = t.length + 1 := by rw [size_data, h]; rfl
    go_enter Try.func27, Try.ntmps27
    go_wp2
    go_ret
    refine ⟨ret_bool ?_, rfl⟩
    have e : s[0]'(by omega) = b := by rw [get_data]; simp [h]
    rw [e, byte_ne]
    rfl

set_option maxHeartbeats 400000 in
theorem refWhole_any (s : ByteArray) (w : World) :
    Calls Try.prog 32 #[.string s] w fun e w' => e = .returned (.bool (whole s.data.toList)) ∧ w = w' := by
  cases h : s.data.toList with
  | nil =>
    obtain rfl := whole_data s h
    go_enter Try.func32, Try.ntmps32
    go_wp2
    go_ret
    exact ⟨rfl, rfl⟩
  | cons b t =>
    have hl : s.toList = b :: t := by rw [Lib.toList_data, h]
    have hne : (s.toList == (ByteArray.mk #[]).toList) = false := by rw [hl, Lib.toList_data]; rfl
    have hsz : s.size = t.length + 1 := by rw [size_data, h]; rfl
    go_enter Try.func32, Try.ntmps32
    go_wp2
    go_ret
    refine ⟨ret_bool ?_, rfl⟩
    have e : s[0]'(by omega) = b := by rw [get_data]; simp [h]
    rw [e, byte_ne]
    rfl

end Go.Proofs.Ytilbkfgbbajelaa
