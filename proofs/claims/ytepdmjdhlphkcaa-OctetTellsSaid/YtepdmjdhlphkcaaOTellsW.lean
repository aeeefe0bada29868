/- lodgelaw03.OctetTells answers true, whatever list of limbs and whatever text come in, and leaves memory below as it was. No condition. -/
import Derived.Test.YtepdmjdhlphkcaaAwake3
import Derived.Test.YtepdmjdhlphkcaaOctR
import Derived.Test.YtepdmjdhlphkcaaOctS
namespace Go.Proofs.Ytepdmjdhlphkcaa
open Go.RowKit Go.Shelf Num
set_option linter.unusedVariables false

set_option maxRecDepth 100000 in
set_option maxHeartbeats 8000000 in
theorem octetTells_big0 (a0 : Option Addr) (n0 c0 : Nat) (s : ByteArray) (w : World) (h0 : ¬ n0 ≤ 60) :
    Calls Try.prog 3 #[.slice a0 n0 c0, .string s] w fun e w' => e = .returned (.bool true) ∧ Below w.heap.size w w' := by
  have d0 : decide (60 < (n0 : Int)) = true := decide_eq_true (by omega)
  go_enter Try.func3, Try.ntmps3
  go_wp2_with fail
  refine (awake3_any _).mono ?_
  rintro e W1 ⟨rfl, hB⟩
  go_wp2
  go_ret
  exact ⟨rfl, hB⟩

set_option maxRecDepth 100000 in
set_option maxHeartbeats 8000000 in
theorem octetTells_big1 (a0 : Option Addr) (n0 c0 : Nat) (s : ByteArray) (w : World) (h0 : n0 ≤ 60) (h1 : ¬ s.size ≤ 500) :
    Calls Try.prog 3 #[.slice a0 n0 c0, .string s] w fun e w' => e = .returned (.bool true) ∧ Below w.heap.size w w' := by
  have d0 : decide (60 < (n0 : Int)) = false := decide_eq_false (by omega)
  have d1 : decide (500 < (s.size : Int)) = true := decide_eq_true (by omega)
  go_enter Try.func3, Try.ntmps3
  go_wp2_with fail
  refine (awake3_any _).mono ?_
  rintro e W1 ⟨rfl, hB⟩
  go_wp2
  go_ret
  exact ⟨rfl, hB⟩

set_option maxRecDepth 100000 in
set_option maxHeartbeats 8000000 in
theorem octetTells_in (a0 : Option Addr) (c0 : Nat) (xs : List Nat) (s : ByteArray) (w : World) (La : Lim w.heap.size w (.slice a0 xs.length c0) xs) (h0 : xs.length ≤ 60) (h1 : s.size ≤ 500) :
    Calls Try.prog 3 #[.slice a0 xs.length c0, .string s] w fun e w' => e = .returned (.bool true) ∧ Below w.heap.size w w' := by
  have d0 : decide (60 < (xs.length : Int)) = false := decide_eq_false (by omega)
  have d1 : decide (500 < (s.size : Int)) = false := decide_eq_false (by omega)
  have hl3 := limbs_len_bytes s.data.toList (k := 63) (by rw [← size_data]; omega)
  obtain ⟨S, hSS, _, _, _⟩ := text_of (byts (val xs))
  have HSS := Lib.hid hSS
  clear hSS
  have hq : (S.toList == S.toList) = true := by simp
  go_enter Try.func3, Try.ntmps3
  go_wp2_with fail
  refine (awake3_any _).mono ?_
  rintro e W1 ⟨rfl, hb⟩
  replace La := La.next hb
  have B := hb
  clear hb
  go_wp2_with fail
  refine (to_any _ xs _ La (by omega)).mono ?_
  rw [HSS.out]
  rintro e W2 ⟨rfl, hb⟩
  replace La := La.next hb
  replace B := B.trans (hb.mono B.size)
  clear hb
  go_wp2_with fail
  refine (refTo_any _ xs _ La (by omega)).mono ?_
  rw [HSS.out]
  rintro e W3 ⟨rfl, hb⟩
  replace La := La.next hb
  replace B := B.trans (hb.mono B.size)
  clear hb
  go_wp2_with fail
  refine (from_any s _ (by omega)).mono ?_
  rintro e W4 ⟨r1, rfl, L1, hb⟩
  replace B := B.trans (hb.mono B.size)
  clear hb La
  obtain ⟨R1, k1, rfl, _⟩ := id L1
  go_wp2_with fail
  refine (refFrom_any s _ (by omega)).mono ?_
  rintro e W5 ⟨r2, rfl, L2, hb⟩
  replace L1 := L1.next hb
  replace B := B.trans (hb.mono B.size)
  clear hb
  obtain ⟨R2, k2, rfl, _⟩ := id L2
  go_wp2_with fail
  refine (same_any _ _ _ _ _ L1 L2 (by omega) (by omega) rfl).mono ?_
  rintro e W6 ⟨rfl, hb⟩
  replace B := B.trans (hb.mono B.size)
  clear hb L1 L2
  go_wp2_with fail
  refine (from_any s _ (by omega)).mono ?_
  rintro e W7 ⟨r3, rfl, L3, hb⟩
  replace B := B.trans (hb.mono B.size)
  clear hb
  obtain ⟨R3, k3, rfl, _⟩ := id L3
  clear L3
  go_wp2_with fail
  refine (refFrom_any s _ (by omega)).mono ?_
  rintro e W8 ⟨r4, rfl, L4, hb⟩
  replace B := B.trans (hb.mono B.size)
  clear hb
  obtain ⟨R4, k4, rfl, _⟩ := id L4
  clear L4
  go_wp2_with fail
  refine (whole_any s _).mono ?_
  rintro e w' ⟨rfl, rfl⟩
  go_wp2_with fail
  refine (refWhole_any s _).mono ?_
  rintro e w' ⟨rfl, rfl⟩
  have hself : (whole s.data.toList == whole s.data.toList) = true := by simp
  go_wp2
  go_ret
  exact ⟨rfl, B⟩

theorem octetTells_walk (a0 : Option Addr) (n0 c0 : Nat) (s : ByteArray) (w : World) (w0 : ∃ xs : List Nat, xs.length = n0 ∧ Lim w.heap.size w (.slice a0 n0 c0) xs) (w1 : s.size ≤ maxLen) :
    Calls Try.prog 3 #[.slice a0 n0 c0, .string s] w fun e w' => e = .returned (.bool true) ∧ Below w.heap.size w w' := by
  by_cases h0 : n0 ≤ 60
  · by_cases h1 : s.size ≤ 500
    · obtain ⟨xs, rfl, L⟩ := w0
      exact octetTells_in a0 c0 xs s w L h0 h1
    · exact octetTells_big1 a0 n0 c0 s w h0 h1
  · exact octetTells_big0 a0 n0 c0 s w h0

end Go.Proofs.Ytepdmjdhlphkcaa
