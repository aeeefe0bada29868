/- lodgelaw03.OctetBack answers true, whatever list of limbs and whatever text come in, and leaves memory below as it was. No condition. -/
import Derived.Test.YtepdmjdhlphkcaaAwake3
namespace Go.Proofs.Ytepdmjdhlphkcaa
open Go.RowKit Go.Shelf Num
set_option linter.unusedVariables false

set_option maxRecDepth 100000 in
set_option maxHeartbeats 8000000 in
theorem octetBack_big0 (a0 : Option Addr) (n0 c0 : Nat) (s : ByteArray) (w : World) (h0 : ¬ n0 ≤ 60) :
    Calls Try.prog 4 #[.slice a0 n0 c0, .string s] w fun e w' => e = .returned (.bool true) ∧ Below w.heap.size w w' := by
  have d0 : decide (60 < (n0 : Int)) = true := decide_eq_true (by omega)
  go_enter Try.func4, Try.ntmps4
  go_wp2_with fail
  refine (awake3_any _).mono ?_
  rintro e W1 ⟨rfl, hB⟩
  go_wp2
  go_ret
  exact ⟨rfl, hB⟩

set_option maxRecDepth 100000 in
set_option maxHeartbeats 8000000 in
theorem octetBack_big1 (a0 : Option Addr) (n0 c0 : Nat) (s : ByteArray) (w : World) (h0 : n0 ≤ 60) (h1 : ¬ s.size ≤ 500) :
    Calls Try.prog 4 #[.slice a0 n0 c0, .string s] w fun e w' => e = .returned (.bool true) ∧ Below w.heap.size w w' := by
  have d0 : decide (60 < (n0 : Int)) = false := decide_eq_false (by omega)
  have d1 : decide (500 < (s.size : Int)) = true := decide_eq_true (by omega)
  go_enter Try.func4, Try.ntmps4
  go_wp2_with fail
  refine (awake3_any _).mono ?_
  rintro e W1 ⟨rfl, hB⟩
  go_wp2
  go_ret
  exact ⟨rfl, hB⟩

set_option maxRecDepth 100000 in
set_option maxHeartbeats 8000000 in
theorem octetBack_in (a0 : Option Addr) (c0 : Nat) (xs : List Nat) (s : ByteArray) (w : World) (La : Lim w.heap.size w (.slice a0 xs.length c0) xs) (h0 : xs.length ≤ 60) (h1 : s.size ≤ 500) :
    Calls Try.prog 4 #[.slice a0 xs.length c0, .string s] w fun e w' => e = .returned (.bool true) ∧ Below w.heap.size w w' := by
  have d0 : decide (60 < (xs.length : Int)) = false := decide_eq_false (by omega)
  have d1 : decide (500 < (s.size : Int)) = false := decide_eq_false (by omega)
  have hnl := nbyt_limbs La.ok
  have hsz := size_data s
  have hn8 : (((nbits (val xs) : Nat) : Int) + 7) / 8 = ((nbyt (val xs) : Nat) : Int) := by unfold nbyt; omega
  have HN8 := Lib.hid hn8
  have HS := Lib.hid hsz
  clear hn8 hsz
  go_enter Try.func4, Try.ntmps4
  go_wp2_with fail
  refine (to_any _ xs _ La (by omega)).mono ?_
  rintro e W1 ⟨rfl, hb⟩
  replace La := La.next hb
  have B := hb
  clear hb
  obtain ⟨T, hTT, hT1, hT2, hT3⟩ := text_of (byts (val xs))
  rw [hTT]
  rw [byts_length] at hT2
  have HT1 := Lib.hid hT1
  have HT2 := Lib.hid hT2
  clear hTT hT1 hT2 hT3
  go_wp2_with fail
  refine (awake3_any _).mono ?_
  rintro e W2 ⟨rfl, hb⟩
  replace La := La.next hb
  replace B := B.trans (hb.mono B.size)
  clear hb
  go_wp2_with fail
  refine (from_any T _ (by rw [HT2.out]; omega)).mono ?_
  rintro e W3 hg
  obtain ⟨r1, rfl, L1, hb⟩ := from_lim HT1.out hg
  rw [bval_bytes] at L1
  replace La := La.next hb
  replace B := B.trans (hb.mono B.size)
  clear hb hg
  obtain ⟨R1, k1, rfl, _⟩ := id L1
  go_wp2_with fail
  refine (same_any _ _ (limbs (val xs)) xs _ L1 La (Nat.le_trans (limbs_len (val_pow La.ok h0)) (by omega)) (by omega) (val_limbs _)).mono ?_
  rintro e W4 ⟨rfl, hb⟩
  replace La := La.next hb
  replace B := B.trans (hb.mono B.size)
  clear hb L1
  go_wp2_with fail
  refine (whole_any _ _).mono ?_
  rw [HT1.out, whole_bytes]
  rintro e w' ⟨rfl, rfl⟩
  go_wp2_with fail
  refine (refBits_any _ xs _ La (by omega)).mono ?_
  rintro e W5 ⟨rfl, hb⟩
  replace La := La.next hb
  replace B := B.trans (hb.mono B.size)
  clear hb
  have hlen : (((nbits (val xs) : Nat) : Int) + 7) / 8 = (T.size : Int) := by rw [HT2.out]; exact HN8.out
  have hnb : nbits (val xs) ≤ 64 * 60 := nbits_val La.ok h0
  go_wp2_with fail
  have hna := nought_ahead s
  refine (from_any _ _ (by rw [size_data, hna, List.length_cons, ← HS.out]; omega)).mono ?_
  rintro e W6 hg
  obtain ⟨r2, rfl, L2, hb⟩ := from_lim hna hg
  rw [bval_zero_cons] at L2
  replace La := La.next hb
  replace B := B.trans (hb.mono B.size)
  clear hb hg hna
  obtain ⟨R2, k2, rfl, _⟩ := id L2
  go_wp2_with fail
  refine (from_any s _ (by omega)).mono ?_
  rintro e W7 ⟨r3, rfl, L3, hb⟩
  replace La := La.next hb
  replace L2 := L2.next hb
  replace B := B.trans (hb.mono B.size)
  clear hb
  obtain ⟨R3, k3, rfl, _⟩ := id L3
  have hl3 := limbs_len_bytes s.data.toList (k := 63) (by rw [← HS.out]; omega)
  go_wp2_with fail
  refine (same_any _ _ _ _ _ L2 L3 (by omega) (by omega) rfl).mono ?_
  rintro e W8 ⟨rfl, hb⟩
  replace La := La.next hb
  replace B := B.trans (hb.mono B.size)
  clear hb L2 L3
  go_wp2_with fail
  refine (from_any s _ (by omega)).mono ?_
  rintro e W9 ⟨r4, rfl, L4, hb⟩
  replace La := La.next hb
  replace B := B.trans (hb.mono B.size)
  clear hb
  obtain ⟨R4, k4, rfl, _⟩ := id L4
  go_wp2_with fail
  refine (to_any _ _ _ L4 (by omega)).mono ?_
  rw [val_limbs]
  rintro e W10 ⟨rfl, hb⟩
  replace La := La.next hb
  replace B := B.trans (hb.mono B.size)
  clear hb L4
  obtain ⟨U, hUU, hU1, hU2, hU3⟩ := text_of (byts (bval s.data.toList))
  have hU : (U.toList == s.toList) = whole s.data.toList := by rw [hU3, Lib.toList_data]; exact whole_is _
  rw [hUU]
  clear hUU hU1 hU2 hU3
  go_wp2_with fail
  refine (whole_any s _).mono ?_
  rintro e w' ⟨rfl, rfl⟩
  have hself : (whole s.data.toList == whole s.data.toList) = true := by simp
  go_wp2
  go_ret
  exact ⟨rfl, B⟩

theorem octetBack_walk (a0 : Option Addr) (n0 c0 : Nat) (s : ByteArray) (w : World) (w0 : ∃ xs : List Nat, xs.length = n0 ∧ Lim w.heap.size w (.slice a0 n0 c0) xs) (w1 : s.size ≤ maxLen) :
    Calls Try.prog 4 #[.slice a0 n0 c0, .string s] w fun e w' => e = .returned (.bool true) ∧ Below w.heap.size w w' := by
  by_cases h0 : n0 ≤ 60
  · by_cases h1 : s.size ≤ 500
    · obtain ⟨xs, rfl, L⟩ := w0
      exact octetBack_in a0 c0 xs s w L h0 h1
    · exact octetBack_big1 a0 n0 c0 s w h0 h1
  · exact octetBack_big0 a0 n0 c0 s w h0

end Go.Proofs.Ytepdmjdhlphkcaa
